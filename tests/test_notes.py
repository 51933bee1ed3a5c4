"""Point 16: plans written by the names of their guests, and read again."""

import random

from newfaces.errors import BadText
from newfaces.hosts import with_hosts
from newfaces.notes import read, written
from newfaces.parties import Party
from newfaces.turnings import rounds_made
from tests.plain import PARTIES, AskingCase, some_full_round, some_round

# Names of one letter and of eight, some within others, and not in the order of the letters.
NAMES = ["b", "a", "ab", "ba", "aba", "abababab", "z", "zz", "zzzzzzzz"]

# For nine guests at tables of three, by these names.
NO_ROWS = {
    "an empty row": "",
    "a word that is no name": "a c",
    "a name within a name": "zzz",
    "a name with another behind it": "aab",
    "a name in capitals": "A b",
    "a number": "a 0",
    "a name twice at a table": "a b a",
    "a name twice in a row": "a b | ab a",
    "a name twice at tables of one": "z | z",
    "an empty table at first": " | a b",
    "an empty table in the middle": "a |  | b",
    "an empty table in the middle with one blank": "a | | b",
    "an empty table at last": "a b | ",
    "nothing but a sign": " | ",
    "nothing but a sign without blanks": "|",
    "nothing but a blank": " ",
    "too many at a table": "a b ab ba",
    "too many at a later table": "z | a b ab ba",
    "too many tables": "a | b | ab | ba",
    "a blank too many": "a  b",
    "a blank too many ahead of a sign": "a  | b",
    "a blank too many behind a sign": "a |  b",
    "a blank at first": " a b",
    "a blank at the end": "a b ",
    "a blank at the end of a row with a sign": "a | b ",
    "a blank too few": "a | bab",
    "a blank too few ahead of a sign": "a| b",
    "a blank too few behind a sign": "a |b",
    "no blanks beside a sign": "a|b",
    "a sign at first": "| a b",
    "a sign at the end": "a b |",
    "two signs": "a || b",
    "two signs with a blank between": "a | | b",
    "a sign left out": "a b ab ba aba",
    "another sign": "a / b",
    "a comma": "a, b",
    "a tab for a blank": "a\tb",
    "a blank of another kind": "a\u00a0b",
    "the mark of a line end of another kind": "a b\r",
    "a form feed": "a\x0cb",
    "a line end of yet another kind": "a\u2028b",
}

ROWS = ["b a ab | ba aba abababab | z zz zzzzzzzz", "b ba z | a aba", "zz"]

PLAN = [((0, 1, 2), (3, 4, 5), (6, 7, 8)), ((0, 3, 6), (1, 4)), ((7,),)]


def some_names(chance, guests):
    names = {}
    while len(names) < guests:
        # Few letters, so that many are within others.
        names["".join(chance.choice("abz") for at in range(chance.randint(1, 8)))] = True
    names = list(names)
    chance.shuffle(names)
    return names


def shuffled(chance, text):
    """The same text with the names and the tables of each row in another order."""
    rows = []
    for row in text.split("\n"):
        tables = [table.split(" ") for table in row.split(" | ")]
        for table in tables:
            chance.shuffle(table)
        chance.shuffle(tables)
        rows.append(" | ".join(" ".join(table) for table in tables))
    return "\n".join(rows)


class NotesCase(AskingCase):

    def setUp(self):
        self.nine = Party(9, 3)

    def check_read(self, party, text, names, plan):
        told = self.ask(read, party, text, names)
        self.assertEqual(told, plan)
        self.check_rounds(told)

    def check_written(self, party, plan, names, text):
        told = self.ask(written, party, plan, names)
        self.assertEqual(told, text)
        self.assertIs(type(told), str)

    def check(self, party, plan, names, text):
        """Written so, and read again."""
        self.check_written(party, plan, names, text)
        self.check_read(party, text, names, plan)

    def check_no_text(self, text, row):
        with self.subTest(text=text):
            refusal = self.check_refused(BadText, read, self.nine, text, NAMES)
            self.assertEqual(refusal.row, row)
            self.assertIs(type(refusal.row), int)


class WrittenTest(NotesCase):

    def test_rows(self):
        self.check(self.nine, PLAN, NAMES, "\n".join(ROWS))
        for tables, row in zip(PLAN, ROWS):
            self.check(self.nine, [tables], NAMES, row)

    def test_the_empty_text(self):
        for party in (Party(2, 2), self.nine, Party(64, 8)):
            self.check(party, [], some_names(random.Random(20), party.guests()), "")

    def test_one_guest(self):
        self.check(Party(2, 2), [((1,),)], ["anne", "bo"], "bo")
        self.check(Party(4, 2), [((2,), (3,))], ["d", "c", "b", "a"], "b | a")

    def test_a_round_of_no_tables_is_an_empty_row(self):
        self.check_written(self.nine, [()], NAMES, "")
        self.check_written(self.nine, [(), ()], NAMES, "\n")
        self.check_written(self.nine, [((0,),), ()], NAMES, "b\n")
        self.check_written(self.nine, [(), ((0,),)], NAMES, "\nb")
        self.check_written(self.nine, [((0,),), (), ((1, 2),)], NAMES, "b\n\na ab")

    def test_an_empty_row_is_not_read_again(self):
        for plan, row in (([(), ()], 0), ([((0,),), ()], 1), ([(), ((0,),)], 0), (PLAN[:2] + [()] + PLAN[2:], 2),
                          ([()] * 5, 0), (PLAN + [()], 3)):
            self.check_no_text(written(self.nine, plan, NAMES), row)

    def test_a_plan_that_is_not_good(self):
        plan = [((0, 1), (2, 3)), ((0, 1), (2, 3)), ((0, 1),)]
        self.check(Party(4, 2), plan, ["x", "y", "w", "v"], "x y | w v\nx y | w v\nx y")

    def test_names_go_by_the_guests_not_by_the_letters(self):
        self.check(Party(4, 2), [((0, 3), (1, 2))], ["zoe", "yan", "bob", "ann"], "zoe ann | yan bob")

    def test_plans_of_all_parties(self):
        chance = random.Random(21)
        for guests, size in PARTIES:
            party, names = Party(guests, size), some_names(chance, guests)
            plan = [chance.choice((some_round, some_full_round))(chance, guests, size) for at in range(5)]
            # A round of no tables could not be read again.
            plan = [tables for tables in plan if tables]
            with self.subTest(guests=guests, size=size, names=names, plan=plan):
                text = written(party, plan, names)
                self.check(party, plan, names, text)
                self.check_read(party, shuffled(chance, text) if plan else "", names, plan)

    def test_large_plans(self):
        chance = random.Random(22)
        for guests, size in ((64, 2), (49, 7), (9, 3)):
            party, names = Party(guests, size), some_names(chance, guests)
            plan = rounds_made(party)
            text = written(party, plan, names)
            self.assertEqual((text.count("\n"), text.count("|")), (len(plan) - 1, (guests // size - 1) * len(plan)))
            self.check(party, plan, names, text)
        self.check(Party(6, 2), with_hosts(3, 2), list("abcdef"), "a d | b e | c f\na f | b d | c e\na e | b f | c d")


class ReadTest(NotesCase):

    def test_names_in_another_order(self):
        self.check_read(self.nine, "ab a b", NAMES, [((0, 1, 2),)])
        self.check_read(self.nine, "a zzzzzzzz b | ba", NAMES, [((0, 1, 8), (3,))])

    def test_tables_in_another_order(self):
        self.check_read(self.nine, "z zz zzzzzzzz | b a ab | ba aba abababab", NAMES, PLAN[:1])
        self.check_read(self.nine, "zz | aba | b", NAMES, [((0,), (4,), (7,))])

    def test_both_in_another_order(self):
        self.check_read(self.nine, "aba a | ba z b\nzz", NAMES, PLAN[1:])
        chance = random.Random(23)
        for number in range(50):
            self.check_read(self.nine, shuffled(chance, "\n".join(ROWS)), NAMES, PLAN)

    def test_rows_stay_in_their_order(self):
        self.check_read(self.nine, "z\nb\nz a", NAMES, [((6,),), ((0,),), ((1, 6),)])

    def test_two_who_sit_together_twice_are_no_reason(self):
        self.check_read(self.nine, "a b\nb a", NAMES, [((0, 1),), ((0, 1),)])

    def test_rows_that_are_no_rounds(self):
        for why, row in NO_ROWS.items():
            with self.subTest(why=why):
                # Alone, the empty row is that of a plan of no rounds.
                if row:
                    self.check_no_text(row, 0)
                self.check_no_text(row + "\n" + ROWS[0], 0)
                self.check_no_text("\n".join(ROWS[:1] + [row] + ROWS[1:]), 1)
                self.check_no_text("\n".join(ROWS + [row]), 3)

    def test_the_first_of_several(self):
        rows = list(NO_ROWS.values())
        for first, second in zip(rows, rows[1:] + rows[:1]):
            self.check_no_text(first + "\n" + second, 0)
            self.check_no_text("\n".join(ROWS + [first] + ROWS + [second]), 3)
            self.check_no_text("\n".join(ROWS[:1] + [first, second]), 1)

    def test_a_line_end_too_many(self):
        text = "\n".join(ROWS)
        self.check_no_text(text + "\n", 3)
        self.check_no_text("\n" + text, 0)
        self.check_no_text(text.replace("\n", "\n\n"), 1)
        self.check_no_text("\n", 0)
        self.check_no_text("a b\n\n", 1)

    def test_a_line_end_left_out(self):
        self.check_no_text("a b z ba", 0)
        self.check_no_text("a b | z\na | a", 1)

    def test_the_party_decides(self):
        names = ["a", "b", "c", "d", "e", "f"]
        self.check_read(Party(6, 3), "a b c | d e", names, [((0, 1, 2), (3, 4))])
        self.check_read(Party(6, 2), "a b | c | d e", names, [((0, 1), (2,), (3, 4))])
        for party, text in ((Party(6, 2), "a b c | d e"), (Party(6, 3), "a b | c | d e"), (Party(6, 6), "a | b")):
            self.assertEqual(self.check_refused(BadText, read, party, text, names).row, 0)

    def test_the_names_decide(self):
        self.check_read(Party(2, 2), "a b", ["a", "b"], [((0, 1),)])
        self.check_read(Party(2, 2), "a", ["b", "a"], [((1,),)])
        self.assertEqual(self.check_refused(BadText, read, Party(2, 2), "a b", ["a", "c"]).row, 0)

    def test_names_beyond_eight_letters(self):
        # The document limits the names, but refuses none.
        names = ["abcdefghi", "b", "c", "d"]
        self.check(Party(4, 2), [((0, 1), (2,))], names, "abcdefghi b | c")
