"""The refusals of the program, each straight under PartyError."""


class PartyError(ValueError):
    """Any refusal."""


class BadParty(PartyError):
    """There is no such party."""


class BadRound(PartyError):
    """The thing of this number in a plan is no round."""

    def __init__(self, number):
        super().__init__(f"thing {number} of the plan is no round")
        self.number = number


class BadTurning(PartyError):
    """A list of numbers is no turning."""


class BadText(PartyError):
    """The row of this number in a text is no round so written."""

    def __init__(self, row):
        super().__init__(f"row {row} of the text is no round")
        self.row = row
