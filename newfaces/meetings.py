"""Meetings: who has sat with whom in a plan, and who has not."""

from newfaces.rounds import check_plan, pairs


def met(party, plan):
    """Tell for each guest the rising list of those whom it sat with in a plan."""
    check_plan(party, plan)
    # By number, since two may have met more than once behind a plan that is not good.
    company = [{} for guest in range(party.guests())]
    for tables in plan:
        for a, b in pairs(tables):
            company[a][b] = True
            company[b][a] = True
    return [sorted(others) for others in company]


def unmet(party, plan):
    """Tell for each guest the rising list of all others whom it has not sat with in a plan."""
    everyone = list(range(party.guests()))
    return [[other for other in everyone if other != guest and other not in others]
            for guest, others in enumerate(met(party, plan))]
