"""Two letters: the least and the greatest gap of their years, datings with a gap, and which letter came first."""

from inkyears.errors import NoGap
from inkyears.nets import least_chain, least_costs
from inkyears.spans import earliest_beside
from inkyears.steps import steps_of


def dating_apart(costs, one, other, gap):
    ground = len(costs) - 1
    # The earliest year of the one by which neither letter comes ahead of its own least year.
    year = max(0 - costs[one][ground], gap - costs[other][ground])
    return earliest_beside(costs, [(one, year), (other, year - gap)])


def gap_of(archive, sayings, one, other):
    costs = least_costs(archive, sayings)
    steps = steps_of(archive, sayings)
    least = 0 - costs[one][other]
    greatest = costs[other][one]
    return (
        least,
        greatest,
        least_chain(archive, steps, one, other),
        least_chain(archive, steps, other, one),
        dating_apart(costs, one, other, least),
        dating_apart(costs, one, other, greatest),
    )


def gap_with(archive, sayings, one, other, gap):
    costs = least_costs(archive, sayings)
    if not 0 - costs[one][other] <= gap <= costs[other][one]:
        raise NoGap(gap)
    return dating_apart(costs, one, other, gap)


def first_of(archive, sayings, one, other):
    gap = gap_of(archive, sayings, one, other)
    least = gap[0]
    greatest = gap[1]
    if greatest < 0:
        return ("ahead", gap[3])
    if least > 0:
        return ("behind", gap[2])
    if least == greatest:
        return ("same", gap[3], gap[2])
    # The least gap isn't above 0, the greatest isn't below 0, and they are unlike: their datings part.
    return ("open", gap[4], gap[5])
