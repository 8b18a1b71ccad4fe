"""The years of letters: the least and the greatest of each, the chains that shut others, and datings with a year."""

from inkyears.errors import NoYear
from inkyears.nets import least_chain, least_costs, refuse_rings
from inkyears.steps import steps_of


def years_of(archive, sayings):
    costs = least_costs(archive, sayings)
    ground = len(archive.letters)
    return [(0 - costs[letter][ground], costs[ground][letter]) for letter in range(ground)]


def earliest(archive, sayings):
    return [least for least, greatest in years_of(archive, sayings)]


def latest(archive, sayings):
    return [greatest for least, greatest in years_of(archive, sayings)]


def chains_of(archive, sayings, letter):
    steps = steps_of(archive, sayings)
    refuse_rings(archive, steps)
    ground = len(archive.letters)
    return (least_chain(archive, steps, letter, ground), least_chain(archive, steps, ground, letter))


def least_beside(costs, given):
    return max([year - costs[place] for place, year in given])


def earliest_beside(costs, given):
    ground = len(costs) - 1
    # The ground's year is always given: beside it alone each letter has its least year.
    grounded = given + [(ground, 0)]
    return [least_beside(costs[letter], grounded) for letter in range(ground)]


def dating_with(archive, sayings, letter, year):
    costs = least_costs(archive, sayings)
    ground = len(archive.letters)
    if not 0 - costs[letter][ground] <= year <= costs[ground][letter]:
        raise NoYear(year)
    return earliest_beside(costs, [(letter, year)])
