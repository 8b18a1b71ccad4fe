"""Whether a heap has a dating: the earliest one, or a ring of steps; the least costs of its chains, and such chains."""

from inkyears.errors import Stuck
from inkyears.steps import steps_of
from inkyears.words import is_whole


def place_of(end, ground):
    # Lists over the letters and the ground have the ground behind the last letter.
    return ground if end is None else end


def is_kept(step, years):
    ground = len(years) - 1
    return years[place_of(step[1], ground)] <= years[place_of(step[0], ground)] + step[2]


def holds(archive, sayings, years):
    if len(years) != len(archive.letters) or not all([is_whole(year) for year in years]):
        return False
    grounded = years + [0]
    return all([is_kept(step, grounded) for step in steps_of(archive, sayings)])


def raise_years(steps, years, raisers):
    ground = len(years) - 1
    raised = None
    for step in steps:
        if not is_kept(step, years):
            raised = place_of(step[0], ground)
            years[raised] = years[place_of(step[1], ground)] - step[2]
            raisers[raised] = step
    return raised


def ring_behind(raisers, place):
    ground = len(raisers) - 1
    # As many steps as there are places lead into the ring, from wherever they begin.
    for turn in range(len(raisers)):
        place = place_of(raisers[place][1], ground)
    ring = [raisers[place]]
    end = place_of(raisers[place][1], ground)
    while end != place:
        ring.append(raisers[end])
        end = place_of(raisers[end][1], ground)
    return ring


def settled_by(archive, steps):
    ground = len(archive.letters)
    # From a year ahead of the span each letter is raised at least once, so that a step stands behind its year.
    years = [archive.first - 1] * ground + [0]
    raisers = [None] * (ground + 1)
    raised = None
    # A least year comes of a chain without a place twice, so the last turn raises one by a ring alone.
    for turn in range(ground + 1):
        raised = raise_years(steps, years, raisers)
    if raised is None:
        return ("dating", years[0:ground])
    return ("ring", ring_behind(raisers, raised))


def settled(archive, sayings):
    return settled_by(archive, steps_of(archive, sayings))


def refuse_rings(archive, steps):
    if settled_by(archive, steps)[0] == "ring":
        raise Stuck()


def span_costs(archive):
    ground = len(archive.letters)
    # From letter to letter the span leads over the ground.
    costs = [[archive.present - archive.first] * ground + [0 - archive.first] for letter in archive.letters]
    costs.append([archive.present] * ground + [0])
    for letter in range(ground):
        costs[letter][letter] = 0
    return costs


def costs_by(archive, steps):
    refuse_rings(archive, steps)
    ground = len(archive.letters)
    costs = span_costs(archive)
    for step in steps:
        start = place_of(step[0], ground)
        end = place_of(step[1], ground)
        costs[start][end] = min(costs[start][end], step[2])
    for over in range(ground + 1):
        for start in range(ground + 1):
            for end in range(ground + 1):
                costs[start][end] = min(costs[start][end], costs[start][over] + costs[over][end])
    return costs


def least_costs(archive, sayings):
    return costs_by(archive, steps_of(archive, sayings))


def lead_on(steps, costs, lasts):
    ground = len(costs) - 1
    for step in steps:
        start = place_of(step[0], ground)
        end = place_of(step[1], ground)
        if costs[start] is not None and (costs[end] is None or costs[start] + step[2] < costs[end]):
            costs[end] = costs[start] + step[2]
            lasts[end] = step


def least_chain(archive, steps, start, end):
    ground = len(archive.letters)
    costs = [None] * (ground + 1)
    costs[start] = 0
    lasts = [None] * (ground + 1)
    # Without rings below nought a chain of least cost needs no place twice, so it has no more steps than letters.
    for turn in range(ground):
        lead_on(steps, costs, lasts)
    chain = []
    while end != start:
        chain.append(lasts[end])
        end = place_of(lasts[end][0], ground)
    chain.reverse()
    return chain
