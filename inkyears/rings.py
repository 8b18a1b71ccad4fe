"""What can't all be: a ring of fewest sayings, with a paper that no ring has fewer; and whether a saying is spare."""

from inkyears.nets import costs_by, least_chain, place_of, settled, span_costs
from inkyears.steps import saying_steps, span_steps, steps_of, steps_without


def cost_over(row, step, spans, end):
    ground = len(spans) - 1
    return row[place_of(step[0], ground)] + step[2] + spans[place_of(step[1], ground)][end]


def row_with_one_more(row, steps, spans):
    made = []
    for end, cost in enumerate(row):
        made.append(min([cost] + [cost_over(row, step, spans, end) for step in steps]))
    return made


def closing_step(steps, costs):
    ground = len(costs) - 1
    for step in steps:
        if costs[place_of(step[1], ground)][place_of(step[0], ground)] + step[2] < 0:
            return step
    return None


def paper_of(archive, steps):
    spans = span_costs(archive)
    paper = [spans]
    while closing_step(steps, paper[-1]) is None:
        paper.append([row_with_one_more(row, steps, spans) for row in paper[-1]])
    return paper


def span_chain(archive, start, end):
    ground = len(archive.letters)
    if start == end:
        return []
    down = [] if start == ground else [span_steps(archive, start)[1]]
    up = [] if end == ground else [span_steps(archive, end)[0]]
    return down + up


def ring_by(archive, steps, paper):
    ground = len(archive.letters)
    ring = [closing_step(steps, paper[-1])]
    start = place_of(ring[0][1], ground)
    # As no ring has fewer sayings, each table but the first one has a step to add, and no place comes twice.
    for most in range(len(paper) - 1, 0, -1):
        end = place_of(ring[0][0], ground)
        cost = paper[most][start][end]
        fewer = paper[most - 1][start]
        step = [some for some in steps if cost_over(fewer, some, paper[0], end) == cost][0]
        ring = [step] + span_chain(archive, place_of(step[1], ground), end) + ring
    return span_chain(archive, start, place_of(ring[0][0], ground)) + ring


def datings_without_each(archive, sayings, numbers):
    datings = []
    for number in numbers:
        others = [sayings[other] for other in numbers if other != number]
        datings.append((number, settled(archive, others)[1]))
    return datings


def fewest_ring(archive, sayings):
    if settled(archive, sayings)[0] == "dating":
        return None
    steps = [step for step in steps_of(archive, sayings) if step[3] is not None]
    paper = paper_of(archive, steps)
    ring = ring_by(archive, steps, paper)
    numbers = sorted([step[3] for step in ring if step[3] is not None])
    return (ring, paper, datings_without_each(archive, sayings, numbers))


def farthest_from(costs, start):
    ground = len(costs) - 1
    return [costs[start][letter] - costs[start][ground] for letter in range(ground)]


def is_spare(archive, sayings, number):
    steps = steps_without(archive, sayings, [number])
    costs = costs_by(archive, steps)
    ground = len(archive.letters)
    chains = []
    # A saying's step of its high bound comes first; the chain for its low one is due first.
    for step in reversed(saying_steps(sayings[number], number)):
        start = place_of(step[0], ground)
        end = place_of(step[1], ground)
        if costs[start][end] > step[2]:
            # As far behind the start as can be, the end is farther than the saying lets it.
            return ("bare", farthest_from(costs, start))
        chains.append(least_chain(archive, steps, start, end))
    return ("spare", chains)
