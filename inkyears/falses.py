"""What must be false: the fewest sayings without which a heap has a dating, and the rings that fewer leave."""

from inkyears.nets import settled_by
from inkyears.steps import steps_without

MOST_FALSE = 2


def with_one_more(tuples, many):
    longer = []
    for numbers in tuples:
        least = numbers[-1] + 1 if len(numbers) > 0 else 0
        longer.extend([numbers + (number,) for number in range(least, many)])
    return longer


def fewest_false(archive, sayings):
    rings = []
    tuples = [()]
    for size in range(MOST_FALSE + 1):
        found = []
        for numbers in tuples:
            told = settled_by(archive, steps_without(archive, sayings, numbers))
            if told[0] == "dating":
                # The rings of as many numbers aren't due, only those of fewer.
                return ("drop", numbers, told[1], rings)
            found.append((numbers, told[1]))
        rings.extend(found)
        tuples = with_one_more(tuples, len(sayings))
    return ("more", rings)
