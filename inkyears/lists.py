"""Datings by numbers: the parts of a heap, the datings of each part, and how a whole dating is numbered by them."""

from inkyears.errors import NoDating, NoNumber, TooMany
from inkyears.nets import holds, least_costs
from inkyears.spans import least_beside

MOST_DATINGS = 2000


def has_some_of(part, letters):
    return len(set(part) & set(letters)) > 0


def joined(parts, letters):
    linked = []
    for part in parts:
        if has_some_of(part, letters):
            linked.extend(part)
    return sorted([part for part in parts if not has_some_of(part, letters)] + [sorted(linked)])


def parts_of(archive, sayings):
    parts = [[letter] for letter in range(len(archive.letters))]
    for saying in sayings:
        parts = joined(parts, saying.about())
    return parts


def years_beside(costs, letter, given):
    least = least_beside(costs[letter], given)
    greatest = min([year + costs[place][letter] for place, year in given])
    return list(range(least, greatest + 1))


def datings_by(costs, part):
    ground = len(costs) - 1
    datings = [()]
    for letter in part:
        longer = []
        for years in datings:
            given = [(ground, 0)] + list(zip(part, years))
            longer.extend([years + (year,) for year in years_beside(costs, letter, given)])
            # By least costs each of these goes on to a dating, so that there are no fewer of those.
            if len(longer) > MOST_DATINGS:
                raise TooMany(part[0])
        datings = longer
    return datings


def part_datings(archive, sayings, part):
    return datings_by(least_costs(archive, sayings), part)


def lists_of(archive, sayings):
    costs = least_costs(archive, sayings)
    return [datings_by(costs, part) for part in parts_of(archive, sayings)]


def many_together(lists):
    many = 1
    for datings in lists:
        many = many * len(datings)
    return many


def how_many(archive, sayings):
    return many_together(lists_of(archive, sayings))


def dating_at(archive, sayings, number):
    lists = lists_of(archive, sayings)
    if not 0 <= number < many_together(lists):
        raise NoNumber(number)
    dating = [None] * len(archive.letters)
    rest = number
    # The last part's place was added last, so that it is split off first.
    for part, datings in reversed(list(zip(parts_of(archive, sayings), lists))):
        for letter, year in zip(part, datings[rest % len(datings)]):
            dating[letter] = year
        rest = rest // len(datings)
    return dating


def number_of(archive, sayings, years):
    lists = lists_of(archive, sayings)
    if not holds(archive, sayings, years):
        raise NoDating()
    number = 0
    for part, datings in zip(parts_of(archive, sayings), lists):
        place = datings.index(tuple([years[letter] for letter in part]))
        number = number * len(datings) + place
    return number
