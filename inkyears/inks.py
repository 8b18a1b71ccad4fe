"""How inks fade with age, what ages a reading tells, and the years of reigns."""

from inkyears.words import is_whole_from

MOST_AGES = 60
DARKEST = 1000000
FARTHEST_YEAR = 4000
LONGEST_REIGN = 100


def is_table(some):
    if not 1 <= len(some) <= MOST_AGES:
        return False
    if not all([is_whole_from(dark, 0, DARKEST) for dark in some]):
        return False
    return all([some[age] <= some[age - 1] for age in range(1, len(some))])


def darkness_at(table, age):
    last = len(table) - 1
    # An age below 0 is held for 0: as an index it would count from the table's end.
    return table[max(0, min(age, last))]


def ages_of(table, dark, error, greatest):
    last = len(table) - 1
    ages = [age for age in range(min(last, greatest) + 1) if abs(table[age] - dark) <= error]
    if len(ages) == 0:
        return None
    most = ages[len(ages) - 1]
    # Beyond its last age the ink fades no more: where that age fits, all beyond it do.
    return (ages[0], greatest if most == last else most)


def is_reign(begin, length):
    return is_whole_from(begin, -FARTHEST_YEAR, FARTHEST_YEAR) and is_whole_from(length, 1, LONGEST_REIGN)


def reign_year(begin, length, k):
    if not is_whole_from(k, 1, length):
        return None
    return begin + k - 1
