"""Points 2, 3, 4 and 16 to 18: the years of letters, over many small heaps."""

import itertools
import pathlib
import random
import sys
import unittest

from inkyears.archives import Archive
from inkyears.errors import NoYear, Stuck
from inkyears.nets import holds, settled
from inkyears.spans import chains_of, dating_with, earliest, latest, years_of

sys.path.insert(0, str(pathlib.Path(__file__).resolve().parent))

from heaps import (  # noqa: E402
    DATED, HEAPS, SOME_HEAPS, STUCK, Heap, HeapCase, cost_of, example, greatest_years, least_years,
)

FAR = [10 ** 29, -10 ** 29, 4001, -4001, 3001, -3001]


def lists_ask(heap, letter):
    return [(years_of, ()), (earliest, ()), (latest, ()), (chains_of, (letter,))]


class YearsTest(HeapCase):
    def test_by_hand(self):
        heap = example()
        self.assertEqual(years_of(heap.archive, heap.sayings), [(1518, 1519), (1509, 1519), (1500, 1518)])
        self.assertEqual(earliest(heap.archive, heap.sayings), [1518, 1509, 1500])
        self.assertEqual(latest(heap.archive, heap.sayings), [1519, 1519, 1518])

    def test_without_sayings_all_years_of_the_span(self):
        for first, span, letters in itertools.product([-3000, -5, 0, 7, 2700], [0, 1, 300], [1, 2, 8]):
            archive = Archive(first, first + span, list("abcdefgh")[:letters], [], [])
            self.assertEqual(years_of(archive, []), [(first, first + span)] * letters)
            self.assertEqual(earliest(archive, []), [first] * letters)
            self.assertEqual(latest(archive, []), [first + span] * letters)

    def test_kinds(self):
        for heap in DATED:
            told = years_of(heap.archive, heap.sayings)
            self.assertIs(type(told), list)
            self.assertEqual([(type(years), len(years)) for years in told], [(tuple, 2) for _ in heap.letters()])

    def test_small_heaps_against_going_through_all_years(self):
        for heap in DATED:
            if heap.is_small():
                years = list(zip(*heap.datings()))
                with self.subTest(told=heap.told):
                    self.assertEqual(years_of(heap.archive, heap.sayings), [(min(some), max(some)) for some in years])
                    self.assertEqual(earliest(heap.archive, heap.sayings), [min(some) for some in years])
                    self.assertEqual(latest(heap.archive, heap.sayings), [max(some) for some in years])

    def test_all_heaps_against_pushing_years_up_and_down(self):
        for heap in DATED:
            least = least_years(heap.archive, heap.limits)
            greatest = greatest_years(heap.archive, heap.limits)
            with self.subTest(told=heap.told):
                self.assertEqual(years_of(heap.archive, heap.sayings), list(zip(least, greatest)))
                self.assertEqual(earliest(heap.archive, heap.sayings), least)
                self.assertEqual(latest(heap.archive, heap.sayings), greatest)

    def test_both_are_datings_and_the_earliest_is_the_settled_one(self):
        for heap in DATED:
            self.assert_dating(heap, earliest(heap.archive, heap.sayings))
            self.assert_dating(heap, latest(heap.archive, heap.sayings))
            self.assertEqual(("dating", earliest(heap.archive, heap.sayings)), settled(heap.archive, heap.sayings))

    def test_stuck_where_there_is_no_dating(self):
        for heap in STUCK:
            for function in [years_of, earliest, latest]:
                self.assert_refused(Stuck, function, heap.archive, heap.sayings)

    def test_the_earlier_and_the_later_years_of_two_datings(self):
        chance = random.Random(16)
        for heap in DATED:
            if heap.is_small():
                datings = [chance.choice(heap.datings()) for _ in range(12)]
            else:
                years = years_of(heap.archive, heap.sayings)
                letters = [chance.choice(heap.letters()) for _ in range(5)]
                datings = [dating_with(heap.archive, heap.sayings, letter, chance.randint(*years[letter])) for letter in letters]
                datings.append(latest(heap.archive, heap.sayings))
            for one, other in itertools.combinations(datings, 2):
                for pick in [min, max]:
                    years = [pick(pair) for pair in zip(one, other)]
                    self.assert_dating(heap, years)
                    self.assertIs(holds(heap.archive, heap.sayings, years), True)


class ChainsTest(HeapCase):
    def test_by_hand(self):
        heap = example()
        self.assertEqual(chains_of(heap.archive, heap.sayings, 0), ([(0, None, -1518, 0)], [(None, 0, 1519, 0)]))
        self.assertEqual(chains_of(heap.archive, heap.sayings, 1), (
            [(1, 0, 9, 1), (0, None, -1518, 0)],
            [(None, 0, 1519, 0), (0, 1, 0, 1)],
        ))
        self.assertEqual(chains_of(heap.archive, heap.sayings, 2), (
            [(2, None, -1500, None)],
            [(None, 0, 1519, 0), (0, 1, 0, 1), (1, 2, -1, 2)],
        ))

    def test_all_heaps(self):
        for heap in DATED:
            least = least_years(heap.archive, heap.limits)
            greatest = greatest_years(heap.archive, heap.limits)
            for letter in heap.letters():
                told = chains_of(heap.archive, heap.sayings, letter)
                with self.subTest(told=heap.told, letter=letter):
                    self.assertIs(type(told), tuple)
                    self.assertEqual(len(told), 2)
                    self.assert_chain(heap, told[0], letter, None)
                    self.assert_chain(heap, told[1], None, letter)
                    self.assertEqual([cost_of(chain) for chain in told], [0 - least[letter], greatest[letter]])

    def test_stuck_where_there_is_no_dating(self):
        for heap in STUCK:
            for letter in heap.letters():
                self.assert_refused(Stuck, chains_of, heap.archive, heap.sayings, letter)

    def test_rings_that_come_to_nought_lead_nowhere(self):
        """Where a chain can go round for nothing it still comes to its end."""
        names = list("abcdefgh")
        for first, span, letters in itertools.product([-7, 0, 9], [0, 3], [1, 2, 5, 8]):
            archive = Archive(first, first + span, names[:letters], [], [])
            pairs = [(one, other) for one, other in itertools.permutations(names[:letters], 2)]
            told = [("same", list(pair)) for pair in pairs[:15]] + [("between", ["a", first, first])]
            for heap in [Heap(archive, told), Heap(archive, told[::-1])]:
                years = years_of(archive, heap.sayings)
                for letter in heap.letters():
                    chains = chains_of(archive, heap.sayings, letter)
                    self.assert_chain(heap, chains[0], letter, None)
                    self.assert_chain(heap, chains[1], None, letter)
                    self.assertEqual([cost_of(chain) for chain in chains], [0 - years[letter][0], years[letter][1]])

    def test_a_chain_over_all_letters(self):
        names = list("abcdefgh")
        archive = Archive(0, 300, names, [], [])
        pairs = list(zip(names, names[1:]))
        for order in [pairs, pairs[::-1]]:
            heap = Heap(archive, [("apart", [one, other, 2, 3]) for one, other in order])
            down, up = chains_of(archive, heap.sayings, 0)
            self.assertEqual([step[:3] for step in down], [(at, at + 1, -2) for at in range(7)] + [(7, None, 0)])
            self.assertEqual([step[:3] for step in up], [(None, 0, 300)])
            down, up = chains_of(archive, heap.sayings, 7)
            self.assertEqual([step[:3] for step in down], [(7, None, 0)])
            self.assertEqual([step[:3] for step in up], [(None, 0, 300)] + [(at, at + 1, -2) for at in range(7)])


class DatingWithTest(HeapCase):
    def test_by_hand(self):
        heap = example()
        for letter, year, told in [
            (0, 1518, [1518, 1509, 1500]), (0, 1519, [1519, 1510, 1500]), (1, 1509, [1518, 1509, 1500]),
            (1, 1519, [1519, 1519, 1500]), (2, 1500, [1518, 1509, 1500]), (2, 1518, [1519, 1519, 1518]),
            (2, 1512, [1518, 1513, 1512]),
        ]:
            self.assertEqual(dating_with(heap.archive, heap.sayings, letter, year), told)

    def test_small_heaps_against_going_through_all_years(self):
        for heap in DATED:
            if heap.is_small():
                for letter, year in itertools.product(heap.letters(), heap.years()):
                    datings = [years for years in heap.datings() if years[letter] == year]
                    with self.subTest(told=heap.told, letter=letter, year=year):
                        if datings:
                            told = dating_with(heap.archive, heap.sayings, letter, year)
                            self.assertEqual(told, [min(years) for years in zip(*datings)])
                            self.assertIn(told, datings)
                        else:
                            refusal = self.assert_refused(NoYear, dating_with, heap.archive, heap.sayings, letter, year)
                            self.assertEqual(refusal.year, year)

    def test_all_heaps_against_pushing_years_up(self):
        for place, heap in enumerate(DATED):
            span = years_of(heap.archive, heap.sayings)
            for letter in heap.letters():
                least, greatest = span[letter]
                years = sorted({least, least + 1, (least + greatest) // 2, greatest - 1, greatest})
                # For some heaps every year is asked for.
                for year in range(least, greatest + 1) if place % 20 == 0 else years:
                    limits = heap.limits + [(letter, None, year, year)]
                    if least <= year <= greatest:
                        told = dating_with(heap.archive, heap.sayings, letter, year)
                        self.assertEqual(told, least_years(heap.archive, limits), (heap.told, letter, year))
                        self.assert_dating(heap, told)
                        self.assertEqual(told[letter], year)

    def test_no_year(self):
        for heap in DATED:
            span = years_of(heap.archive, heap.sayings)
            for letter in heap.letters():
                least, greatest = span[letter]
                for year in [least - 1, greatest + 1, least - 300, greatest + 300] + FAR:
                    refusal = self.assert_refused(NoYear, dating_with, heap.archive, heap.sayings, letter, year)
                    self.assertEqual(refusal.year, year)

    def test_stuck_first(self):
        for heap in STUCK:
            for letter in heap.letters():
                for year in [heap.archive.first - 1, heap.archive.first, heap.archive.present, heap.archive.present + 1] + FAR:
                    self.assert_refused(Stuck, dating_with, heap.archive, heap.sayings, letter, year)


class OwnListsTest(HeapCase):
    def test_changes_of_what_was_told(self):
        for heap in SOME_HEAPS:
            if heap.has_dating():
                letter = len(heap.told) % len(heap.archive.letters)
                year = greatest_years(heap.archive, heap.limits)[letter]
                for function, parts in lists_ask(heap, letter) + [(dating_with, (letter, year))]:
                    self.assert_own(function, heap, *parts)

    def test_what_is_handed_in_stays_where_it_is_refused(self):
        for heap in STUCK[::5]:
            before = list(heap.sayings)
            for function, parts in lists_ask(heap, 0) + [(dating_with, (0, heap.archive.first))]:
                self.assert_refused(Stuck, function, heap.archive, heap.sayings, *parts)
                self.assertEqual(heap.sayings, before)

    def test_a_list_of_sayings_that_grows_and_shrinks(self):
        for heap in HEAPS[::11]:
            for function, parts in lists_ask(heap, 0) + [(dating_with, (0, heap.archive.present))]:
                self.assert_grows_and_shrinks(function, heap, *parts)


if __name__ == "__main__":
    unittest.main()
