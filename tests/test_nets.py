"""Points 2, 3, 4, 11 and 13 to 16: datings, rings and least costs, over many small heaps."""

import itertools
import pathlib
import sys
import unittest

from inkyears.archives import Archive
from inkyears.errors import Stuck
from inkyears.nets import holds, least_costs, settled
from inkyears.sayings import saying_of
from inkyears.steps import steps_of

sys.path.insert(0, str(pathlib.Path(__file__).resolve().parent))

from heaps import (  # noqa: E402
    HEAPS, TABLE, Heap, HeapCase, chain_costs, costs_step_by_step, earliest_by_raising, greatest_years, least_years,
)


def is_stuck(heap):
    return settled(heap.archive, heap.sayings)[0] == "ring"


class HeapsTest(unittest.TestCase):
    def test_there_are_heaps_of_both_sorts(self):
        stuck = [is_stuck(heap) for heap in HEAPS]
        self.assertGreater(stuck.count(True), 150)
        self.assertGreater(stuck.count(False), 150)
        small = [is_stuck(heap) for heap in HEAPS if heap.is_small()]
        self.assertGreater(small.count(True), 100)
        self.assertGreater(small.count(False), 100)


class HoldsTest(unittest.TestCase):
    def setUp(self):
        archive = Archive(1500, 1520, ["a", "b", "c"], [("iron", TABLE)], [("mary", 1505, 7)])
        self.heap = Heap(archive, [("ink", ["a", "iron", 70, 0]), ("within", ["a", "b", 9]), ("under", ["b", "mary"])])

    def assert_holds(self, years, answer):
        told = holds(self.heap.archive, self.heap.sayings, years)
        self.assertIs(told, answer, years)

    def test_datings(self):
        for years in [[1518, 1509, 1500], [1519, 1510, 1520], [1519, 1511, 1507], [1518, 1511, 1500]]:
            self.assert_holds(years, True)

    def test_one_year_beside_a_bound(self):
        for years in [[1517, 1509, 1500], [1520, 1511, 1500], [1518, 1508, 1500], [1518, 1512, 1500], [1519, 1509, 1500]]:
            self.assert_holds(years, False)

    def test_beyond_the_span(self):
        for years in [[1518, 1509, 1499], [1518, 1509, 1521], [1518, 1509, 0], [1518, 1509, 10 ** 29]]:
            self.assert_holds(years, False)
        archive = Archive(1500, 1520, ["a", "b"], [], [])
        for years in [[1499, 1500], [1500, 1499], [1521, 1520], [1520, 1521]]:
            self.assertIs(holds(archive, [], years), False)
        for years in [[1500, 1500], [1520, 1520], [1500, 1520], [1520, 1500]]:
            self.assertIs(holds(archive, [], years), True)

    def test_lists_of_other_lengths(self):
        for years in [[], [1518], [1518, 1509], [1518, 1509, 1500, 1500], [1518, 1509, 1500] * 2, [1500] * 9]:
            self.assert_holds(years, False)
        for many in range(5):
            self.assertIs(holds(Archive(0, 5, ["a", "b"], [], []), [], [3] * many), many == 2)

    def test_truths_are_no_years(self):
        archive = Archive(0, 1, ["a"], [], [])
        self.assertEqual([holds(archive, [], [year]) for year in [0, 1, True, False]], [True, True, False, False])
        pair = Archive(0, 1, ["a", "b"], [], [])
        self.assertEqual([holds(pair, [], years) for years in [[0, 1], [0, True], [False, 1]]], [True, False, False])

    def test_against_what_the_sayings_say(self):
        for heap in HEAPS:
            if heap.is_small():
                datings = {tuple(years) for years in heap.datings()}
                for years in itertools.product(heap.years(), repeat=len(heap.archive.letters)):
                    told = holds(heap.archive, heap.sayings, list(years))
                    self.assertIs(told, years in datings, (heap.told, years))

    def test_near_the_earliest_dating(self):
        for heap in HEAPS:
            if not is_stuck(heap):
                years = settled(heap.archive, heap.sayings)[1]
                for letter, more in itertools.product(range(len(years)), [-1, 0, 1, 2, 301]):
                    other = years[:letter] + [years[letter] + more] + years[letter + 1:]
                    self.assertIs(holds(heap.archive, heap.sayings, other), heap.is_dating(other))

    def test_what_is_handed_in_stays(self):
        for years in [[1518, 1509, 1500], [1518, 1508, 1500], [1518], []]:
            before = (list(years), list(self.heap.sayings))
            holds(self.heap.archive, self.heap.sayings, years)
            self.assertEqual((years, self.heap.sayings), before)


class SettledTest(HeapCase):
    def test_kinds(self):
        for heap in HEAPS:
            told = settled(heap.archive, heap.sayings)
            self.assertIs(type(told), tuple)
            self.assertEqual(len(told), 2)
            self.assertIn(told[0], ["dating", "ring"])
            self.assertIs(type(told[1]), list)

    def test_small_heaps_against_going_through_all_years(self):
        for heap in HEAPS:
            if heap.is_small():
                datings = heap.datings()
                least = [min(years) for years in zip(*datings)]
                told = settled(heap.archive, heap.sayings)
                with self.subTest(told=heap.told):
                    self.assertEqual(told[0], "dating" if datings else "ring")
                    if datings:
                        self.assertEqual(told[1], least)
                        self.assertIn(told[1], datings)

    def test_all_heaps_against_pushing_years_up(self):
        for heap in HEAPS:
            least = earliest_by_raising(heap)
            told = settled(heap.archive, heap.sayings)
            with self.subTest(told=heap.told):
                self.assertEqual(told[0], "ring" if least is None else "dating")
                if least is not None:
                    self.assertEqual(told[1], least)
                    self.assertTrue(heap.is_dating(told[1]))
                    self.assertIs(holds(heap.archive, heap.sayings, told[1]), True)

    def test_the_two_ways_of_pushing_years_agree(self):
        for heap in HEAPS:
            self.assertEqual(least_years(heap.archive, heap.limits), earliest_by_raising(heap), heap.told)
            greatest = greatest_years(heap.archive, heap.limits)
            self.assertEqual(greatest is None, is_stuck(heap))
            if heap.is_small() and greatest is not None:
                self.assertEqual(greatest, [max(years) for years in zip(*heap.datings())])

    def test_rings(self):
        for heap in HEAPS:
            told = settled(heap.archive, heap.sayings)
            if told[0] == "ring":
                with self.subTest(told=heap.told):
                    self.assert_ring(heap, told[1])

    def test_without_sayings_all_are_of_the_first_year(self):
        for first, span, letters in itertools.product([-3000, -5, 0, 7, 2700], [0, 1, 300], [1, 2, 8]):
            archive = Archive(first, first + span, list("abcdefgh")[:letters], [], [])
            self.assertEqual(settled(archive, []), ("dating", [first] * letters))

    def test_long_rows_of_letters(self):
        names = list("abcdefgh")
        for span in range(11):
            archive = Archive(100, 100 + span, names, [], [])
            for order in [names, names[::-1], list("cahbgdfe")]:
                heap = Heap(archive, [("after", [one, other]) for one, other in zip(order, order[1:])])
                told = settled(archive, heap.sayings)
                if span < 7:
                    self.assertEqual(told[0], "ring")
                    self.assert_ring(heap, told[1])
                else:
                    self.assertEqual(told, ("dating", [107 - order.index(name) for name in names]))

    def test_a_ring_of_all_letters(self):
        names = list("abcdefgh")
        for many in range(2, 9):
            archive = Archive(0, 300, names[:many], [], [])
            order = names[:many]
            for row in [order, order[::-1]]:
                heap = Heap(archive, [("after", [one, other]) for one, other in zip(row, row[1:] + row[:1])])
                told = settled(archive, heap.sayings)
                self.assertEqual(told[0], "ring")
                self.assert_ring(heap, told[1])
                heap = Heap(archive, [("within", [one, other, 5]) for one, other in zip(row, row[1:] + row[:1])])
                self.assertEqual(settled(archive, heap.sayings), ("dating", [0] * many))

    def test_one_letter_with_sayings_that_shut_each_other(self):
        archive = Archive(0, 300, ["a"], [], [])
        for low, high, told in [(5, 9, [5]), (9, 9, [9]), (0, 0, [0]), (-7, 0, [0]), (300, 400, [300]), (-4000, 4000, [0])]:
            heap = Heap(archive, [("between", ["a", low, high])])
            self.assertEqual(settled(archive, heap.sayings), ("dating", told))
        for told in [[(301, 400)], [(-9, -1)], [(0, 5), (6, 9)], [(6, 9), (0, 5)], [(4000, 4000)], [(0, 300), (9, 9), (8, 8)]]:
            heap = Heap(archive, [("between", ["a", low, high]) for low, high in told])
            self.assertEqual(settled(archive, heap.sayings)[0], "ring")
            self.assert_ring(heap, settled(archive, heap.sayings)[1])

    def test_more_than_sixteen_sayings(self):
        heap = Heap(Archive(0, 9, ["a", "b"], [], []), [("after", ["a", "b"])] * 18)
        self.assertEqual(settled(heap.archive, heap.sayings), ("dating", [1, 0]))

    def test_years_of_small_datings_are_all_from_the_least_to_the_greatest(self):
        for heap in HEAPS:
            if heap.is_small():
                datings = heap.datings()
                for years in zip(*datings):
                    self.assertEqual(sorted(set(years)), list(range(min(years), max(years) + 1)))
                if datings:
                    self.assertEqual(settled(heap.archive, heap.sayings)[1], min(datings))


class LeastCostsTest(HeapCase):
    def test_stuck_where_there_is_no_dating(self):
        for heap in HEAPS:
            if is_stuck(heap):
                self.assert_refused(Stuck, least_costs, heap.archive, heap.sayings)

    def test_against_going_through_all_chains(self):
        for heap in HEAPS:
            if len(heap.archive.letters) <= 4 and not is_stuck(heap):
                places = list(range(len(heap.archive.letters))) + [None]
                steps = steps_of(heap.archive, heap.sayings)
                rows = [chain_costs(steps, start) for start in places]
                costs = least_costs(heap.archive, heap.sayings)
                self.assertEqual(costs, [[row[end] for end in places] for row in rows], heap.told)

    def test_all_heaps_against_chains_of_so_many_steps(self):
        for heap in HEAPS:
            if not is_stuck(heap):
                places = list(range(len(heap.archive.letters))) + [None]
                steps = steps_of(heap.archive, heap.sayings)
                rows = [costs_step_by_step(steps, start, len(places) + 2) for start in places]
                costs = least_costs(heap.archive, heap.sayings)
                self.assertEqual(costs, [[row[end] for end in places] for row in rows], heap.told)

    def test_against_what_all_datings_tell(self):
        for heap in HEAPS:
            datings = heap.datings() if heap.is_small() else []
            if datings:
                grounded = [years + [0] for years in datings]
                places = range(len(grounded[0]))
                most = [[max(years[end] - years[start] for years in grounded) for end in places] for start in places]
                self.assertEqual(least_costs(heap.archive, heap.sayings), most)

    def test_shape_and_nought_from_each_place_to_itself(self):
        for heap in HEAPS:
            if not is_stuck(heap):
                costs = least_costs(heap.archive, heap.sayings)
                size = len(heap.archive.letters) + 1
                self.assertIs(type(costs), list)
                self.assertEqual([(type(row), len(row)) for row in costs], [(list, size)] * size)
                self.assertEqual([costs[place][place] for place in range(size)], [0] * size)

    def test_no_step_leads_on_for_less(self):
        for heap in HEAPS:
            if not is_stuck(heap):
                costs = least_costs(heap.archive, heap.sayings)
                ground = len(heap.archive.letters)
                for start, end, cost, _ in steps_of(heap.archive, heap.sayings):
                    start = ground if start is None else start
                    end = ground if end is None else end
                    for row in costs:
                        self.assertLessEqual(row[end], row[start] + cost)

    def test_the_earliest_dating_is_in_them(self):
        for heap in HEAPS:
            if not is_stuck(heap):
                costs = least_costs(heap.archive, heap.sayings)
                self.assertEqual([-row[-1] for row in costs[:-1]], settled(heap.archive, heap.sayings)[1])
                self.assertTrue(heap.is_dating(costs[-1][:-1]))

    def test_eight_letters_by_hand(self):
        archive = Archive(1000, 1300, list("abcdefgh"), [], [])
        self.assertEqual(least_costs(archive, []), [
            [0 if start == end else 300 for end in range(8)] + [-1000] for start in range(8)
        ] + [[1300] * 8 + [0]])
        heap = Heap(archive, [("apart", [one, other, 2, 3]) for one, other in zip("abcdefg", "bcdefgh")])
        costs = least_costs(archive, heap.sayings)
        for start, end in itertools.product(range(8), repeat=2):
            self.assertEqual(costs[start][end], 3 * (start - end) if start >= end else 2 * (start - end))
        self.assertEqual(costs[8][:8], [1300 - 2 * letter for letter in range(8)])
        self.assertEqual([row[8] for row in costs[:8]], [-1000 - 2 * (7 - letter) for letter in range(8)])


class OwnListsTest(unittest.TestCase):
    def test_changes_of_what_was_told(self):
        for heap in HEAPS[::5]:
            told = settled(heap.archive, heap.sayings)
            before = list(told[1])
            told[1].reverse()
            told[1].append(None)
            self.assertEqual(settled(heap.archive, heap.sayings), (told[0], before))
            if told[0] == "dating":
                costs = least_costs(heap.archive, heap.sayings)
                before = [list(row) for row in costs]
                costs[0][0] = -5
                costs[-1].clear()
                costs.pop(0)
                self.assertEqual(least_costs(heap.archive, heap.sayings), before)

    def test_no_row_is_another_ones(self):
        costs = least_costs(Archive(0, 5, ["a", "b", "c"], [], []), [])
        self.assertEqual(len({id(row) for row in costs}), 4)

    def test_what_is_handed_in_stays(self):
        for heap in HEAPS[::5]:
            before = list(heap.sayings)
            stuck = is_stuck(heap)
            if not stuck:
                least_costs(heap.archive, heap.sayings)
            self.assertEqual(heap.sayings, before)
            self.assertEqual([saying.shown() for saying in heap.sayings], [
                " ".join([word, *map(str, parts)]) for word, parts in heap.told
            ])

    def test_a_list_of_sayings_that_grows_and_shrinks(self):
        for heap in HEAPS[::7]:
            whole = settled(heap.archive, heap.sayings)
            sayings = []
            for many in list(range(len(heap.told))) + list(range(len(heap.told), -1, -1)):
                sayings[:] = heap.sayings[:many]
                fresh = Heap(heap.archive, heap.told[:many])
                told = settled(heap.archive, sayings)
                self.assertEqual(told, settled(fresh.archive, fresh.sayings))
                self.assertEqual(told[0] == "ring", earliest_by_raising(fresh) is None)
                if told[0] == "dating":
                    self.assertEqual(told[1], earliest_by_raising(fresh))
                    self.assertIs(holds(heap.archive, sayings, told[1]), True)
                    self.assertEqual(least_costs(heap.archive, sayings), least_costs(fresh.archive, fresh.sayings))
            self.assertEqual(settled(heap.archive, heap.sayings), whole)

    def test_what_was_told_stays_as_the_sayings_change(self):
        archive = Archive(0, 9, ["a", "b"], [], [])
        sayings = [saying_of(archive, "after", ["a", "b"])]
        dating = settled(archive, sayings)
        costs = least_costs(archive, sayings)
        sayings.append(saying_of(archive, "after", ["b", "a"]))
        ring = settled(archive, sayings)
        kept = list(ring[1])
        self.assertRaises(Stuck, least_costs, archive, sayings)
        sayings.clear()
        self.assertEqual(settled(archive, sayings), ("dating", [0, 0]))
        self.assertEqual(dating, ("dating", [1, 0]))
        self.assertEqual(costs, [[0, -1, -1], [9, 0, 0], [9, 8, 0]])
        self.assertEqual(ring, ("ring", kept))

    def test_the_order_of_sayings_is_nothing_to_a_dating(self):
        for heap in HEAPS[::3]:
            turned = heap.sayings[::-1]
            told = settled(heap.archive, heap.sayings)
            self.assertEqual(settled(heap.archive, turned)[0], told[0])
            if told[0] == "dating":
                self.assertEqual(settled(heap.archive, turned), told)
                self.assertEqual(least_costs(heap.archive, turned), least_costs(heap.archive, heap.sayings))


if __name__ == "__main__":
    unittest.main()
