"""Points 2, 3, 4, 19 and 20: two letters, over many small heaps."""

import itertools
import pathlib
import sys
import unittest

from inkyears.archives import Archive
from inkyears.errors import NoGap, Stuck
from inkyears.gaps import first_of, gap_of, gap_with
from inkyears.nets import holds

sys.path.insert(0, str(pathlib.Path(__file__).resolve().parent))

from heaps import DATED, HEAPS, STUCK, Heap, HeapCase, cost_of, example, least_years  # noqa: E402

PAIRED = [heap for heap in HEAPS if len(heap.archive.letters) > 1]
FAR = [10 ** 29, -10 ** 29, 601, -601, 301, -301]
TURNED = {"ahead": "behind", "behind": "ahead", "same": "same", "open": "open"}


def pairs_of(heap):
    return itertools.permutations(heap.letters(), 2)


def sign_of(gap):
    return (gap > 0) - (gap < 0)


def can_be_apart(heap, one, other, low, high):
    return least_years(heap.archive, heap.limits + [(one, other, low, high)]) is not None


class GapOfTest(HeapCase):
    def test_by_hand(self):
        heap = example()
        told = gap_of(heap.archive, heap.sayings, 0, 1)
        self.assertEqual(told[:4], (0, 9, [(0, 1, 0, 1)], [(1, 0, 9, 1)]))
        told = gap_of(heap.archive, heap.sayings, 2, 0)
        self.assertEqual(told[:2], (-19, -1))
        self.assertEqual(told[2], [(2, None, -1500, None), (None, 0, 1519, 0)])
        self.assertEqual(told[3], [(0, 1, 0, 1), (1, 2, -1, 2)])
        self.assertEqual([told[4][0], told[4][2]], [1519, 1500])
        self.assertEqual(told[5][2] - told[5][0], -1)

    def test_without_sayings_the_span(self):
        for first, span, letters in itertools.product([-3000, 0, 7], [0, 1, 300], [2, 8]):
            archive = Archive(first, first + span, list("abcdefgh")[:letters], [], [])
            heap = Heap(archive, [])
            for one, other in [(0, 1), (letters - 1, 0)]:
                least, greatest, down, up, narrow, wide = gap_of(archive, [], one, other)
                self.assertEqual((least, greatest), (-span, span))
                self.assertEqual(down, [(one, None, 0 - first, None), (None, other, first + span, None)])
                self.assertEqual(up, [(other, None, 0 - first, None), (None, one, first + span, None)])
                self.assert_dating(heap, narrow)
                self.assert_dating(heap, wide)

    def test_small_heaps_against_going_through_all_years(self):
        for heap in DATED:
            if heap.is_small():
                for one, other in pairs_of(heap):
                    gaps = [years[one] - years[other] for years in heap.datings()]
                    told = gap_of(heap.archive, heap.sayings, one, other)
                    with self.subTest(told=heap.told, one=one, other=other):
                        self.assertEqual(told[:2], (min(gaps), max(gaps)))
                        self.assertEqual(sorted(set(gaps)), list(range(min(gaps), max(gaps) + 1)))

    def test_all_heaps_with_datings_and_chains(self):
        for heap in DATED:
            for one, other in pairs_of(heap):
                told = gap_of(heap.archive, heap.sayings, one, other)
                self.assertIs(type(told), tuple)
                self.assertEqual([type(part) for part in told], [int, int, list, list, list, list])
                least, greatest, down, up, narrow, wide = told
                with self.subTest(told=heap.told, one=one, other=other):
                    self.assert_dating(heap, narrow)
                    self.assert_dating(heap, wide)
                    self.assertEqual((narrow[one] - narrow[other], wide[one] - wide[other]), (least, greatest))
                    self.assert_chain(heap, down, one, other)
                    self.assert_chain(heap, up, other, one)
                    self.assertEqual((0 - cost_of(down), cost_of(up)), (least, greatest))

    def test_some_heaps_against_pushing_years_up(self):
        for heap in DATED[::4]:
            for one, other in pairs_of(heap):
                least, greatest = gap_of(heap.archive, heap.sayings, one, other)[:2]
                with self.subTest(told=heap.told, one=one, other=other):
                    self.assertTrue(can_be_apart(heap, one, other, least, least))
                    self.assertTrue(can_be_apart(heap, one, other, greatest, greatest))
                    self.assertFalse(can_be_apart(heap, one, other, -999, least - 1))
                    self.assertFalse(can_be_apart(heap, one, other, greatest + 1, 999))

    def test_rings_that_come_to_nought_lead_nowhere(self):
        names = list("abcdefgh")
        for first, span, letters in itertools.product([-7, 0, 9], [0, 3], [2, 5, 8]):
            archive = Archive(first, first + span, names[:letters], [], [])
            told = [("same", list(pair)) for pair in itertools.permutations(names[:letters], 2)][:16]
            for heap in [Heap(archive, told), Heap(archive, told[::-1])]:
                for one, other in pairs_of(heap):
                    least, greatest, down, up = gap_of(archive, heap.sayings, one, other)[:4]
                    self.assert_chain(heap, down, one, other)
                    self.assert_chain(heap, up, other, one)
                    self.assertEqual((0 - cost_of(down), cost_of(up)), (least, greatest))

    def test_stuck_where_there_is_no_dating(self):
        for heap in STUCK:
            for one, other in pairs_of(heap):
                self.assert_refused(Stuck, gap_of, heap.archive, heap.sayings, one, other)


class GapWithTest(HeapCase):
    def test_by_hand(self):
        heap = example()
        for one, other, gap in [(0, 1, 0), (0, 1, 9), (1, 0, -9), (1, 0, 0), (2, 0, -19), (2, 0, -1), (1, 2, 1), (1, 2, 19)]:
            years = gap_with(heap.archive, heap.sayings, one, other, gap)
            self.assert_dating(heap, years)
            self.assertEqual(years[one] - years[other], gap)
        for one, other, gap in [(0, 1, -1), (0, 1, 10), (1, 0, -10), (1, 0, 1), (2, 0, -20), (2, 0, 0), (1, 2, 0), (1, 2, 20)]:
            refusal = self.assert_refused(NoGap, gap_with, heap.archive, heap.sayings, one, other, gap)
            self.assertEqual(refusal.gap, gap)

    def test_small_heaps_against_going_through_all_years(self):
        for heap in DATED[::2]:
            if heap.is_small():
                span = heap.archive.present - heap.archive.first
                for one, other in pairs_of(heap):
                    gaps = {years[one] - years[other] for years in heap.datings()}
                    for gap in range(-span - 1, span + 2):
                        if gap in gaps:
                            years = gap_with(heap.archive, heap.sayings, one, other, gap)
                            self.assert_dating(heap, years)
                            self.assertEqual(years[one] - years[other], gap)
                        else:
                            refusal = self.assert_refused(NoGap, gap_with, heap.archive, heap.sayings, one, other, gap)
                            self.assertEqual(refusal.gap, gap)

    def test_a_dating_for_each_gap_between(self):
        for heap in DATED[::12]:
            for one, other in list(pairs_of(heap))[:12]:
                least, greatest = gap_of(heap.archive, heap.sayings, one, other)[:2]
                for gap in range(least, greatest + 1, 1 if greatest - least < 40 else 17):
                    years = gap_with(heap.archive, heap.sayings, one, other, gap)
                    self.assert_dating(heap, years)
                    self.assertIs(holds(heap.archive, heap.sayings, years), True)
                    self.assertEqual(years[one] - years[other], gap)

    def test_each_gap_of_three_hundred_years(self):
        archive = Archive(-150, 150, ["a", "b", "c"], [], [])
        heap = Heap(archive, [("apart", ["c", "a", -20, 10]), ("between", ["b", -140, 130])])
        for gap in range(-280, 291):
            years = gap_with(archive, heap.sayings, 0, 1, gap)
            self.assert_dating(heap, years)
            self.assertEqual(years[0] - years[1], gap)
        for gap in [-281, 291]:
            self.assertEqual(self.assert_refused(NoGap, gap_with, archive, heap.sayings, 0, 1, gap).gap, gap)

    def test_no_gap(self):
        for heap in DATED[::10]:
            for one, other in pairs_of(heap):
                least, greatest = gap_of(heap.archive, heap.sayings, one, other)[:2]
                for gap in [least - 1, greatest + 1] + FAR:
                    refusal = self.assert_refused(NoGap, gap_with, heap.archive, heap.sayings, one, other, gap)
                    self.assertEqual(refusal.gap, gap)

    def test_stuck_first(self):
        for heap in STUCK[::2]:
            for one, other in list(pairs_of(heap))[:12]:
                for gap in [-1, 0, 1] + FAR:
                    self.assert_refused(Stuck, gap_with, heap.archive, heap.sayings, one, other, gap)


class FirstOfTest(HeapCase):
    def test_by_hand(self):
        heap = example()
        self.assertEqual(first_of(heap.archive, heap.sayings, 2, 0), ("ahead", [(0, 1, 0, 1), (1, 2, -1, 2)]))
        self.assertEqual(first_of(heap.archive, heap.sayings, 0, 2), ("behind", [(0, 1, 0, 1), (1, 2, -1, 2)]))
        self.assertEqual(first_of(heap.archive, heap.sayings, 1, 0)[0], "open")
        heap = Heap(heap.archive, [("same", ["a", "b"])])
        self.assertEqual(first_of(heap.archive, heap.sayings, 0, 1), ("same", [(1, 0, 0, 0)], [(0, 1, 0, 0)]))
        self.assertEqual(first_of(heap.archive, heap.sayings, 1, 0), ("same", [(0, 1, 0, 0)], [(1, 0, 0, 0)]))

    def test_the_edges_of_each_answer(self):
        archive = Archive(0, 300, ["a", "b"], [], [])
        for low, high, told in [
            (-5, -1, "ahead"), (-1, -1, "ahead"), (-300, -1, "ahead"), (-5, 0, "open"), (-1, 0, "open"), (0, 0, "same"),
            (0, 1, "open"), (-1, 1, "open"), (1, 1, "behind"), (1, 300, "behind"), (-300, 300, "open"), (300, 300, "behind"),
        ]:
            heap = Heap(archive, [("apart", ["a", "b", low, high])])
            self.assert_first(heap, 0, 1, told)
            self.assert_first(heap, 1, 0, TURNED[told])

    def assert_first(self, heap, one, other, word):
        told = first_of(heap.archive, heap.sayings, one, other)
        self.assertIs(type(told), tuple)
        self.assertEqual(told[0], word, (heap.told, one, other))
        self.assertEqual(len(told), 2 if word in ("ahead", "behind") else 3)
        least, greatest, down, up = gap_of(heap.archive, heap.sayings, one, other)[:4]
        if word == "open":
            for years in told[1:]:
                self.assert_dating(heap, years)
            self.assertEqual(len({sign_of(years[one] - years[other]) for years in told[1:]}), 2)
        else:
            self.assertEqual(list(told[1:]), {"ahead": [up], "behind": [down], "same": [up, down]}[word])
            for chain in told[1:]:
                self.assert_chain(heap, chain, chain[0][0], chain[-1][1])
            ends = {"ahead": [(other, one)], "behind": [(one, other)], "same": [(other, one), (one, other)]}[word]
            self.assertEqual([(chain[0][0], chain[-1][1]) for chain in told[1:]], ends)
            for chain in told[1:]:
                self.assertEqual(cost_of(chain) < 0, word != "same")
                self.assertLessEqual(cost_of(chain), 0)

    def test_small_heaps_against_going_through_all_years(self):
        seen = []
        for heap in DATED[::2]:
            if heap.is_small():
                for one, other in pairs_of(heap):
                    signs = {sign_of(years[one] - years[other]) for years in heap.datings()}
                    word = {-1: "ahead", 0: "same", 1: "behind"}[min(signs)] if len(signs) == 1 else "open"
                    self.assert_first(heap, one, other, word)
                    seen.append(word)
        self.assertGreater(min(seen.count(word) for word in TURNED), 50)

    def test_all_heaps_against_pushing_years_up(self):
        for heap in DATED[::3]:
            for one, other in itertools.combinations(heap.letters(), 2):
                signs = [(-999, -1, "ahead"), (0, 0, "same"), (1, 999, "behind")]
                words = [word for low, high, word in signs if can_be_apart(heap, one, other, low, high)]
                word = words[0] if len(words) == 1 else "open"
                self.assert_first(heap, one, other, word)
                self.assert_first(heap, other, one, TURNED[word])

    def test_stuck_where_there_is_no_dating(self):
        for heap in STUCK:
            for one, other in pairs_of(heap):
                self.assert_refused(Stuck, first_of, heap.archive, heap.sayings, one, other)


class OwnListsTest(HeapCase):
    def test_changes_of_what_was_told(self):
        for heap in [heap for heap in PAIRED if heap.has_dating()][::3]:
            pairs = list(pairs_of(heap))
            for one, other in [pairs[0], pairs[len(heap.told) % len(pairs)]]:
                self.assert_own(gap_of, heap, one, other)
                self.assert_own(first_of, heap, one, other)
                gap = gap_of(heap.archive, heap.sayings, one, other)[1]
                self.assert_own(gap_with, heap, one, other, gap)

    def test_what_is_handed_in_stays_where_it_is_refused(self):
        for heap in [heap for heap in PAIRED if not heap.has_dating()][::5]:
            before = list(heap.sayings)
            for function, parts in [(gap_of, (0, 1)), (first_of, (1, 0)), (gap_with, (0, 1, 0))]:
                self.assert_refused(Stuck, function, heap.archive, heap.sayings, *parts)
                self.assertEqual(heap.sayings, before)

    def test_a_list_of_sayings_that_grows_and_shrinks(self):
        for heap in PAIRED[::11]:
            for function, parts in [(gap_of, (0, 1)), (first_of, (1, 0)), (gap_with, (0, 1, 1))]:
                self.assert_grows_and_shrinks(function, heap, *parts)


if __name__ == "__main__":
    unittest.main()
