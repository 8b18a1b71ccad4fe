"""Points 2, 3, 4, 21 and 22: rings of fewest sayings and spare sayings, over many small heaps."""

import itertools
import pathlib
import sys
import unittest

from inkyears.archives import Archive
from inkyears.errors import Stuck
from inkyears.rings import fewest_ring, is_spare
from inkyears.steps import steps_of

sys.path.insert(0, str(pathlib.Path(__file__).resolve().parent))

from heaps import DATED, HEAPS, SOME_HEAPS, STUCK, Heap, HeapCase, cost_of, least_years  # noqa: E402

NAMES = list("abcdefgh")


def costs_by_sayings(steps, start, most):
    """At [m] the least cost to each end of all chains from a start with sayings at m steps at most."""
    costs = {(start, 0): 0}
    longer = dict(costs)
    # A saying's step may have two of the span on each side.
    for _ in range(3 * most + 2):
        for (place, used), cost in costs.items():
            for begin, end, more, number in steps:
                key = end, used + (number is not None)
                if begin == place and key[1] <= most:
                    longer[key] = min(cost + more, longer.get(key, cost + more))
        if longer == costs:
            break
        costs = dict(longer)
    ends = {end for end, used in costs}
    return [{end: min(costs[key] for key in costs if key[0] == end and key[1] <= m) for end in ends} for m in range(most + 1)]


def all_chains(steps, start, most, length):
    """Every chain from a start with so many steps at most and sayings at so many of them at most."""
    chains = [[]]
    longest = [[]]
    for _ in range(length):
        longest = [chain + [step] for chain in longest for step in steps if step[0] == (chain[-1][1] if chain else start)]
        longest = [chain for chain in longest if len(numbers_in(chain)) <= most]
        chains += longest
    return chains


def numbers_in(chain):
    return [step[3] for step in chain if step[3] is not None]


def ring_numbers(heap):
    return sorted(numbers_in(fewest_ring(heap.archive, heap.sayings)[0]))


def after_ring(many, span=300):
    names = NAMES[:many]
    return Heap(Archive(0, span, names, [], []), [("after", [one, other]) for one, other in zip(names, names[1:] + names[:1])])


def ring_of_all_places():
    """Each of the letters and the ground needs a saying: nine of them come to -1."""
    told = [("between", ["a", 0, 10])]
    told += [("apart", [later, name, -300, 1]) for name, later in zip(NAMES, NAMES[1:])]
    return Heap(Archive(0, 300, NAMES, [], []), told + [("between", ["h", 18, 300])])


class RingCase(HeapCase):
    def assert_fewest_ring(self, heap, many=None):
        told = fewest_ring(heap.archive, heap.sayings)
        self.assertIs(type(told), tuple)
        self.assertEqual([type(part) for part in told], [list, list, list])
        ring, paper, datings = told
        numbers = numbers_in(ring)
        with self.subTest(told=heap.told):
            self.assert_ring(heap, ring)
            self.assertEqual(len(set(numbers)), len(numbers))
            self.assertEqual(len(paper), len(numbers))
            if many is not None:
                self.assertEqual(len(numbers), many)
            self.assertGreater(len(numbers), 0)
            self.assertFalse(heap.only(numbers).has_dating())
            for fewer in itertools.combinations(range(len(heap.told)), len(numbers) - 1):
                self.assertTrue(heap.only(fewer).has_dating(), fewer)
            self.assert_datings(heap, numbers, datings)
            self.assert_shape(heap, paper)

    def assert_datings(self, heap, numbers, datings):
        self.assertEqual([type(dating) for dating in datings], [tuple for _ in numbers])
        self.assertEqual([number for number, years in datings], sorted(numbers))
        for number, years in datings:
            self.assert_dating(heap.only([other for other in numbers if other != number]), years)

    def assert_shape(self, heap, paper):
        size = len(heap.archive.letters) + 1
        for table in paper:
            self.assertIs(type(table), list)
            self.assertEqual([(type(row), len(row)) for row in table], [(list, size)] * size)
            self.assertEqual([table[place][place] for place in range(size)], [0] * size)


class FewestRingTest(RingCase):
    def test_none_of_a_heap_with_a_dating(self):
        for heap in DATED:
            self.assertIsNone(fewest_ring(heap.archive, heap.sayings))
        self.assertIsNone(fewest_ring(Archive(5, 5, ["a"], [], []), []))

    def test_all_heaps_against_all_sets_of_fewer_sayings(self):
        for heap in STUCK:
            self.assert_fewest_ring(heap)

    def test_there_are_rings_of_one_two_and_more_sayings(self):
        many = [len(fewest_ring(heap.archive, heap.sayings)[1]) for heap in STUCK]
        self.assertGreater(min(many.count(1), many.count(2), many.count(3)), 20)
        self.assertGreater(max(many), 3)

    def test_by_hand(self):
        archive = Archive(0, 9, ["a", "b"], [], [])
        heap = Heap(archive, [("after", ["b", "a"]), ("between", ["a", 4, 9]), ("between", ["b", 0, 2])])
        self.assertEqual(ring_numbers(heap), [0, 1, 2])
        ring, paper, datings = fewest_ring(archive, heap.sayings)
        self.assertEqual(cost_of(ring), -3)
        self.assertEqual(paper, [
            [[0, 9, 0], [9, 0, 0], [9, 9, 0]],
            [[0, 2, -4], [-1, 0, -1], [8, 2, 0]],
            [[0, -2, -4], [-1, 0, -5], [1, 2, 0]],
        ])
        self.assertEqual([number for number, years in datings], [0, 1, 2])

    def test_one_saying(self):
        archive = Archive(0, 9, NAMES, [], [])
        for word, parts in [
            ("between", ["c", 10, 20]), ("between", ["h", -3, -1]), ("apart", ["a", "h", 10, 11]), ("apart", ["d", "c", -12, -10]),
        ]:
            others = [("same", ["a", "b"]), ("after", ["c", "d"]), ("within", ["e", "h", 3])]
            for place in range(4):
                heap = Heap(archive, others[:place] + [(word, parts)] + others[place:])
                ring, paper, datings = fewest_ring(archive, heap.sayings)
                self.assertEqual(numbers_in(ring), [place])
                self.assertEqual([number for number, years in datings], [place])
                self.assert_fewest_ring(heap, 1)
        self.assert_fewest_ring(Heap(Archive(7, 7, ["a", "b"], [], []), [("after", ["a", "b"])]), 1)

    def test_rings_of_many_sayings(self):
        for many in range(2, 9):
            self.assert_fewest_ring(after_ring(many), many)
        heap = ring_of_all_places()
        for order in [heap.told, heap.told[::-1], heap.told[4:] + heap.told[:4]]:
            self.assert_fewest_ring(Heap(heap.archive, order), 9)

    def test_the_span_helps_for_nothing(self):
        """In a short span fewer sayings than those of the ring of all letters are enough."""
        for span in range(8):
            self.assert_fewest_ring(after_ring(8, span), span + 1 if span < 7 else 8)

    def test_the_lesser_of_two_rings(self):
        more = after_ring(5).told
        for fewer in [[("after", ["f", "g"]), ("after", ["g", "f"])], [("between", ["h", 5, 9]), ("between", ["h", 10, 12])]]:
            for told in [more + fewer, fewer + more, fewer[:1] + more + fewer[1:]]:
                heap = Heap(Archive(0, 300, NAMES, [], []), told)
                self.assert_fewest_ring(heap, 2)
                numbers = [number for number, saying in enumerate(told) if saying in fewer]
                self.assertEqual(ring_numbers(heap), numbers)

    def test_the_very_same_sayings_twice(self):
        for heap in [after_ring(3), after_ring(5), ring_of_all_places().without([3]), ring_of_all_places()]:
            numbers = list(range(len(heap.told)))
            twice = heap.only((numbers + numbers)[:12])
            if heap.has_dating():
                self.assertIsNone(fewest_ring(twice.archive, twice.sayings))
            else:
                self.assert_fewest_ring(twice, len(numbers))


class PaperTest(RingCase):
    def assert_paper(self, heap, paper):
        steps = steps_of(heap.archive, heap.sayings)
        places = list(heap.letters()) + [None]
        rows = [costs_by_sayings(steps, start, len(paper) - 1) for start in places]
        for m, table in enumerate(paper):
            self.assertEqual(table, [[row[m][end] for end in places] for row in rows], (heap.told, m))

    def test_against_chains_of_growing_length(self):
        for heap in STUCK:
            self.assert_paper(heap, fewest_ring(heap.archive, heap.sayings)[1])

    def test_long_papers_against_chains_of_growing_length(self):
        for heap in [after_ring(4), after_ring(8), after_ring(8, 5), ring_of_all_places()]:
            self.assert_paper(heap, fewest_ring(heap.archive, heap.sayings)[1])

    def test_small_heaps_against_all_chains(self):
        seen = []
        for heap in STUCK:
            paper = fewest_ring(heap.archive, heap.sayings)[1][:2]
            if len(heap.archive.letters) <= 2 and len(heap.told) <= 4:
                places = list(heap.letters()) + [None]
                for m, start in itertools.product(range(len(paper)), range(len(places))):
                    chains = all_chains(steps_of(heap.archive, heap.sayings), places[start], m, 3 * m + 2)
                    for end, place in enumerate(places):
                        costs = [cost_of(chain) for chain in chains if (chain[-1][1] if chain else places[start]) == place]
                        self.assertEqual(paper[m][start][end], min(costs), (heap.told, m))
                seen.append(len(paper))
        self.assertGreater(seen.count(2), 10)

    def test_without_sayings_the_span_alone(self):
        for heap in STUCK:
            first, present = heap.archive.first, heap.archive.present
            table = fewest_ring(heap.archive, heap.sayings)[1][0]
            letters = heap.letters()
            self.assertEqual(table[-1], [present for _ in letters] + [0])
            for letter in letters:
                self.assertEqual(table[letter], [0 if letter == end else present - first for end in letters] + [0 - first])


class IsSpareTest(HeapCase):
    def assert_spare(self, heap, number):
        others = heap.without([number])
        told = is_spare(heap.archive, heap.sayings, number)
        self.assertIs(type(told), tuple)
        self.assertEqual((len(told), type(told[1])), (2, list))
        letter, other, low, high = heap.limits[number]
        beyond = [(letter, other, -9999, low - 1)] + ([] if high is None else [(letter, other, high + 1, 9999)])
        bare = any(least_years(heap.archive, others.limits + [limit]) is not None for limit in beyond)
        with self.subTest(told=heap.told, number=number):
            self.assertEqual(told[0], "bare" if bare else "spare")
            if bare:
                self.assert_dating(others, told[1])
                self.assertFalse(heap.is_dating(told[1]))
            else:
                self.assert_chains(heap, number, told[1])
        return told[0]

    def assert_chains(self, heap, number, chains):
        own = [step for step in steps_of(heap.archive, heap.sayings) if step[3] == number][::-1]
        self.assertEqual(len(chains), len(own))
        self.assertEqual(len(chains), len([bound for bound in heap.sayings[number].bounds() if bound is not None]))
        for step, chain in zip(own, chains):
            self.assert_chain(heap, chain, step[0], step[1], [number])
            self.assertLessEqual(cost_of(chain), step[2])

    def test_all_heaps(self):
        seen = []
        for heap in HEAPS:
            for number in range(len(heap.told)):
                if heap.without([number]).has_dating():
                    seen.append(self.assert_spare(heap, number))
                else:
                    self.assert_refused(Stuck, is_spare, heap.archive, heap.sayings, number)
                    seen.append("stuck")
        self.assertGreater(min(seen.count(word) for word in ["spare", "bare", "stuck"]), 300)

    def test_small_heaps_against_going_through_all_years(self):
        for heap in SOME_HEAPS[::2]:
            if heap.is_small():
                for number in range(len(heap.told)):
                    others = heap.without([number]).datings()
                    if others:
                        told = is_spare(heap.archive, heap.sayings, number)
                        broken = [years for years in others if not heap.is_dating(years)]
                        self.assertEqual(told[0], "bare" if broken else "spare", (heap.told, number))
                        if broken:
                            self.assertIn(told[1], broken)

    def test_by_hand(self):
        archive = Archive(0, 20, ["a", "b", "c"], [], [])
        heap = Heap(archive, [("after", ["a", "b"]), ("after", ["b", "c"]), ("after", ["a", "c"]), ("between", ["a", 2, 20])])
        self.assertEqual(is_spare(archive, heap.sayings, 2), ("spare", [[(0, 1, -1, 0), (1, 2, -1, 1)]]))
        self.assertEqual(is_spare(archive, heap.sayings, 3), ("spare", [
            [(0, 1, -1, 0), (1, 2, -1, 1), (2, None, 0, None)], [(None, 0, 20, None)],
        ]))
        for number in [0, 1]:
            word, years = is_spare(archive, heap.sayings, number)
            self.assertEqual(word, "bare")
            self.assertLessEqual(years[number], years[number + 1])

    def test_one_bound_spare_and_the_other_not(self):
        archive = Archive(0, 20, ["a", "b"], [], [])
        for word, parts in [("between", ["a", 0, 19]), ("between", ["a", 1, 20]), ("apart", ["a", "b", -20, 19]),
                            ("apart", ["b", "a", -19, 20]), ("within", ["a", "b", 20]), ("between", ["b", 30, 40])]:
            self.assertEqual(self.assert_spare(Heap(archive, [(word, parts)]), 0), "bare")
        for word, parts in [("between", ["a", 0, 20]), ("between", ["a", -7, 25]), ("apart", ["a", "b", -20, 20])]:
            self.assertEqual(self.assert_spare(Heap(archive, [(word, parts)]), 0), "spare")

    def test_the_first_the_last_and_one_told_twice(self):
        archive = Archive(0, 20, ["a", "b", "c"], [], [])
        heap = Heap(archive, [("same", ["a", "b"]), ("within", ["b", "c", 3]), ("between", ["c", 4, 5])])
        self.assertEqual([self.assert_spare(heap, number) for number in range(3)], ["bare"] * 3)
        for number in range(3):
            twice = heap.only([0, 1, 2, number])
            for place in range(4):
                due = "spare" if place in (number, 3) else "bare"
                self.assertEqual(self.assert_spare(twice, place), due)
            numbers = {step[3] for chain in is_spare(archive, twice.sayings, number)[1] for step in chain}
            self.assertIn(3, numbers)

    def test_others_that_have_no_dating(self):
        archive = Archive(0, 20, ["a", "b"], [], [])
        heap = Heap(archive, [("after", ["a", "b"]), ("after", ["b", "a"]), ("between", ["a", 3, 4])])
        self.assert_refused(Stuck, is_spare, archive, heap.sayings, 2)
        self.assertEqual(self.assert_spare(heap, 0), "bare")
        self.assertEqual(self.assert_spare(heap, 1), "bare")


class OwnListsTest(HeapCase):
    def test_changes_of_what_was_told(self):
        for heap in SOME_HEAPS:
            self.assert_own(fewest_ring, heap)
            for number in list(range(len(heap.told)))[-2:]:
                if heap.without([number]).has_dating():
                    self.assert_own(is_spare, heap, number)
        for heap in [after_ring(8), ring_of_all_places()]:
            self.assert_own(fewest_ring, heap)

    def test_what_is_handed_in_stays_where_it_is_refused(self):
        for heap in STUCK[::5]:
            before = list(heap.sayings)
            for number in range(len(heap.told)):
                if not heap.without([number]).has_dating():
                    self.assert_refused(Stuck, is_spare, heap.archive, heap.sayings, number)
                    self.assertEqual(heap.sayings, before)

    def test_a_list_of_sayings_that_grows_and_shrinks(self):
        for heap in HEAPS[::11]:
            self.assert_grows_and_shrinks(fewest_ring, heap)
            for many in range(1, len(heap.told) + 1):
                sayings = list(heap.sayings)
                is_known = heap.without([0]).has_dating()
                before = is_spare(heap.archive, sayings, 0) if is_known else None
                sayings[many:] = []
                if heap.only(range(1, many)).has_dating():
                    fresh = Heap(heap.archive, heap.told[:many])
                    self.assertEqual(is_spare(heap.archive, sayings, 0), is_spare(heap.archive, fresh.sayings, 0))
                if is_known:
                    sayings[many:] = heap.sayings[many:]
                    self.assertEqual(is_spare(heap.archive, sayings, 0), before)


if __name__ == "__main__":
    unittest.main()
