"""Points 2, 3, 4 and 23: the fewest sayings that must be false, over many small heaps."""

import itertools
import pathlib
import sys
import unittest

from inkyears.archives import Archive
from inkyears.falses import fewest_false

sys.path.insert(0, str(pathlib.Path(__file__).resolve().parent))

from heaps import HEAPS, SOME_HEAPS, Heap, HeapCase  # noqa: E402


def tuples_of(heap, size):
    return list(itertools.combinations(range(len(heap.told)), size))


def first_dropped(heap):
    """The first of the shortest tuples of two numbers at most without which there is a dating, or None."""
    for size in range(3):
        for numbers in tuples_of(heap, size):
            if heap.without(numbers).has_dating():
                return numbers
    return None


def years_told(*years):
    """One letter, said to be of each of these years."""
    return Heap(Archive(0, 9, ["a"], [], []), [("between", ["a", year, year]) for year in years])


class FewestFalseTest(HeapCase):
    def assert_false(self, heap, numbers):
        told = fewest_false(heap.archive, heap.sayings)
        self.assertIs(type(told), tuple)
        with self.subTest(told=heap.told):
            if numbers is None:
                self.assertEqual((told[0], len(told)), ("more", 2))
                self.assert_rings(heap, told[1], 3)
            else:
                self.assertEqual((told[0], len(told)), ("drop", 4))
                self.assertIs(type(told[1]), tuple)
                self.assertEqual(told[1], numbers)
                self.assert_dating(heap.without(numbers), told[2])
                self.assert_rings(heap, told[3], len(numbers))

    def assert_rings(self, heap, rings, sizes):
        self.assertIs(type(rings), list)
        self.assertEqual([(type(pair), len(pair)) for pair in rings], [(tuple, 2) for _ in rings])
        due = [numbers for size in range(sizes) for numbers in tuples_of(heap, size)]
        self.assertEqual([numbers for numbers, ring in rings], due)
        for numbers, ring in rings:
            self.assertIs(type(numbers), tuple)
            self.assert_ring(heap, ring, numbers)

    def test_all_heaps_against_all_sets_of_two_at_most(self):
        seen = []
        for heap in HEAPS:
            numbers = first_dropped(heap)
            self.assert_false(heap, numbers)
            seen.append(3 if numbers is None else len(numbers))
        self.assertGreater(min(seen.count(many) for many in range(4)), 50)

    def test_without_sayings(self):
        for first, span, letters in itertools.product([-7, 0, 9], [0, 300], [1, 8]):
            heap = Heap(Archive(first, first + span, list("abcdefgh")[:letters], [], []), [])
            told = fewest_false(heap.archive, heap.sayings)
            self.assertEqual((told[0], told[1], told[3]), ("drop", (), []))
            self.assert_dating(heap, told[2])

    def test_by_hand(self):
        heap = years_told(3, 5)
        told = fewest_false(heap.archive, heap.sayings)
        self.assertEqual(told[:3], ("drop", (0,), [5]))
        self.assertEqual([numbers for numbers, ring in told[3]], [()])
        self.assertEqual(sorted(told[3][0][1], key=str), [(0, None, -5, 1), (None, 0, 3, 0)])

    def test_the_first_of_several(self):
        for years, numbers in [
            ([3], ()), ([3, 3], ()), ([3, 5], (0,)), ([3, 3, 5], (2,)), ([3, 5, 3], (1,)), ([5, 3, 3], (0,)),
            ([3, 5, 7], (0, 1)), ([3, 3, 5, 5], (0, 1)), ([3, 5, 3, 5], (0, 2)), ([3, 5, 5, 3], (0, 3)),
            ([3, 5, 5, 5], (0,)), ([5, 3, 5, 7], (1, 3)), ([5, 5, 3, 7], (2, 3)), ([3, 5, 7, 8], None),
            ([3, 3, 5, 5, 7], None), ([3, 3, 3, 5, 5, 5], None), ([3] * 14 + [5, 7], (14, 15)), ([3, 5] + [7] * 14, (0, 1)),
            ([3] * 8 + [5] * 8, None), ([5] + [3] * 15, (0,)), ([3] * 15 + [5], (15,)),
        ]:
            self.assertEqual(first_dropped(years_told(*years)), numbers)
            self.assert_false(years_told(*years), numbers)

    def test_sayings_that_are_false_by_themselves(self):
        archive = Archive(0, 9, ["a", "b", "c"], [], [])
        good = [("after", ["a", "b"]), ("within", ["b", "c", 4]), ("between", ["c", 1, 8])]
        bad = [("between", ["a", 10, 12]), ("apart", ["b", "c", 10, 20]), ("between", ["c", -5, -1])]
        for many in range(4):
            for places in itertools.combinations(range(3 + many), many):
                told = list(good)
                for place, saying in zip(places, bad):
                    told.insert(place, saying)
                self.assert_false(Heap(archive, told), places if many < 3 else None)

    def test_two_letters_round_about(self):
        archive = Archive(0, 300, list("abcdefgh"), [], [])
        pairs = list(zip("abcdefgh", "bcdefgha"))
        round_about = [("after", list(pair)) for pair in pairs]
        self.assert_false(Heap(archive, round_about), (0,))
        self.assert_false(Heap(archive, round_about[:7]), ())
        self.assert_false(Heap(archive, round_about + round_about[:7]), (7,))
        self.assert_false(Heap(archive, round_about * 2), (0, 8))

    def test_the_very_same_sayings_twice(self):
        heap = years_told(3, 5, 7)
        for numbers, due in [([0, 0], ()), ([0, 1, 0], (1,)), ([0, 1, 1, 0], (0, 3)), ([0, 1, 2, 0], (1, 2)), ([0, 1, 2] * 2, None)]:
            self.assert_false(heap.only(numbers), due)


class OwnListsTest(HeapCase):
    def test_changes_of_what_was_told(self):
        for heap in SOME_HEAPS[::2]:
            self.assert_own(fewest_false, heap)

    def test_a_list_of_sayings_that_grows_and_shrinks(self):
        for heap in HEAPS[::23]:
            self.assert_grows_and_shrinks(fewest_false, heap)


if __name__ == "__main__":
    unittest.main()
