"""Points 2, 3, 4, 24 and 25: the parts of heaps, their datings, and datings by numbers, over many small heaps."""

import copy
import itertools
import pathlib
import random
import sys
import unittest

from inkyears.archives import Archive
from inkyears.errors import NoDating, NoNumber, Stuck, TooMany
from inkyears.lists import dating_at, how_many, number_of, part_datings, parts_of
from inkyears.spans import earliest, latest

sys.path.insert(0, str(pathlib.Path(__file__).resolve().parent))

from heaps import (  # noqa: E402
    CROWDED, DATED, HEAPS, LISTED, SOME_HEAPS, STUCK, Heap, HeapCase, answer_or_refusal, linked, many_years, with_no_dating,
)

FAR = [-1, -2, -2000, -10 ** 29, 10 ** 29]


def datings_in_order(heap):
    """All datings, by the years of the first part's letters, then of the second one's, and so on."""
    parts = heap.parts()
    return sorted(heap.datings(), key=lambda years: [[years[letter] for letter in part] for part in parts])


class PartsTest(HeapCase):
    def assert_parts(self, heap, parts):
        told = parts_of(heap.archive, heap.sayings)
        self.assertEqual([type(told)] + [type(part) for part in told], [list] * (len(told) + 1))
        self.assertEqual(told, parts, heap.told)

    def test_all_heaps_against_going_from_letter_to_letter(self):
        for heap in HEAPS:
            self.assert_parts(heap, heap.parts())
        self.assertEqual({len(heap.parts()) for heap in HEAPS}, set(range(1, 9)))

    def test_by_hand(self):
        archive = Archive(0, 9, list("abcdefgh"), [("iron", [5])], [("a", 0, 3)])
        for told, parts in [
            ([], [[0], [1], [2], [3], [4], [5], [6], [7]]),
            (["ha"], [[0, 7], [1], [2], [3], [4], [5], [6]]),
            (["cb", "bc", "cb"], [[0], [1, 2], [3], [4], [5], [6], [7]]),
            (["hg", "ab", "gb"], [[0, 1, 6, 7], [2], [3], [4], [5]]),
            (["ec", "cg", "fd"], [[0], [1], [2, 4, 6], [3, 5], [7]]),
            (["ah", "bg", "cf", "de"], [[0, 7], [1, 6], [2, 5], [3, 4]]),
            (["ab", "cd", "ef", "gh"], [[0, 1], [2, 3], [4, 5], [6, 7]]),
            (["ab", "cd", "ef", "gh", "da", "fg"], [[0, 1, 2, 3], [4, 5, 6, 7]]),
            (["hd", "db", "ba", "fc", "ce", "eg"], [[0, 1, 3, 7], [2, 4, 5, 6]]),
            (["ag", "bg", "cg", "dg", "eg", "fg", "hg"], [[0, 1, 2, 3, 4, 5, 6, 7]]),
            (["gh", "fg", "ef", "de", "cd", "bc", "ab"], [[0, 1, 2, 3, 4, 5, 6, 7]]),
        ]:
            for order in itertools.permutations(told) if len(told) < 5 else [told, told[::-1]]:
                self.assert_parts(Heap(archive, [("same", list(pair)) for pair in order]), parts)

    def test_each_word_of_two_letters_links_and_none_of_one(self):
        archive = Archive(0, 9, list("abc"), [("c", [5])], [("b", 0, 3), ("c", 1, 2)])
        for word, more in [("after", []), ("same", []), ("within", [300]), ("apart", [-300, 300]), ("apart", [9, 9])]:
            for one, other in itertools.permutations(range(3), 2):
                heap = Heap(archive, [(word, ["abc"[one], "abc"[other]] + more)])
                self.assert_parts(heap, sorted([sorted([one, other]), [3 - one - other]]))
        for word, parts in [("ink", ["a", "c", 5, 0]), ("reign", ["a", "b", 1]), ("under", ["a", "c"]), ("between", ["b", 0, 3])]:
            self.assert_parts(Heap(archive, [(word, parts)]), [[0], [1], [2]])

    def test_told_of_heaps_without_a_dating_too(self):
        archive = Archive(0, 9, list("abc"), [], [])
        self.assert_parts(Heap(archive, [("after", ["a", "c"]), ("after", ["c", "a"])]), [[0, 2], [1]])
        self.assertGreater(len(STUCK), 100)

    def test_of_parts_with_too_many_datings_too(self):
        self.assert_parts(Heap(Archive(0, 300, list("abc"), [], []), [linked("c", "a")]), [[0, 2], [1]])


class PartDatingsTest(HeapCase):
    def assert_listed(self, heap, part, due):
        told = part_datings(heap.archive, heap.sayings, list(part))
        self.assertIs(type(told), list)
        self.assertEqual({type(years) for years in told}, {tuple})
        self.assertEqual(told, due, (heap.told, part))
        self.assertEqual(sorted(set(told)), told)

    def assert_too_many(self, heap, part):
        refusal = self.assert_refused(TooMany, part_datings, heap.archive, heap.sayings, list(part))
        self.assertEqual(refusal.letter, part[0])

    def test_by_hand(self):
        archive = Archive(1500, 1503, ["a", "b", "c"], [], [])
        heap = Heap(archive, [("after", ["c", "a"]), ("between", ["a", 1501, 1600])])
        self.assert_listed(heap, [0, 2], [(1501, 1502), (1501, 1503), (1502, 1503)])
        self.assert_listed(heap, [1], [(1500,), (1501,), (1502,), (1503,)])

    def test_small_heaps_against_going_through_all_years(self):
        for heap in DATED:
            if heap.is_small():
                for part in heap.parts():
                    due = {tuple(years[letter] for letter in part) for years in heap.datings()}
                    self.assert_listed(heap, part, sorted(due))

    def test_all_heaps_against_fixing_one_letter_after_another(self):
        seen = []
        for heap in DATED:
            for part in heap.parts():
                due = list(itertools.islice(heap.years_in_part(part), 2001))
                if len(due) > 2000:
                    self.assert_too_many(heap, part)
                else:
                    self.assert_listed(heap, part, due)
                seen.append(len(due) > 2000)
        self.assertGreater(seen.count(True), 50)

    def test_stuck_first(self):
        for heap in STUCK:
            for part in heap.parts():
                self.assert_refused(Stuck, part_datings, heap.archive, heap.sayings, part)

    def test_stuck_by_another_part_ahead_of_too_many(self):
        archive = Archive(0, 300, list("abcd"), [], [])
        heap = Heap(archive, [linked("a", "c"), ("after", ["b", "d"]), ("after", ["d", "b"])])
        for part in [[0, 2], [1, 3]]:
            self.assert_refused(Stuck, part_datings, archive, heap.sayings, part)
        for function, more in [(how_many, []), (dating_at, [-1]), (number_of, [[]])]:
            self.assert_refused(Stuck, function, archive, heap.sayings, *more)

    def test_just_2000_and_just_one_more(self):
        for many, refused in [
            ([40, 50], False), ([50, 40], False), ([10, 200], False), ([300, 6], False), ([10, 10, 20], False),
            ([2, 2, 2, 2, 5, 5, 5, 1], False), ([1, 5, 5, 5, 2, 2, 2, 2], False), ([1, 1, 8, 250], False),
            ([69, 29], True), ([29, 69], True), ([3, 23, 29], True), ([29, 23, 3], True), ([87, 23], True),
            ([1, 69, 1, 29, 1, 1, 1, 1], True), ([3, 1, 667 // 29, 29], True), ([300, 7], True), ([41, 50], True),
            ([2, 2, 2, 2, 5, 5, 6, 1], True), ([301] * 8, True), ([2] * 8, False), ([3] * 8, True), ([2000 // 8, 8], False),
        ]:
            heap = many_years(many, [range(len(many))])
            part = list(range(len(many)))
            if refused:
                self.assert_too_many(heap, part)
                for function, more in [(how_many, []), (dating_at, [0]), (number_of, [[]])]:
                    refusal = self.assert_refused(TooMany, function, heap.archive, heap.sayings, *more)
                    self.assertEqual(refusal.letter, 0)
            else:
                self.assert_listed(heap, part, list(itertools.product(*[range(some) for some in many])))

    def test_just_2000_and_just_one_more_by_sayings_that_bind(self):
        for n, years, many in [(24, 92, 2000), (22, 98, 2001), (300, 62, 1953), (300, 63, 2016), (300, 301, 45451)]:
            due = [(one, other) for one in range(years) for other in range(years) if 0 <= other - one <= n]
            self.assertEqual(len(due), many)
            for told in [[("within", ["b", "a", n])], [("apart", ["a", "b", -n, 0])]]:
                heap = Heap(Archive(0, years - 1, ["a", "b"], [], []), told)
                if many > 2000:
                    self.assert_too_many(heap, [0, 1])
                else:
                    self.assert_listed(heap, [0, 1], due)

    def test_letters_of_one_year_after_too_many_that_are_bound_by_the_last(self):
        """The first letters' years, by themselves very many, are bound by the letters behind them."""
        names = list("abcdefgh")
        archive = Archive(0, 300, names, [], [])
        told = [("same", [name, "h"]) for name in names[:-1]]
        self.assert_listed(Heap(archive, told), list(range(8)), [(year,) * 8 for year in range(301)])
        told = [("within", [name, "h", 1]) for name in names[:-1]]
        self.assert_too_many(Heap(archive, told), list(range(8)))
        heap = Heap(archive, told + [("between", ["h", 7, 8])])
        due = [years for years in itertools.product(range(7, 10), repeat=8) if years[7] < 9]
        due = [years for years in due if all(0 <= year - years[7] <= 1 for year in years)]
        self.assert_listed(heap, list(range(8)), due)

    def test_a_part_of_too_many_beside_one_that_is_not(self):
        for parts, many, bad in [
            ([[0, 1], [2, 3]], [50, 41, 50, 40], [0]), ([[0, 1], [2, 3]], [50, 40, 50, 41], [2]),
            ([[0, 3], [1, 2]], [50, 41, 50, 40], [1]), ([[0, 2], [1, 3]], [50, 50, 41, 41], [0, 1]),
            ([[0], [1, 4], [2, 3]], [301, 50, 50, 50, 40], [2]), ([[0], [1, 4], [2, 3]], [301, 50, 50, 41, 41], [1, 2]),
            ([[0, 2, 5], [1], [3, 7], [4, 6]], [20, 301, 20, 99, 99, 5, 99, 99], [3, 4]),
            ([[0], [1], [2], [3], [4], [5], [6, 7]], [301] * 8, [6]),
        ]:
            heap = many_years(many, parts)
            self.assertEqual(parts_of(heap.archive, heap.sayings), parts)
            for part in parts:
                if part[0] in bad:
                    self.assert_too_many(heap, part)
                else:
                    self.assert_listed(heap, part, list(itertools.product(*[range(many[letter]) for letter in part])))
            for function, more in [(how_many, []), (dating_at, [-1]), (dating_at, [0]), (number_of, [[]])]:
                refusal = self.assert_refused(TooMany, function, heap.archive, heap.sayings, *more)
                self.assertEqual(refusal.letter, bad[0])
            refusal = self.assert_refused(TooMany, number_of, heap.archive, heap.sayings, earliest(heap.archive, heap.sayings))
            self.assertEqual(refusal.letter, bad[0])

    def test_the_part_handed_in_stays(self):
        for heap in DATED[::5]:
            for part in heap.parts():
                handed = list(part)
                answer_or_refusal(part_datings, heap.archive, heap.sayings, handed)
                self.assertEqual(handed, part)


class NumbersTest(HeapCase):
    def assert_there_and_back(self, heap, number, years):
        told = dating_at(heap.archive, heap.sayings, number)
        self.assertIs(type(told), list)
        self.assertEqual(told, years, (heap.told, number))
        back = number_of(heap.archive, heap.sayings, years)
        self.assertIs(type(back), int)
        self.assertEqual(back, number)

    def assert_no_number(self, heap, number):
        refusal = self.assert_refused(NoNumber, dating_at, heap.archive, heap.sayings, number)
        self.assertEqual(refusal.number, number)

    def test_by_hand(self):
        heap = Heap(Archive(1500, 1503, ["a", "b", "c"], [], []), [("after", ["c", "a"]), ("between", ["a", 1501, 1600])])
        self.assertEqual(how_many(heap.archive, heap.sayings), 12)
        for number, years in [
            (0, [1501, 1500, 1502]), (1, [1501, 1501, 1502]), (3, [1501, 1503, 1502]), (4, [1501, 1500, 1503]),
            (8, [1502, 1500, 1503]), (11, [1502, 1503, 1503]),
        ]:
            self.assert_there_and_back(heap, number, years)

    def test_small_heaps_against_going_through_all_years(self):
        for place, heap in enumerate(DATED):
            if heap.is_small():
                datings = datings_in_order(heap)
                told = how_many(heap.archive, heap.sayings)
                self.assertIs(type(told), int)
                self.assertEqual(told, len(datings))
                # Of large lists not each dating is asked for, but of some of them.
                step = 1 if place % 8 == 0 else len(datings) // 40 + 1
                for number in [*range(0, len(datings), step), len(datings) - 1]:
                    self.assert_there_and_back(heap, number, datings[number])

    def test_all_heaps_against_the_numbers_of_their_parts(self):
        chance = random.Random(25)
        self.assertGreater(len([heap for heap in LISTED if not heap.is_small()]), 50)
        for heap in LISTED:
            lists = [list(heap.years_in_part(part)) for part in heap.parts()]
            many = 1
            for some in lists:
                many *= len(some)
            self.assertEqual(how_many(heap.archive, heap.sayings), many)
            for _ in range(5):
                places = [chance.randrange(len(some)) for some in lists]
                number = 0
                years = {}
                for part, some, place in zip(heap.parts(), lists, places):
                    number = number * len(some) + place
                    years.update(zip(part, some[place]))
                self.assert_there_and_back(heap, number, [years[letter] for letter in heap.letters()])

    def test_the_first_and_the_last_number(self):
        for heap in LISTED:
            many = how_many(heap.archive, heap.sayings)
            for number in [0, many - 1]:
                years = dating_at(heap.archive, heap.sayings, number)
                self.assert_dating(heap, years)
                self.assertEqual(number_of(heap.archive, heap.sayings, years), number)
            # No dating's first letter is of a year ahead of its least one, nor behind its greatest one.
            self.assertEqual(dating_at(heap.archive, heap.sayings, 0)[0], earliest(heap.archive, heap.sayings)[0])
            self.assertEqual(years[0], latest(heap.archive, heap.sayings)[0])

    def test_no_number(self):
        for heap in LISTED:
            many = how_many(heap.archive, heap.sayings)
            for number in FAR + [many, many + 1, 2 * many, -many]:
                self.assert_no_number(heap, number)

    def test_many_letters_of_many_years(self):
        heap = Heap(Archive(-150, 150, list("abcdefgh"), [], []), [])
        many = 301 ** 8
        self.assertEqual(how_many(heap.archive, []), many)
        self.assert_there_and_back(heap, 0, [-150] * 8)
        self.assert_there_and_back(heap, 1, [-150] * 7 + [-149])
        self.assert_there_and_back(heap, 301 ** 7, [-149] + [-150] * 7)
        self.assert_there_and_back(heap, many - 1, [150] * 8)
        self.assert_no_number(heap, many)
        self.assert_no_number(heap, -1)

    def test_parts_of_just_2000(self):
        heap = many_years([40, 50, 50, 40, 10, 200, 200, 10], [[0, 1], [2, 3], [4, 5], [6, 7]])
        self.assertEqual(how_many(heap.archive, heap.sayings), 2000 ** 4)
        self.assert_there_and_back(heap, 2000 ** 4 - 1, [39, 49, 49, 39, 9, 199, 199, 9])
        self.assert_there_and_back(heap, 2000 ** 3 + 41, [0, 1, 0, 0, 0, 0, 4, 1])
        self.assert_no_number(heap, 2000 ** 4)

    def test_no_dating_of_years_beside_those_of_datings(self):
        chance = random.Random(26)
        seen = []
        for heap in LISTED:
            if heap.is_small():
                years = list(chance.choice(heap.datings()))
                for letter, more in itertools.product(heap.letters(), [-1, 1]):
                    some = years[:letter] + [years[letter] + more] + years[letter + 1:]
                    told = answer_or_refusal(number_of, heap.archive, heap.sayings, some)
                    due = datings_in_order(heap).index(some) if some in heap.datings() else (NoDating, {})
                    self.assertEqual(told, due, (heap.told, some))
                    seen.append(told == (NoDating, {}))
        self.assertGreater(min(seen.count(True), seen.count(False)), 100)

    def test_no_dating_of_lists_of_other_lengths(self):
        for heap in LISTED:
            years = earliest(heap.archive, heap.sayings)
            for some in [[], years[:-1], years[1:], years + years[-1:], years + [0], years * 2, [0] * 9]:
                if len(some) != len(years):
                    self.assert_refused(NoDating, number_of, heap.archive, heap.sayings, some)

    def test_no_dating_of_far_years(self):
        for heap in LISTED[::3]:
            for letter in heap.letters():
                for year in [heap.archive.first - 1, heap.archive.present + 1, 10 ** 29, -10 ** 29]:
                    some = earliest(heap.archive, heap.sayings)
                    some[letter] = year
                    self.assert_refused(NoDating, number_of, heap.archive, heap.sayings, some)

    def test_too_many_ahead_of_both(self):
        self.assertGreater(len(CROWDED), 50)
        for heap in CROWDED:
            years = latest(heap.archive, heap.sayings)
            asked = [(how_many, [])] + [(dating_at, [number]) for number in FAR + [0, 1]]
            for function, more in asked + [(number_of, [some]) for some in [[], years, years + [0], [10 ** 9] * len(years)]]:
                refusal = self.assert_refused(TooMany, function, heap.archive, heap.sayings, *more)
                self.assertEqual(refusal.letter, heap.too_many())

    def test_stuck_ahead_of_all(self):
        for heap in STUCK + [with_no_dating(heap) for heap in CROWDED]:
            asked = [(how_many, [])] + [(dating_at, [number]) for number in FAR + [0, 1]]
            for function, more in asked + [(number_of, [some]) for some in [[], [heap.archive.first] * len(heap.letters())]]:
                self.assert_refused(Stuck, function, heap.archive, heap.sayings, *more)

    def test_the_years_handed_in_stay(self):
        for heap in LISTED[::5]:
            for years in [latest(heap.archive, heap.sayings), [], [0] * 9]:
                handed = list(years)
                answer_or_refusal(number_of, heap.archive, heap.sayings, handed)
                self.assertEqual(handed, years)


class OwnListsTest(HeapCase):
    def test_changes_of_what_was_told(self):
        for heap in SOME_HEAPS:
            self.assert_own(parts_of, heap)
            if heap in LISTED:
                self.assert_own(dating_at, heap, how_many(heap.archive, heap.sayings) - 1)
                for part in heap.parts():
                    self.assert_own(part_datings, heap, part)

    def test_a_list_of_sayings_that_grows_and_shrinks(self):
        for heap in HEAPS[::23]:
            years = [heap.archive.first] * len(heap.letters())
            for function, more in [(parts_of, []), (how_many, []), (dating_at, [3]), (number_of, [years])]:
                self.assert_grows_and_shrinks(function, heap, *more)

    def test_what_is_handed_in_stays_where_it_is_refused(self):
        for heap in STUCK[::9] + CROWDED[::5]:
            before = copy.deepcopy(vars(heap.archive))
            sayings = list(heap.sayings)
            for function, more in [(how_many, []), (dating_at, [-1]), (number_of, [[]])]:
                answer_or_refusal(function, heap.archive, heap.sayings, *more)
            self.assertEqual(vars(heap.archive), before)
            self.assertEqual(heap.sayings, sayings)


if __name__ == "__main__":
    unittest.main()
