"""Points 2, 3, 4, 11 and 13 to 16: datings, rings and least costs, over many small heaps."""

import itertools
import random
import unittest

from inkyears.archives import Archive
from inkyears.errors import ArchiveError, Stuck
from inkyears.nets import holds, least_costs, settled
from inkyears.sayings import saying_of
from inkyears.steps import steps_of

TABLE = [90, 70, 70, 40, 10]
# As many lists of years as are gone through for one heap.
MOST_LISTS = 1500


class Heap:
    """An archive with sayings, kept as words and parts too, so that what they say is known without the program."""

    def __init__(self, archive, told):
        self.archive = archive
        self.told = told
        self.sayings = [saying_of(archive, word, parts) for word, parts in told]

    def years(self):
        return range(self.archive.first, self.archive.present + 1)

    def is_small(self):
        return len(self.years()) ** len(self.archive.letters) <= MOST_LISTS

    def is_dating(self, years):
        if len(years) != len(self.archive.letters) or any(year not in self.years() for year in years):
            return False
        return all(self.is_so(word, parts, dict(zip(self.archive.letters, years))) for word, parts in self.told)

    def is_so(self, word, parts, years):
        own = years[parts[0]]
        if word == "ink":
            table = dict(self.archive.inks)[parts[1]]
            return abs(table[min(self.archive.present - own, len(table) - 1)] - parts[2]) <= parts[3]
        if word in ("reign", "under"):
            begin, length = {name: (begin, length) for name, begin, length in self.archive.reigns}[parts[1]]
            return own == begin + parts[2] - 1 if word == "reign" else begin <= own < begin + length
        if word == "between":
            return parts[1] <= own <= parts[2]
        gap = own - years[parts[1]]
        return {
            "after": lambda: gap > 0,
            "same": lambda: gap == 0,
            "within": lambda: 0 <= gap <= parts[2],
            "apart": lambda: parts[2] <= gap <= parts[3],
        }[word]()

    def datings(self):
        lists = itertools.product(self.years(), repeat=len(self.archive.letters))
        return [list(years) for years in lists if self.is_dating(list(years))]


def some_saying(chance, archive):
    """A word and parts near the archive's span, so that many heaps can just be dated and many just can't."""
    letters = archive.letters
    span = archive.present - archive.first
    word = chance.choice(["ink", "reign", "under", "between"] + ["after", "same", "within", "apart"] * (len(letters) > 1))
    own = chance.choice(letters)
    other = chance.choice([letter for letter in letters if letter != own] or letters)
    if word == "ink":
        return word, [own, "iron", TABLE[chance.randint(0, min(span, 4))], chance.choice([0, 5, 20, 40])]
    if word == "reign":
        return word, [own, "mary", chance.randint(1, archive.reigns[0][2])]
    if word == "under":
        return word, [own, "mary"]
    if word == "between":
        low = archive.first + chance.randint(-1, span)
        return word, [own, low, low + chance.randint(0, span + 1)]
    low = chance.randint(-span, span) if span < 300 else chance.randint(-200, 200)
    more = {"within": [chance.randint(0, span)], "apart": [low, min(300, low + chance.randint(0, span // 2 + 1))]}
    return word, [own, other] + more.get(word, [])


def some_heap(chance, span, letters, sayings):
    first = chance.choice([-3000, -span, -3, 0, 1500, 3000 - span])
    reign = ("mary", first + chance.randint(0, span), chance.randint(1, min(100, span + 1)))
    archive = Archive(first, first + span, list("abcdefgh")[:letters], [("iron", TABLE)], [reign])
    return Heap(archive, [some_saying(chance, archive) for _ in range(sayings)])


def some_heap_with_a_dating(chance, span, letters, sayings):
    """Sayings that are all so of one list of years."""
    bare = some_heap(chance, span, letters, 0)
    years = {letter: chance.choice(bare.years()) for letter in bare.archive.letters}
    told = []
    while len(told) < sayings:
        word, parts = some_saying(chance, bare.archive)
        if bare.is_so(word, parts, years):
            told.append((word, parts))
    return Heap(bare.archive, told)


def heaps():
    chance = random.Random(20)
    made = []
    for span, letters in [(0, 1), (0, 3), (0, 8), (1, 2), (1, 8), (2, 3), (2, 6), (3, 5), (5, 3), (5, 4), (10, 3), (30, 2)]:
        for sayings in list(range(7)) * 4 + [8, 10, 12, 14, 16, 16]:
            made.append(some_heap(chance, span, letters, sayings))
    for span, letters in [(7, 8), (20, 5), (40, 8), (100, 4), (100, 8), (299, 6), (300, 1), (300, 7), (300, 8)]:
        for sayings in list(range(9)) * 2 + [10, 12, 14, 16, 16]:
            made.append(some_heap(chance, span, letters, sayings))
    for span, letters in [(1, 8), (3, 5), (5, 4), (10, 3), (30, 8), (150, 6), (300, 8)]:
        for sayings in [4, 8, 12, 15, 15, 15, 16, 16, 16]:
            heap = some_heap_with_a_dating(chance, span, letters, sayings)
            made.append(heap)
            # One saying more, among the others, often shuts the last dating.
            place = chance.randint(0, sayings)
            told = heap.told[:place] + [some_saying(chance, heap.archive)] + heap.told[place:]
            made.append(Heap(heap.archive, told[:16]))
    return made


HEAPS = heaps()


def earliest_by_raising(heap):
    """Each letter's least year, found by pushing years up one by one; None where one is pushed out of the span."""
    years = {letter: heap.archive.first for letter in heap.archive.letters}
    moved = True
    while moved:
        moved = False
        for word, parts in heap.told:
            while not heap.is_so(word, parts, years):
                later = parts[0]
                if word in ("after", "same", "within", "apart"):
                    gap = years[parts[0]] - years[parts[1]]
                    most = {"after": gap, "same": 0, "within": parts[-1], "apart": parts[-1]}[word]
                    later = parts[1] if gap > most else parts[0]
                years[later] += 1
                moved = True
                if years[later] > heap.archive.present:
                    return None
    return list(years.values())


def chain_costs(steps, start):
    """The least cost to each end of all chains from a start without a place twice, gone through one by one."""
    costs = {}

    def go(place, cost, been):
        costs[place] = min(cost, costs.get(place, cost))
        for begin, end, more, _ in steps:
            if begin == place and end not in been:
                go(end, cost + more, been + [end])

    go(start, 0, [start])
    return costs


def costs_step_by_step(steps, start, most):
    """The least cost to each end of all chains from a start with so many steps at most."""
    costs = {start: 0}
    for _ in range(most):
        longer = dict(costs)
        for begin, end, more, _ in steps:
            if begin in costs:
                longer[end] = min(costs[begin] + more, longer.get(end, costs[begin] + more))
        costs = longer
    return costs


def is_stuck(heap):
    return settled(heap.archive, heap.sayings)[0] == "ring"


class HeapsTest(unittest.TestCase):
    def test_there_are_heaps_of_both_sorts(self):
        stuck = [is_stuck(heap) for heap in HEAPS]
        self.assertGreater(stuck.count(True), 150)
        self.assertGreater(stuck.count(False), 150)
        small = [is_stuck(heap) for heap in HEAPS if heap.is_small()]
        self.assertGreater(small.count(True), 100)
        self.assertGreater(small.count(False), 100)


class HoldsTest(unittest.TestCase):
    def setUp(self):
        archive = Archive(1500, 1520, ["a", "b", "c"], [("iron", TABLE)], [("mary", 1505, 7)])
        self.heap = Heap(archive, [("ink", ["a", "iron", 70, 0]), ("within", ["a", "b", 9]), ("under", ["b", "mary"])])

    def assert_holds(self, years, answer):
        told = holds(self.heap.archive, self.heap.sayings, years)
        self.assertIs(told, answer, years)

    def test_datings(self):
        for years in [[1518, 1509, 1500], [1519, 1510, 1520], [1519, 1511, 1507], [1518, 1511, 1500]]:
            self.assert_holds(years, True)

    def test_one_year_beside_a_bound(self):
        for years in [[1517, 1509, 1500], [1520, 1511, 1500], [1518, 1508, 1500], [1518, 1512, 1500], [1519, 1509, 1500]]:
            self.assert_holds(years, False)

    def test_beyond_the_span(self):
        for years in [[1518, 1509, 1499], [1518, 1509, 1521], [1518, 1509, 0], [1518, 1509, 10 ** 29]]:
            self.assert_holds(years, False)
        archive = Archive(1500, 1520, ["a", "b"], [], [])
        for years in [[1499, 1500], [1500, 1499], [1521, 1520], [1520, 1521]]:
            self.assertIs(holds(archive, [], years), False)
        for years in [[1500, 1500], [1520, 1520], [1500, 1520], [1520, 1500]]:
            self.assertIs(holds(archive, [], years), True)

    def test_lists_of_other_lengths(self):
        for years in [[], [1518], [1518, 1509], [1518, 1509, 1500, 1500], [1518, 1509, 1500] * 2, [1500] * 9]:
            self.assert_holds(years, False)
        for many in range(5):
            self.assertIs(holds(Archive(0, 5, ["a", "b"], [], []), [], [3] * many), many == 2)

    def test_truths_are_no_years(self):
        archive = Archive(0, 1, ["a"], [], [])
        self.assertEqual([holds(archive, [], [year]) for year in [0, 1, True, False]], [True, True, False, False])
        pair = Archive(0, 1, ["a", "b"], [], [])
        self.assertEqual([holds(pair, [], years) for years in [[0, 1], [0, True], [False, 1]]], [True, False, False])

    def test_against_what_the_sayings_say(self):
        for heap in HEAPS:
            if heap.is_small():
                for years in itertools.product(heap.years(), repeat=len(heap.archive.letters)):
                    told = holds(heap.archive, heap.sayings, list(years))
                    self.assertIs(told, heap.is_dating(list(years)), (heap.told, years))

    def test_near_the_earliest_dating(self):
        for heap in HEAPS:
            if not is_stuck(heap):
                years = settled(heap.archive, heap.sayings)[1]
                for letter, more in itertools.product(range(len(years)), [-1, 0, 1, 2, 301]):
                    other = years[:letter] + [years[letter] + more] + years[letter + 1:]
                    self.assertIs(holds(heap.archive, heap.sayings, other), heap.is_dating(other))

    def test_what_is_handed_in_stays(self):
        for years in [[1518, 1509, 1500], [1518, 1508, 1500], [1518], []]:
            before = (list(years), list(self.heap.sayings))
            holds(self.heap.archive, self.heap.sayings, years)
            self.assertEqual((years, self.heap.sayings), before)


class SettledTest(unittest.TestCase):
    def assert_ring(self, heap, ring):
        self.assertIs(type(ring), list)
        self.assertGreater(len(ring), 0)
        for step in ring:
            self.assertIn(step, steps_of(heap.archive, heap.sayings))
        for step, after in zip(ring, ring[1:] + ring[:1]):
            self.assertEqual(step[1], after[0])
        self.assertLess(sum(step[2] for step in ring), 0)
        self.assertEqual(len({step[0] for step in ring}), len(ring))

    def test_kinds(self):
        for heap in HEAPS:
            told = settled(heap.archive, heap.sayings)
            self.assertIs(type(told), tuple)
            self.assertEqual(len(told), 2)
            self.assertIn(told[0], ["dating", "ring"])
            self.assertIs(type(told[1]), list)

    def test_small_heaps_against_going_through_all_years(self):
        for heap in HEAPS:
            if heap.is_small():
                datings = heap.datings()
                least = [min(years) for years in zip(*datings)]
                told = settled(heap.archive, heap.sayings)
                with self.subTest(told=heap.told):
                    self.assertEqual(told[0], "dating" if datings else "ring")
                    if datings:
                        self.assertEqual(told[1], least)
                        self.assertIn(told[1], datings)

    def test_all_heaps_against_pushing_years_up(self):
        for heap in HEAPS:
            least = earliest_by_raising(heap)
            told = settled(heap.archive, heap.sayings)
            with self.subTest(told=heap.told):
                self.assertEqual(told[0], "ring" if least is None else "dating")
                if least is not None:
                    self.assertEqual(told[1], least)
                    self.assertTrue(heap.is_dating(told[1]))
                    self.assertIs(holds(heap.archive, heap.sayings, told[1]), True)

    def test_rings(self):
        for heap in HEAPS:
            told = settled(heap.archive, heap.sayings)
            if told[0] == "ring":
                with self.subTest(told=heap.told):
                    self.assert_ring(heap, told[1])

    def test_without_sayings_all_are_of_the_first_year(self):
        for first, span, letters in itertools.product([-3000, -5, 0, 7, 2700], [0, 1, 300], [1, 2, 8]):
            archive = Archive(first, first + span, list("abcdefgh")[:letters], [], [])
            self.assertEqual(settled(archive, []), ("dating", [first] * letters))

    def test_long_rows_of_letters(self):
        names = list("abcdefgh")
        for span in range(11):
            archive = Archive(100, 100 + span, names, [], [])
            for order in [names, names[::-1], list("cahbgdfe")]:
                heap = Heap(archive, [("after", [one, other]) for one, other in zip(order, order[1:])])
                told = settled(archive, heap.sayings)
                if span < 7:
                    self.assertEqual(told[0], "ring")
                    self.assert_ring(heap, told[1])
                else:
                    self.assertEqual(told, ("dating", [107 - order.index(name) for name in names]))

    def test_a_ring_of_all_letters(self):
        names = list("abcdefgh")
        for many in range(2, 9):
            archive = Archive(0, 300, names[:many], [], [])
            order = names[:many]
            for row in [order, order[::-1]]:
                heap = Heap(archive, [("after", [one, other]) for one, other in zip(row, row[1:] + row[:1])])
                told = settled(archive, heap.sayings)
                self.assertEqual(told[0], "ring")
                self.assert_ring(heap, told[1])
                heap = Heap(archive, [("within", [one, other, 5]) for one, other in zip(row, row[1:] + row[:1])])
                self.assertEqual(settled(archive, heap.sayings), ("dating", [0] * many))

    def test_one_letter_with_sayings_that_shut_each_other(self):
        archive = Archive(0, 300, ["a"], [], [])
        for low, high, told in [(5, 9, [5]), (9, 9, [9]), (0, 0, [0]), (-7, 0, [0]), (300, 400, [300]), (-4000, 4000, [0])]:
            heap = Heap(archive, [("between", ["a", low, high])])
            self.assertEqual(settled(archive, heap.sayings), ("dating", told))
        for told in [[(301, 400)], [(-9, -1)], [(0, 5), (6, 9)], [(6, 9), (0, 5)], [(4000, 4000)], [(0, 300), (9, 9), (8, 8)]]:
            heap = Heap(archive, [("between", ["a", low, high]) for low, high in told])
            self.assertEqual(settled(archive, heap.sayings)[0], "ring")
            self.assert_ring(heap, settled(archive, heap.sayings)[1])

    def test_more_than_sixteen_sayings(self):
        heap = Heap(Archive(0, 9, ["a", "b"], [], []), [("after", ["a", "b"])] * 18)
        self.assertEqual(settled(heap.archive, heap.sayings), ("dating", [1, 0]))

    def test_years_of_small_datings_are_all_from_the_least_to_the_greatest(self):
        for heap in HEAPS:
            if heap.is_small():
                datings = heap.datings()
                for years in zip(*datings):
                    self.assertEqual(sorted(set(years)), list(range(min(years), max(years) + 1)))
                if datings:
                    self.assertEqual(settled(heap.archive, heap.sayings)[1], min(datings))


class LeastCostsTest(unittest.TestCase):
    def assert_stuck(self, heap):
        with self.assertRaises(ArchiveError) as taken:
            least_costs(heap.archive, heap.sayings)
        self.assertIs(type(taken.exception), Stuck)

    def test_stuck_where_there_is_no_dating(self):
        for heap in HEAPS:
            if is_stuck(heap):
                self.assert_stuck(heap)

    def test_against_going_through_all_chains(self):
        for heap in HEAPS:
            if len(heap.archive.letters) <= 4 and not is_stuck(heap):
                places = list(range(len(heap.archive.letters))) + [None]
                steps = steps_of(heap.archive, heap.sayings)
                rows = [chain_costs(steps, start) for start in places]
                costs = least_costs(heap.archive, heap.sayings)
                self.assertEqual(costs, [[row[end] for end in places] for row in rows], heap.told)

    def test_all_heaps_against_chains_of_so_many_steps(self):
        for heap in HEAPS:
            if not is_stuck(heap):
                places = list(range(len(heap.archive.letters))) + [None]
                steps = steps_of(heap.archive, heap.sayings)
                rows = [costs_step_by_step(steps, start, len(places) + 2) for start in places]
                costs = least_costs(heap.archive, heap.sayings)
                self.assertEqual(costs, [[row[end] for end in places] for row in rows], heap.told)

    def test_against_what_all_datings_tell(self):
        for heap in HEAPS:
            datings = heap.datings() if heap.is_small() else []
            if datings:
                grounded = [years + [0] for years in datings]
                places = range(len(grounded[0]))
                most = [[max(years[end] - years[start] for years in grounded) for end in places] for start in places]
                self.assertEqual(least_costs(heap.archive, heap.sayings), most)

    def test_shape_and_nought_from_each_place_to_itself(self):
        for heap in HEAPS:
            if not is_stuck(heap):
                costs = least_costs(heap.archive, heap.sayings)
                size = len(heap.archive.letters) + 1
                self.assertIs(type(costs), list)
                self.assertEqual([(type(row), len(row)) for row in costs], [(list, size)] * size)
                self.assertEqual([costs[place][place] for place in range(size)], [0] * size)

    def test_no_step_leads_on_for_less(self):
        for heap in HEAPS:
            if not is_stuck(heap):
                costs = least_costs(heap.archive, heap.sayings)
                ground = len(heap.archive.letters)
                for start, end, cost, _ in steps_of(heap.archive, heap.sayings):
                    start = ground if start is None else start
                    end = ground if end is None else end
                    for row in costs:
                        self.assertLessEqual(row[end], row[start] + cost)

    def test_the_earliest_dating_is_in_them(self):
        for heap in HEAPS:
            if not is_stuck(heap):
                costs = least_costs(heap.archive, heap.sayings)
                self.assertEqual([-row[-1] for row in costs[:-1]], settled(heap.archive, heap.sayings)[1])
                self.assertTrue(heap.is_dating(costs[-1][:-1]))

    def test_eight_letters_by_hand(self):
        archive = Archive(1000, 1300, list("abcdefgh"), [], [])
        self.assertEqual(least_costs(archive, []), [
            [0 if start == end else 300 for end in range(8)] + [-1000] for start in range(8)
        ] + [[1300] * 8 + [0]])
        heap = Heap(archive, [("apart", [one, other, 2, 3]) for one, other in zip("abcdefg", "bcdefgh")])
        costs = least_costs(archive, heap.sayings)
        for start, end in itertools.product(range(8), repeat=2):
            self.assertEqual(costs[start][end], 3 * (start - end) if start >= end else 2 * (start - end))
        self.assertEqual(costs[8][:8], [1300 - 2 * letter for letter in range(8)])
        self.assertEqual([row[8] for row in costs[:8]], [-1000 - 2 * (7 - letter) for letter in range(8)])


class OwnListsTest(unittest.TestCase):
    def test_changes_of_what_was_told(self):
        for heap in HEAPS[::5]:
            told = settled(heap.archive, heap.sayings)
            before = list(told[1])
            told[1].reverse()
            told[1].append(None)
            self.assertEqual(settled(heap.archive, heap.sayings), (told[0], before))
            if told[0] == "dating":
                costs = least_costs(heap.archive, heap.sayings)
                before = [list(row) for row in costs]
                costs[0][0] = -5
                costs[-1].clear()
                costs.pop(0)
                self.assertEqual(least_costs(heap.archive, heap.sayings), before)

    def test_no_row_is_another_ones(self):
        costs = least_costs(Archive(0, 5, ["a", "b", "c"], [], []), [])
        self.assertEqual(len({id(row) for row in costs}), 4)

    def test_what_is_handed_in_stays(self):
        for heap in HEAPS[::5]:
            before = list(heap.sayings)
            stuck = is_stuck(heap)
            if not stuck:
                least_costs(heap.archive, heap.sayings)
            self.assertEqual(heap.sayings, before)
            self.assertEqual([saying.shown() for saying in heap.sayings], [
                " ".join([word, *map(str, parts)]) for word, parts in heap.told
            ])

    def test_a_list_of_sayings_that_grows_and_shrinks(self):
        for heap in HEAPS[::7]:
            whole = settled(heap.archive, heap.sayings)
            sayings = []
            for many in list(range(len(heap.told))) + list(range(len(heap.told), -1, -1)):
                sayings[:] = heap.sayings[:many]
                fresh = Heap(heap.archive, heap.told[:many])
                told = settled(heap.archive, sayings)
                self.assertEqual(told, settled(fresh.archive, fresh.sayings))
                self.assertEqual(told[0] == "ring", earliest_by_raising(fresh) is None)
                if told[0] == "dating":
                    self.assertEqual(told[1], earliest_by_raising(fresh))
                    self.assertIs(holds(heap.archive, sayings, told[1]), True)
                    self.assertEqual(least_costs(heap.archive, sayings), least_costs(fresh.archive, fresh.sayings))
            self.assertEqual(settled(heap.archive, heap.sayings), whole)

    def test_what_was_told_stays_as_the_sayings_change(self):
        archive = Archive(0, 9, ["a", "b"], [], [])
        sayings = [saying_of(archive, "after", ["a", "b"])]
        dating = settled(archive, sayings)
        costs = least_costs(archive, sayings)
        sayings.append(saying_of(archive, "after", ["b", "a"]))
        ring = settled(archive, sayings)
        kept = list(ring[1])
        self.assertRaises(Stuck, least_costs, archive, sayings)
        sayings.clear()
        self.assertEqual(settled(archive, sayings), ("dating", [0, 0]))
        self.assertEqual(dating, ("dating", [1, 0]))
        self.assertEqual(costs, [[0, -1, -1], [9, 0, 0], [9, 8, 0]])
        self.assertEqual(ring, ("ring", kept))

    def test_the_order_of_sayings_is_nothing_to_a_dating(self):
        for heap in HEAPS[::3]:
            turned = heap.sayings[::-1]
            told = settled(heap.archive, heap.sayings)
            self.assertEqual(settled(heap.archive, turned)[0], told[0])
            if told[0] == "dating":
                self.assertEqual(settled(heap.archive, turned), told)
                self.assertEqual(least_costs(heap.archive, turned), least_costs(heap.archive, heap.sayings))


if __name__ == "__main__":
    unittest.main()
