"""Many small heaps, with what their sayings say told without the program, and what is asked of chains and rings."""

import copy
import functools
import itertools
import random
import unittest

from inkyears.archives import Archive
from inkyears.errors import ArchiveError
from inkyears.sayings import saying_of
from inkyears.steps import steps_of

TABLE = [90, 70, 70, 40, 10]
# As many lists of years as are gone through for one heap.
MOST_LISTS = 1500


class Heap:
    """An archive with sayings, kept as words and parts too, so that what they say is known without the program."""

    def __init__(self, archive, told, sayings=None):
        self.archive = archive
        self.told = told
        self.sayings = [saying_of(archive, word, parts) for word, parts in told] if sayings is None else sayings

    def only(self, numbers):
        """The heap of the very sayings with these numbers, in their order; a number may stand there twice."""
        return Heap(self.archive, [self.told[number] for number in numbers], [self.sayings[number] for number in numbers])

    def without(self, numbers):
        return self.only([number for number in range(len(self.told)) if number not in numbers])

    def letters(self):
        return range(len(self.archive.letters))

    def years(self):
        return range(self.archive.first, self.archive.present + 1)

    def is_small(self):
        return len(self.years()) ** len(self.archive.letters) <= MOST_LISTS

    def is_dating(self, years):
        if len(years) != len(self.archive.letters) or any(year not in self.years() for year in years):
            return False
        return all(self.is_so(word, parts, dict(zip(self.archive.letters, years))) for word, parts in self.told)

    def is_so(self, word, parts, years):
        own = years[parts[0]]
        if word == "ink":
            table = dict(self.archive.inks)[parts[1]]
            return abs(table[min(self.archive.present - own, len(table) - 1)] - parts[2]) <= parts[3]
        if word in ("reign", "under"):
            begin, length = {name: (begin, length) for name, begin, length in self.archive.reigns}[parts[1]]
            return own == begin + parts[2] - 1 if word == "reign" else begin <= own < begin + length
        if word == "between":
            return parts[1] <= own <= parts[2]
        gap = own - years[parts[1]]
        return {
            "after": lambda: gap > 0,
            "same": lambda: gap == 0,
            "within": lambda: 0 <= gap <= parts[2],
            "apart": lambda: parts[2] <= gap <= parts[3],
        }[word]()

    @functools.cache
    def datings(self):
        lists = itertools.product(self.years(), repeat=len(self.archive.letters))
        return [list(years) for years in lists if self.is_dating(list(years))]

    def limit(self, word, parts):
        """(letter, other, low, high): the other None for the ground, high None for no bound."""
        letter = self.archive.letters.index(parts[0])
        if word in ("ink", "reign", "under", "between"):
            years = [year for year in self.years() if self.is_so(word, parts, {parts[0]: year})]
            # Where no year of the span will do, one beyond it is asked for, which no letter can be of.
            return letter, None, min(years, default=self.archive.present + 1), max(years, default=self.archive.present + 1)
        low, high = {"after": (1, None), "same": (0, 0), "within": (0, parts[-1]), "apart": (parts[-2], parts[-1])}[word]
        return letter, self.archive.letters.index(parts[1]), low, high

    @functools.cached_property
    def limits(self):
        return [self.limit(word, parts) for word, parts in self.told]

    def has_dating(self):
        return least_years(self.archive, self.limits) is not None

    def parts(self):
        """The letters linked with one another, found by going on from letter to letter."""
        links = [{letter, other} for letter, other, low, high in self.limits if other is not None]
        parts = []
        for letter in self.letters():
            if not any(letter in part for part in parts):
                found = {letter}
                for _ in links:
                    found = found.union(*[link for link in links if link & found])
                parts.append(sorted(found))
        return parts

    def years_in_part(self, part):
        """The years of a part's letters in the datings, in order, found by fixing the years of one letter after another."""
        limits = [limit for limit in self.limits if limit[0] in part]

        def go(years):
            fixed = limits + [(letter, None, year, year) for letter, year in zip(part, years)]
            least = least_years(self.archive, fixed)
            greatest = greatest_years(self.archive, fixed)
            own = part[len(years)]
            for year in [] if least is None else range(least[own], greatest[own] + 1):
                if len(years) + 1 == len(part):
                    yield years + (year,)
                else:
                    yield from go(years + (year,))

        return go(())

    @functools.cache
    def too_many(self):
        """The least letter of the first part with more than 2000 datings, or None."""
        for part in self.parts():
            if len(list(itertools.islice(self.years_in_part(part), 2001))) > 2000:
                return part[0]
        return None


def some_saying(chance, archive):
    """A word and parts near the archive's span, so that many heaps can just be dated and many just can't."""
    letters = archive.letters
    span = archive.present - archive.first
    word = chance.choice(["ink", "reign", "under", "between"] + ["after", "same", "within", "apart"] * (len(letters) > 1))
    own = chance.choice(letters)
    other = chance.choice([letter for letter in letters if letter != own] or letters)
    if word == "ink":
        return word, [own, "iron", TABLE[chance.randint(0, min(span, 4))], chance.choice([0, 5, 20, 40])]
    if word == "reign":
        return word, [own, "mary", chance.randint(1, archive.reigns[0][2])]
    if word == "under":
        return word, [own, "mary"]
    if word == "between":
        low = archive.first + chance.randint(-1, span)
        return word, [own, low, low + chance.randint(0, span + 1)]
    low = chance.randint(-span, span) if span < 300 else chance.randint(-200, 200)
    more = {"within": [chance.randint(0, span)], "apart": [low, min(300, low + chance.randint(0, span // 2 + 1))]}
    return word, [own, other] + more.get(word, [])


def some_heap(chance, span, letters, sayings):
    first = chance.choice([-3000, -span, -3, 0, 1500, 3000 - span])
    reign = ("mary", first + chance.randint(0, span), chance.randint(1, min(100, span + 1)))
    archive = Archive(first, first + span, list("abcdefgh")[:letters], [("iron", TABLE)], [reign])
    return Heap(archive, [some_saying(chance, archive) for _ in range(sayings)])


def some_heap_with_a_dating(chance, span, letters, sayings):
    """Sayings that are all so of one list of years."""
    bare = some_heap(chance, span, letters, 0)
    years = {letter: chance.choice(bare.years()) for letter in bare.archive.letters}
    told = []
    while len(told) < sayings:
        word, parts = some_saying(chance, bare.archive)
        if bare.is_so(word, parts, years):
            told.append((word, parts))
    return Heap(bare.archive, told)


def heaps():
    chance = random.Random(20)
    made = []
    for span, letters in [(0, 1), (0, 3), (0, 8), (1, 2), (1, 8), (2, 3), (2, 6), (3, 5), (5, 3), (5, 4), (10, 3), (30, 2)]:
        for sayings in list(range(7)) * 4 + [8, 10, 12, 14, 16, 16]:
            made.append(some_heap(chance, span, letters, sayings))
    for span, letters in [(7, 8), (20, 5), (40, 8), (100, 4), (100, 8), (299, 6), (300, 1), (300, 7), (300, 8)]:
        for sayings in list(range(9)) * 2 + [10, 12, 14, 16, 16]:
            made.append(some_heap(chance, span, letters, sayings))
    for span, letters in [(1, 8), (3, 5), (5, 4), (10, 3), (30, 8), (150, 6), (300, 8)]:
        for sayings in [4, 8, 12, 15, 15, 15, 16, 16, 16]:
            heap = some_heap_with_a_dating(chance, span, letters, sayings)
            made.append(heap)
            # One saying more, among the others, often shuts the last dating.
            place = chance.randint(0, sayings)
            told = heap.told[:place] + [some_saying(chance, heap.archive)] + heap.told[place:]
            made.append(Heap(heap.archive, told[:16]))
    for heap in made[3::16]:
        # Some sayings stand twice, the very same ones.
        numbers = list(range(len(heap.told)))
        twice = numbers + chance.sample(numbers, min(len(numbers), 16 - len(numbers), chance.randint(1, 4)))
        made.append(heap.only(chance.sample(twice, len(twice))))
    return made


def least_years(archive, limits):
    """Each letter's least year by such limits, or None where one would be beyond the span."""
    years = [archive.first for _ in archive.letters]
    moved = True
    while moved:
        moved = False
        for letter, other, low, high in limits:
            behind = 0 if other is None else years[other]
            if years[letter] < behind + low:
                years[letter] = behind + low
                moved = True
            if high is not None and years[letter] > behind + high:
                if other is None:
                    return None
                years[other] = years[letter] - high
                moved = True
        if max(years) > archive.present:
            return None
    return years


def greatest_years(archive, limits):
    """Each letter's greatest year: the least one where the years are counted the other way about."""
    turned = Archive(0 - archive.present, 0 - archive.first, archive.letters, [], [])
    flipped = []
    for letter, other, low, high in limits:
        if other is None:
            flipped.append((letter, None, -high, -low))
        else:
            flipped.append((other, letter, low, high))
    years = least_years(turned, flipped)
    return None if years is None else [-year for year in years]


def earliest_by_raising(heap):
    """Each letter's least year, found by pushing years up one by one; None where one is pushed out of the span."""
    years = {letter: heap.archive.first for letter in heap.archive.letters}
    moved = True
    while moved:
        moved = False
        for word, parts in heap.told:
            while not heap.is_so(word, parts, years):
                later = parts[0]
                if word in ("after", "same", "within", "apart"):
                    gap = years[parts[0]] - years[parts[1]]
                    most = {"after": gap, "same": 0, "within": parts[-1], "apart": parts[-1]}[word]
                    later = parts[1] if gap > most else parts[0]
                years[later] += 1
                moved = True
                if years[later] > heap.archive.present:
                    return None
    return list(years.values())


def chain_costs(steps, start):
    """The least cost to each end of all chains from a start without a place twice, gone through one by one."""
    costs = {}

    def go(place, cost, been):
        costs[place] = min(cost, costs.get(place, cost))
        for begin, end, more, _ in steps:
            if begin == place and end not in been:
                go(end, cost + more, been + [end])

    go(start, 0, [start])
    return costs


def costs_step_by_step(steps, start, most):
    """The least cost to each end of all chains from a start with so many steps at most."""
    costs = {start: 0}
    for _ in range(most):
        longer = dict(costs)
        for begin, end, more, _ in steps:
            if begin in costs:
                longer[end] = min(costs[begin] + more, longer.get(end, costs[begin] + more))
        costs = longer
    return costs


HEAPS = heaps()
DATED = [heap for heap in HEAPS if heap.has_dating()]
STUCK = [heap for heap in HEAPS if not heap.has_dating()]
# Of those with a dating, the ones whose datings are all listed and the ones that have too many.
LISTED = [heap for heap in DATED if heap.too_many() is None]
CROWDED = [heap for heap in DATED if heap.too_many() is not None]
# Where much is asked of each heap, fewer of them do.
SOME_HEAPS = HEAPS[::4] + HEAPS[-20:]


def example():
    """a is of 1518 or 1519, b at most nine years earlier, c earlier than b."""
    archive = Archive(1500, 1520, ["a", "b", "c"], [("iron", TABLE)], [("mary", 1505, 7)])
    return Heap(archive, [("ink", ["a", "iron", 70, 0]), ("within", ["a", "b", 9]), ("after", ["b", "c"])])


def linked(one, other):
    """Two letters linked by a saying that shuts nothing in a span of 300 years."""
    return ("apart", [one, other, -300, 300])


def many_years(many, parts):
    """Letters of so many years each, from 0 on, in such parts, so that a part has as many datings as these multiplied."""
    names = list("abcdefgh")[:len(many)]
    told = [("between", [name, 0, some - 1]) for name, some in zip(names, many) if some < 301]
    for part in parts:
        told += [linked(names[one], names[other]) for one, other in zip(part, part[1:])]
    return Heap(Archive(0, 300, names, [("iron", TABLE)], []), told)


def with_no_dating(heap):
    """The heap with one more saying, by which the last letter is of a year beyond the span."""
    year = heap.archive.present + 1
    return Heap(heap.archive, heap.told + [("between", [heap.archive.letters[-1], year, year])])


def lists_in(told):
    """All lists in an answer, at any depth."""
    if not isinstance(told, (list, tuple)):
        return []
    inner = [some for part in told for some in lists_in(part)]
    return inner + [told] if isinstance(told, list) else inner


def spoil(told):
    for some in lists_in(told):
        some.reverse()
        some.append(None)
        some[0] = "spoilt"


def cost_of(chain):
    return sum(step[2] for step in chain)


def answer_or_refusal(function, *parts):
    try:
        return function(*parts)
    except ArchiveError as error:
        return type(error), vars(error)


class HeapCase(unittest.TestCase):
    def assert_refused(self, kind, function, *parts):
        with self.assertRaises(ArchiveError) as taken:
            function(*parts)
        self.assertIs(type(taken.exception), kind)
        return taken.exception

    def assert_dating(self, heap, years):
        self.assertIs(type(years), list)
        self.assertEqual([type(year) for year in years], [int for _ in heap.letters()])
        self.assertTrue(heap.is_dating(years), (heap.told, years))

    def assert_steps(self, heap, steps, without=()):
        """Steps of the heap, each from where the one ahead ends, none by a saying that is left out."""
        self.assertIs(type(steps), list)
        own = steps_of(heap.archive, heap.sayings)
        for step in steps:
            self.assertIs(type(step), tuple)
            self.assertIn(step, own)
            self.assertNotIn(step[3], without)
        self.assertEqual([step[1] for step in steps[:-1]], [step[0] for step in steps[1:]])

    def assert_chain(self, heap, chain, start, end, without=()):
        self.assert_steps(heap, chain, without)
        self.assertEqual((chain[0][0], chain[-1][1]), (start, end))

    def assert_ring(self, heap, ring, without=()):
        self.assertGreater(len(ring), 0)
        self.assert_chain(heap, ring, ring[0][0], ring[0][0], without)
        self.assertLess(cost_of(ring), 0)
        self.assertEqual(len({step[0] for step in ring}), len(ring))

    def assert_own(self, function, heap, *parts):
        """What is told is the asker's own: told again behind changes of it, while what is handed in stays."""
        before = list(heap.sayings)
        told = function(heap.archive, heap.sayings, *parts)
        kept = copy.deepcopy(told)
        self.assertEqual(len({id(some) for some in lists_in(told)}), len(lists_in(told)))
        again = function(heap.archive, heap.sayings, *parts)
        spoil(told)
        self.assertEqual(again, kept)
        self.assertEqual(function(heap.archive, heap.sayings, *parts), kept)
        self.assertEqual([id(saying) for saying in heap.sayings], [id(saying) for saying in before])
        self.assertEqual([saying.shown() for saying in before], [
            " ".join([word, *map(str, parts)]) for word, parts in heap.told
        ])

    def assert_grows_and_shrinks(self, function, heap, *parts):
        """One list of sayings, asked about while it grows and shrinks, is told of as it is each time."""
        sayings = []
        kept = []
        for many in list(range(len(heap.told))) + list(range(len(heap.told), -1, -1)):
            sayings[:] = heap.sayings[:many]
            fresh = Heap(copy.deepcopy(heap.archive), heap.told[:many])
            told = answer_or_refusal(function, heap.archive, sayings, *parts)
            self.assertEqual(told, answer_or_refusal(function, fresh.archive, fresh.sayings, *parts))
            kept.append((told, copy.deepcopy(told)))
        for told, before in kept:
            self.assertEqual(told, before)
