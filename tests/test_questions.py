"""Points 2, 3, 4, 26 and 27: the answers to questions and the best of them, over many small heaps."""

import collections
import copy
import itertools
import pathlib
import random
import sys
import unittest

from inkyears.archives import Archive
from inkyears.errors import Stuck, TooMany
from inkyears.lists import how_many
from inkyears.questions import answers_to, best_question

sys.path.insert(0, str(pathlib.Path(__file__).resolve().parent))

from heaps import (  # noqa: E402
    CROWDED, DATED, HEAPS, LISTED, SOME_HEAPS, STUCK, TABLE, Heap, HeapCase, answer_or_refusal, linked, many_years,
    with_no_dating,
)


def questions_of(heap):
    letters = heap.letters()
    pairs = list(itertools.permutations(letters, 2))
    one = [("year", letter) for letter in letters] + [("dark", letter, name) for letter in letters for name, _ in heap.archive.inks]
    return one + [("order", *pair) for pair in pairs] + [("gap", *pair) for pair in pairs]


def some_questions(chance, heap, many):
    questions = questions_of(heap)
    return chance.sample(questions, min(many, len(questions)))


def answer_in(heap, question, years):
    """The answer of one list of years."""
    own = years[question[1]]
    if question[0] == "year":
        return own
    if question[0] == "dark":
        table = dict(heap.archive.inks)[question[2]]
        return (table + table[-1:] * 301)[heap.archive.present - own]
    gap = own - years[question[2]]
    return gap if question[0] == "gap" else (gap > 0) - (gap < 0)


def answers_by_going_through(heap, question):
    return sorted(collections.Counter(answer_in(heap, question, years) for years in heap.datings()).items())


def asked_of(question):
    return question[1:2] if question[0] in ("year", "dark") else question[1:]


def refused_letter(heap, question):
    """The letter that a question is refused with, as the parts' datings are told in heaps.py, or None."""
    if heap.too_many() is not None:
        return heap.too_many()
    parts = [part for part in heap.parts() if set(part) & set(asked_of(question))]
    many = 1
    for part in parts:
        many *= len(list(heap.years_in_part(part)))
    return parts[0][0] if many > 2000 else None


def saying_with(heap, question, answer):
    """What tells that a question has this answer."""
    own = heap.archive.letters[question[1]]
    if question[0] == "year":
        return "between", [own, answer, answer]
    if question[0] == "dark":
        return "ink", [own, question[2], answer, 0]
    other = heap.archive.letters[question[2]]
    if question[0] == "gap":
        return "apart", [own, other, answer, answer]
    return {-1: ("after", [other, own]), 0: ("same", [own, other]), 1: ("after", [own, other])}[answer]


def dark_heaps():
    """Heaps with several inks, one of them called like a letter, whose tables are short, flat, and longer than the span."""
    chance = random.Random(27)
    inks = [("iron", TABLE), ("a", [5]), ("soot", [9, 9, 9]), ("gall", list(range(100, 70, -1))), ("walnut", [7, 7, 3, 3, 0, 0])]
    made = []
    for span, letters in [(0, 2), (1, 3), (4, 3), (6, 3), (40, 2)]:
        archive = Archive(-2, span - 2, list("abc")[:letters], inks, [])
        names = archive.letters
        for told in [[], [("after", names[:2])], [("within", names[:2] + [span])], [("ink", ["a", "a", 5, 0])], [linked("b", "a")]]:
            heap = Heap(archive, told)
            made.append(heap if heap.has_dating() else Heap(archive, []))
        made.append(Heap(archive, [("between", [chance.choice(names), -2, chance.choice([-2, span - 2])])]))
    return made


class AnswersTest(HeapCase):
    def assert_answers(self, heap, question, due):
        told = answers_to(heap.archive, heap.sayings, question)
        self.assertIs(type(told), list)
        self.assertEqual({(type(pair), len(pair), type(pair[0]), type(pair[1])) for pair in told}, {(tuple, 2, int, int)})
        self.assertEqual(told, due, (heap.told, question))

    def assert_too_many(self, heap, question, letter):
        refusal = self.assert_refused(TooMany, answers_to, heap.archive, heap.sayings, question)
        self.assertEqual(refusal.letter, letter, (heap.told, question))

    def test_by_hand(self):
        archive = Archive(1500, 1503, ["a", "b", "c"], [("iron", [9, 9, 4])], [])
        heap = Heap(archive, [("after", ["c", "a"]), ("between", ["a", 1501, 1600])])
        for question, due in [
            (("year", 0), [(1501, 8), (1502, 4)]), (("year", 1), [(1500, 3), (1501, 3), (1502, 3), (1503, 3)]),
            (("year", 2), [(1502, 4), (1503, 8)]), (("order", 0, 2), [(-1, 12)]), (("order", 2, 0), [(1, 12)]),
            (("order", 0, 1), [(-1, 5), (0, 3), (1, 4)]), (("order", 1, 0), [(-1, 4), (0, 3), (1, 5)]),
            (("gap", 0, 2), [(-2, 4), (-1, 8)]), (("gap", 2, 0), [(1, 8), (2, 4)]),
            (("gap", 1, 2), [(-3, 2), (-2, 3), (-1, 3), (0, 3), (1, 1)]),
            (("gap", 2, 1), [(-1, 1), (0, 3), (1, 3), (2, 3), (3, 2)]),
            (("dark", 0, "iron"), [(4, 8), (9, 4)]), (("dark", 1, "iron"), [(4, 6), (9, 6)]), (("dark", 2, "iron"), [(9, 12)]),
        ]:
            self.assert_answers(heap, question, due)

    def test_small_heaps_against_going_through_all_years(self):
        chance = random.Random(28)
        seen = collections.Counter()
        for heap in [heap for heap in LISTED if heap.is_small()] + dark_heaps():
            for question in some_questions(chance, heap, 9):
                if refused_letter(heap, question) is None:
                    self.assert_answers(heap, question, answers_by_going_through(heap, question))
                    seen[question[0], len([part for part in heap.parts() if set(part) & set(asked_of(question))])] += 1
        self.assertEqual(set(seen), {("year", 1), ("dark", 1), ("order", 1), ("order", 2), ("gap", 1), ("gap", 2)})
        self.assertGreater(min(seen.values()), 100)

    def test_every_question_of_some_small_heaps(self):
        for heap in [heap for heap in LISTED if heap.is_small()][::20] + dark_heaps():
            for question in questions_of(heap):
                self.assert_answers(heap, question, answers_by_going_through(heap, question))

    def test_all_heaps(self):
        """The counts come to the number of datings, and are those of the heap with the answer as a saying more."""
        chance = random.Random(29)
        for heap in LISTED:
            for question in some_questions(chance, heap, 3):
                letter = refused_letter(heap, question)
                if letter is not None:
                    self.assert_too_many(heap, question, letter)
                else:
                    told = answers_to(heap.archive, heap.sayings, question)
                    self.assertEqual(sum(count for _, count in told), how_many(heap.archive, heap.sayings))
                    self.assertEqual(sorted(dict(told)), [answer for answer, _ in told])
                    for answer, count in chance.sample(told, min(3, len(told))):
                        more = Heap(heap.archive, heap.told + [saying_with(heap, question, answer)])
                        self.assertEqual(how_many(more.archive, more.sayings), count, (heap.told, question, answer))

    def test_either_way_about(self):
        for heap in LISTED[::3]:
            for one, other in itertools.combinations(heap.letters(), 2):
                for word in ["order", "gap"]:
                    there = answer_or_refusal(answers_to, heap.archive, heap.sayings, (word, one, other))
                    back = answer_or_refusal(answers_to, heap.archive, heap.sayings, (word, other, one))
                    if isinstance(there, list):
                        there = [(-answer, count) for answer, count in there[::-1]]
                    self.assertEqual(there, back)

    def test_darkness_at_each_age(self):
        table = [9, 8, 8, 3]
        heap = Heap(Archive(0, 9, ["a", "b"], [("b", table)], []), [])
        self.assert_answers(heap, ("dark", 0, "b"), [(3, 70), (8, 20), (9, 10)])
        for year in range(10):
            heap = Heap(heap.archive, [("between", ["a", year, year])])
            self.assert_answers(heap, ("dark", 0, "b"), [((table + [3] * 9)[9 - year], 10)])

    def test_counts_of_very_many_datings(self):
        heap = Heap(Archive(0, 300, list("abcdefgh"), [("iron", [9, 1])], []), [("between", ["a", 0, 1]), ("between", ["b", 0, 2])])
        rest = 301 ** 6
        self.assert_answers(heap, ("year", 0), [(0, 3 * rest), (1, 3 * rest)])
        self.assert_answers(heap, ("order", 0, 1), [(-1, 3 * rest), (0, 2 * rest), (1, rest)])
        self.assert_answers(heap, ("gap", 1, 0), [(-1, rest), (0, 2 * rest), (1, 2 * rest), (2, rest)])
        self.assert_answers(heap, ("dark", 2, "iron"), [(1, 6 * 300 * 301 ** 5), (9, 6 * 301 ** 5)])

    def test_two_parts_of_just_2000_and_of_more(self):
        for many, parts, one, other, letter in [
            ([40, 50], [[0], [1]], 0, 1, None), ([69, 29], [[0], [1]], 0, 1, 0), ([29, 69], [[0], [1]], 0, 1, 0),
            ([301, 6], [[0], [1]], 0, 1, None), ([6, 301], [[0], [1]], 0, 1, None), ([301, 7], [[0], [1]], 0, 1, 0),
            ([301, 301], [[0], [1]], 0, 1, 0), ([301, 40, 50], [[0], [1], [2]], 1, 2, None),
            ([301, 69, 29], [[0], [1], [2]], 1, 2, 1), ([50, 301, 40], [[0], [1], [2]], 0, 2, None),
            ([50, 301, 41], [[0], [1], [2]], 0, 2, 0), ([50, 301, 41], [[0], [1], [2]], 1, 2, 1),
            ([10, 8, 5, 5], [[0, 2], [1, 3]], 2, 3, None), ([10, 8, 5, 5], [[0, 2], [1, 3]], 2, 1, None),
            ([9, 29, 23, 1, 3, 1], [[0], [1, 5], [2, 3, 4]], 5, 3, 1), ([9, 10, 10, 2, 10, 1], [[0], [1, 5], [2, 3, 4]], 5, 3, None),
            ([2, 40, 50, 1, 1], [[0], [1, 2], [3], [4]], 2, 3, None), ([2, 40, 50, 2, 1], [[0], [1, 2], [3], [4]], 2, 3, 1),
            ([2, 40, 50, 2, 1], [[0], [1, 2], [3], [4]], 2, 0, 0), ([2, 40, 50, 2, 1], [[0], [1, 2], [3], [4]], 1, 4, None),
            ([40, 50, 2, 40, 50], [[0, 4], [1, 2], [3]], 4, 2, 0), ([1, 1, 40, 50, 69, 29], [[0, 1], [2, 3], [4, 5]], 3, 1, 4),
        ]:
            heap = many_years(many, parts)
            self.assertEqual(heap.parts(), parts)
            for word, pair in itertools.product(["order", "gap"], [(one, other), (other, one)]):
                self.assertEqual(refused_letter(heap, (word, *pair)), letter, (many, parts, pair))
                if letter is not None:
                    self.assert_too_many(heap, (word, *pair), letter)
                else:
                    self.assert_answers(heap, (word, *pair), self.answers_of_free_years(many, word, *pair))

    def answers_of_free_years(self, many, word, one, other):
        counts = collections.Counter()
        beside = 1
        for letter, years in enumerate(many):
            beside *= 1 if letter in (one, other) else years
        for pair in itertools.product(range(many[one]), range(many[other])):
            gap = pair[0] - pair[1]
            counts[gap if word == "gap" else (gap > 0) - (gap < 0)] += beside
        return sorted(counts.items())

    def test_a_question_of_one_part_whatever_the_others_have(self):
        heap = many_years([40, 50, 301, 301, 301], [[0, 1], [2], [3], [4]])
        for word, pair in itertools.product(["order", "gap"], [(0, 1), (1, 0)]):
            self.assert_answers(heap, (word, *pair), self.answers_of_free_years([40, 50, 301, 301, 301], word, *pair))
        self.assert_answers(heap, ("year", 2), [(year, 2000 * 301 ** 2) for year in range(301)])

    def test_a_part_of_too_many_that_is_not_asked_about(self):
        for many, parts, letter in [
            ([9, 9, 50, 41], [[0], [1], [2, 3]], 2), ([50, 9, 9, 41], [[0, 3], [1], [2]], 0),
            ([301, 301, 50, 41], [[0], [1], [2, 3]], 2), ([9, 50, 41, 50, 41], [[0], [1, 4], [2, 3]], 1),
            ([301, 301, 50, 41, 50, 41], [[0], [1], [2, 3], [4, 5]], 2),
        ]:
            heap = many_years(many, parts)
            for question in questions_of(heap):
                self.assert_too_many(heap, question, letter)
                refusal = self.assert_refused(TooMany, best_question, heap.archive, heap.sayings, [question])
                self.assertEqual(refusal.letter, letter)

    def test_crowded_heaps(self):
        chance = random.Random(30)
        for heap in CROWDED:
            for question in some_questions(chance, heap, 6):
                self.assert_too_many(heap, question, heap.too_many())

    def test_stuck_first(self):
        chance = random.Random(31)
        for heap in STUCK + [with_no_dating(heap) for heap in CROWDED]:
            for question in some_questions(chance, heap, 4):
                self.assert_refused(Stuck, answers_to, heap.archive, heap.sayings, question)
                self.assert_refused(Stuck, best_question, heap.archive, heap.sayings, [question])


class BestQuestionTest(HeapCase):
    def assert_best(self, heap, questions, due):
        told = best_question(heap.archive, heap.sayings, questions)
        self.assertEqual((type(told), type(told[0]), type(told[1])), (tuple, int, int))
        self.assertEqual(told, due, (heap.told, questions))

    def test_by_hand(self):
        archive = Archive(1500, 1503, ["a", "b", "c"], [("iron", [9, 9, 4])], [])
        heap = Heap(archive, [("after", ["c", "a"]), ("between", ["a", 1501, 1600])])
        for questions, due in [
            ([("year", 0)], (0, 8)), ([("year", 0), ("year", 1)], (1, 3)), ([("year", 1), ("year", 0)], (0, 3)),
            ([("order", 0, 2), ("dark", 2, "iron")], (0, 12)), ([("year", 0), ("gap", 1, 2), ("year", 1)], (1, 3)),
            ([("order", 0, 1), ("order", 1, 0), ("order", 0, 1)], (0, 5)), ([("dark", 1, "iron"), ("order", 1, 0)], (1, 5)),
            ([("year", 0)] * 4 + [("year", 2), ("gap", 0, 2)], (0, 8)),
            ([("year", 0), ("year", 1), ("year", 0), ("year", 1)], (1, 3)),
        ]:
            self.assert_best(heap, questions, due)

    def test_small_heaps_against_going_through_all_years(self):
        chance = random.Random(32)
        places = []
        for heap in [heap for heap in LISTED if heap.is_small()] + dark_heaps():
            questions = [chance.choice(questions_of(heap)) for _ in range(chance.randint(1, 7))]
            worsts = [max(count for _, count in answers_by_going_through(heap, question)) for question in questions]
            place = min(range(len(worsts)), key=lambda place: (worsts[place], place))
            self.assert_best(heap, questions, (place, worsts[place]))
            if worsts.count(min(worsts)) > 1 and len(set(worsts)) > 1:
                places.append(place)
        # Where several have the least worst, and others haven't, the first one of those isn't always the first of all.
        self.assertGreater(len(places), 30)
        self.assertGreater(len(set(places)), 3)

    def test_refused_as_the_first_that_is(self):
        heap = many_years([60, 60, 60, 2], [[0], [1], [2], [3]])
        good = [("year", 0), ("order", 0, 3), ("gap", 3, 2), ("year", 2)]
        for questions, letter in [
            ([("gap", 1, 2)], 1), ([("gap", 2, 1), ("order", 0, 2)], 1), ([("order", 2, 0), ("gap", 1, 2)], 0),
            (good + [("gap", 2, 1)], 1), (good + [("order", 2, 1), ("gap", 0, 1)] + good, 1),
            (good + [("order", 2, 0), ("gap", 2, 1)] + good, 0), ([("gap", 1, 0)] + good, 0),
        ]:
            refusal = self.assert_refused(TooMany, best_question, heap.archive, heap.sayings, questions)
            self.assertEqual(refusal.letter, letter)
        self.assert_best(heap, good, (0, 60 * 60 * 2))

    def test_all_heaps_by_their_answers(self):
        chance = random.Random(33)
        for heap in HEAPS[::3]:
            questions = [chance.choice(questions_of(heap)) for _ in range(4)]
            told = [answer_or_refusal(answers_to, heap.archive, heap.sayings, question) for question in questions]
            refusals = [some for some in told if isinstance(some, tuple)]
            best = answer_or_refusal(best_question, heap.archive, heap.sayings, questions)
            if refusals:
                self.assertEqual(best, refusals[0])
            else:
                worsts = [max(count for _, count in some) for some in told]
                self.assertEqual(best, (worsts.index(min(worsts)), min(worsts)))

    def test_the_questions_handed_in_stay(self):
        for heap in DATED[::9]:
            questions = questions_of(heap)[:6]
            handed = copy.deepcopy(questions)
            answer_or_refusal(best_question, heap.archive, heap.sayings, handed)
            self.assertEqual(handed, questions)


class OwnListsTest(HeapCase):
    def test_changes_of_what_was_told(self):
        chance = random.Random(34)
        for heap in [heap for heap in SOME_HEAPS if heap in LISTED]:
            for question in some_questions(chance, heap, 2):
                if refused_letter(heap, question) is None:
                    self.assert_own(answers_to, heap, question)

    def test_changes_of_a_list_of_questions(self):
        heap = Heap(Archive(0, 4, ["a", "b"], [], []), [("after", ["a", "b"])])
        questions = [("order", 0, 1)]
        self.assertEqual(best_question(heap.archive, heap.sayings, questions), (0, 10))
        questions.append(("gap", 0, 1))
        self.assertEqual(best_question(heap.archive, heap.sayings, questions), (1, 4))
        questions.pop(0)
        self.assertEqual(best_question(heap.archive, heap.sayings, questions), (0, 4))

    def test_a_list_of_sayings_that_grows_and_shrinks(self):
        for heap in HEAPS[::31]:
            for question in questions_of(heap)[::11]:
                self.assert_grows_and_shrinks(answers_to, heap, question)
            self.assert_grows_and_shrinks(best_question, heap, questions_of(heap)[::7])


if __name__ == "__main__":
    unittest.main()
