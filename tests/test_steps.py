"""Points 2, 12 and 13: the steps of a heap and their order."""

import itertools
import unittest

from inkyears.archives import Archive
from inkyears.sayings import saying_of
from inkyears.steps import steps_of

ARCHIVE = Archive(1500, 1520, ["a", "b", "c"], [("iron", [90, 70, 70, 40, 10])], [("mary", 1505, 7)])
SPAN = [
    (None, 0, 1520, None), (0, None, -1500, None),
    (None, 1, 1520, None), (1, None, -1500, None),
    (None, 2, 1520, None), (2, None, -1500, None),
]
# Of each word a saying, with its steps without its number.
WORDS = [
    ("ink", ["a", "iron", 70, 0], [(None, 0, 1519), (0, None, -1518)]),
    ("reign", ["b", "mary", 3], [(None, 1, 1507), (1, None, -1507)]),
    ("under", ["c", "mary"], [(None, 2, 1511), (2, None, -1505)]),
    ("between", ["a", -7, 1510], [(None, 0, 1510), (0, None, 7)]),
    ("between", ["a", 0, 0], [(None, 0, 0), (0, None, 0)]),
    ("after", ["a", "b"], [(0, 1, -1)]),
    ("after", ["c", "a"], [(2, 0, -1)]),
    ("same", ["a", "c"], [(2, 0, 0), (0, 2, 0)]),
    ("within", ["b", "a", 4], [(0, 1, 4), (1, 0, 0)]),
    ("apart", ["c", "b", -3, 8], [(1, 2, 8), (2, 1, 3)]),
    ("apart", ["a", "b", 2, 2], [(1, 0, 2), (0, 1, -2)]),
]


def said(word, parts):
    return saying_of(ARCHIVE, word, parts)


def numbered(steps, number):
    return [step + (number,) for step in steps]


class StepsTest(unittest.TestCase):
    def test_no_sayings(self):
        self.assertEqual(steps_of(ARCHIVE, []), SPAN)

    def test_each_word_the_high_one_first(self):
        for word, parts, steps in WORDS:
            with self.subTest(word=word, parts=parts):
                self.assertEqual(steps_of(ARCHIVE, [said(word, parts)]), numbered(steps, 0) + SPAN)

    def test_all_words_in_order(self):
        sayings = [said(word, parts) for word, parts, steps in WORDS]
        due = [step for number, told in enumerate(WORDS) for step in numbered(told[2], number)]
        self.assertEqual(steps_of(ARCHIVE, sayings), due + SPAN)

    def test_the_sayings_turned_about(self):
        turned = WORDS[::-1]
        sayings = [said(word, parts) for word, parts, steps in turned]
        due = [step for number, told in enumerate(turned) for step in numbered(told[2], number)]
        self.assertEqual(steps_of(ARCHIVE, sayings), due + SPAN)

    def test_each_two_in_both_orders(self):
        for one, other in itertools.product(WORDS, repeat=2):
            sayings = [said(one[0], one[1]), said(other[0], other[1])]
            self.assertEqual(steps_of(ARCHIVE, sayings), numbered(one[2], 0) + numbered(other[2], 1) + SPAN)

    def test_the_same_saying_twice(self):
        for word, parts, steps in WORDS:
            saying = said(word, parts)
            for sayings in [[saying, saying], [saying, said(word, parts)]]:
                self.assertEqual(steps_of(ARCHIVE, sayings), numbered(steps, 0) + numbered(steps, 1) + SPAN)

    def test_span_letter_by_letter(self):
        for many in range(1, 9):
            archive = Archive(-20, -5, list("abcdefgh")[:many], [], [])
            due = [step for letter in range(many) for step in [(None, letter, -5, None), (letter, None, 20, None)]]
            self.assertEqual(steps_of(archive, []), due)

    def test_a_span_of_one_year(self):
        self.assertEqual(steps_of(Archive(0, 0, ["a"], [], []), []), [(None, 0, 0, None), (0, None, 0, None)])

    def test_more_than_sixteen_sayings(self):
        sayings = [said("after", ["a", "b"])] * 18
        self.assertEqual(steps_of(ARCHIVE, sayings), [(0, 1, -1, number) for number in range(18)] + SPAN)


class OwnListsTest(unittest.TestCase):
    def test_kinds(self):
        steps = steps_of(ARCHIVE, [said(word, parts) for word, parts, steps in WORDS])
        self.assertIs(type(steps), list)
        self.assertEqual({type(step) for step in steps}, {tuple})

    def test_the_sayings_stay(self):
        sayings = [said(word, parts) for word, parts, steps in WORDS]
        before = list(sayings)
        steps_of(ARCHIVE, sayings)
        self.assertEqual(sayings, before)

    def test_changes_of_what_was_told(self):
        sayings = [said("after", ["a", "b"])]
        told = steps_of(ARCHIVE, sayings)
        told.reverse()
        told.pop()
        self.assertEqual(steps_of(ARCHIVE, sayings), [(0, 1, -1, 0)] + SPAN)

    def test_a_list_that_grows_and_shrinks(self):
        sayings = []
        for many in [0, 1, 2, 3, 2, 1, 0, 4]:
            while len(sayings) > many:
                sayings.pop()
            while len(sayings) < many:
                sayings.append(said("after", ["a", "b"]))
            self.assertEqual(steps_of(ARCHIVE, sayings), [(0, 1, -1, number) for number in range(many)] + SPAN)

    def test_a_list_told_stays_as_the_sayings_change(self):
        sayings = [said("after", ["a", "b"])]
        told = steps_of(ARCHIVE, sayings)
        sayings.clear()
        self.assertEqual(told, [(0, 1, -1, 0)] + SPAN)


if __name__ == "__main__":
    unittest.main()
