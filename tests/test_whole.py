"""The whole: desks walked by many rows, each answer held against going through all years; and points 2 to 4 over all of it."""

import collections
import copy
import importlib
import inspect
import pathlib
import random
import sys
import unittest

from inkyears.archivetexts import read_archive, show_archive
from inkyears.desk import Desk
from inkyears.falses import fewest_false
from inkyears.gaps import first_of, gap_of, gap_with
from inkyears.lists import dating_at, how_many, number_of, part_datings, parts_of
from inkyears.nets import holds, least_costs, settled
from inkyears.questions import answers_to, best_question
from inkyears.rings import fewest_ring, is_spare
from inkyears.sayings import saying_of
from inkyears.spans import chains_of, dating_with, earliest, latest, years_of
from inkyears.steps import steps_of

sys.path.insert(0, str(pathlib.Path(__file__).resolve().parent))

from heaps import HEAPS, Heap, HeapCase, answer_or_refusal, linked, some_saying, spoil  # noqa: E402
from models import ModelDesk, Refused, blanks  # noqa: E402

INKS = [("iron", [90, 70, 70, 40, 10]), ("a", [5, 5, 4]), ("gall", [3])]
LETTERS = [list("abcdefgh"), ["iron", "henry", "a", "year", "put", "ask", "list", "abcdefgh"]]
# A span and a number of letters; in the last ones there are more than 2000 lists of years.
SIZES = [(0, 1), (0, 8), (1, 2), (1, 8), (2, 3), (2, 6), (3, 5), (5, 4), (10, 3), (30, 2), (300, 1), (46, 2), (50, 2), (13, 3)]
OTHER_WORDS = ["zz", "", "0", "-1", "A", "mary", "iron", "list", "7"]
BAD_ROWS = [
    "", " ", "list ", "settle  ", "count 1", "put", "take", "take x", "years", "with", "first", "false 1", "at", "number", "ask", "ask ",
    "ask year", "ask what", "put ", "put after", "List",
]
INTERFACE = {
    "words": ["is_number(word)", "is_name(word)"],
    "inks": [
        "is_table(some)", "darkness_at(table, age)", "ages_of(table, dark, error, greatest)", "is_reign(begin, length)",
        "reign_year(begin, length, k)",
    ],
    "archives": ["Archive(first, present, letters, inks, reigns)", "Archive.table(self, name)"],
    "sayings": ["saying_of(archive, word, parts)", "Saying.about(self)", "Saying.bounds(self)", "Saying.shown(self)"],
    "steps": ["steps_of(archive, sayings)"],
    "nets": ["settled(archive, sayings)", "least_costs(archive, sayings)", "holds(archive, sayings, years)"],
    "spans": [
        "years_of(archive, sayings)", "earliest(archive, sayings)", "latest(archive, sayings)", "chains_of(archive, sayings, letter)",
        "dating_with(archive, sayings, letter, year)",
    ],
    "gaps": [
        "gap_of(archive, sayings, one, other)", "gap_with(archive, sayings, one, other, gap)", "first_of(archive, sayings, one, other)",
    ],
    "rings": ["fewest_ring(archive, sayings)", "is_spare(archive, sayings, number)"],
    "falses": ["fewest_false(archive, sayings)"],
    "lists": [
        "parts_of(archive, sayings)", "part_datings(archive, sayings, part)", "how_many(archive, sayings)",
        "dating_at(archive, sayings, number)", "number_of(archive, sayings, years)",
    ],
    "questions": ["answers_to(archive, sayings, question)", "best_question(archive, sayings, questions)"],
    "archivetexts": ["read_archive(text)", "show_archive(archive)"],
    "desk": ["Desk(text)", "Desk.say(self, row)"],
}


class InterfaceTest(unittest.TestCase):
    def test_names_and_arguments(self):
        for module, rows in INTERFACE.items():
            for row in rows:
                some = importlib.import_module("inkyears." + module)
                for name in row.split("(")[0].split("."):
                    some = getattr(some, name)
                self.assertEqual(row.split("(", 1)[1], str(inspect.signature(some))[1:], row)


def model_desk(chance, span, letters):
    first = chance.choice([-3000, -span, -3, 0, 1500, 3000 - span])
    names = chance.choice(LETTERS)[:letters]
    reigns = [("mary", first + chance.randint(0, span), chance.randint(1, min(100, span + 1))), ("a", first, 1), ("iron", first - 5, 3)]
    # Sayings are made with the first ink and the first reign, so that these are always there.
    return ModelDesk(first, first + span, names, INKS[:chance.randint(1, 3)], reigns[:chance.randint(1, 3)])


def some_put(chance, model):
    archive = model.archive
    word, parts = some_saying(chance, archive)
    if len(model.lists) > 2000 and chance.random() < 0.7:
        # Sayings that shut little, so that there are too many datings at times.
        word, parts = linked(*chance.sample(archive.letters, 2))
        parts[2] = chance.choice([-300, -60, -45, -30, -5])
    if chance.random() < 0.1:
        word, parts = "ink", [chance.choice(archive.letters), chance.choice(archive.inks)[0], chance.randint(0, 95), chance.choice([0, 1, 9])]
    if chance.random() < 0.2:
        parts = list(parts)
        names = [name for name, *_ in archive.inks + archive.reigns]
        parts[chance.randrange(len(parts))] = chance.choice([*OTHER_WORDS, *archive.letters, *names, 80, 400, -300, 5000])
    if chance.random() < 0.05:
        parts = parts + [3] if chance.random() < 0.5 else parts[:-1]
    return blanks(["put", word, *parts])


def some_name(chance, model):
    return chance.choice(OTHER_WORDS) if chance.random() < 0.08 else chance.choice(model.archive.letters)


def some_year(chance, model):
    return chance.choice([chance.randint(model.archive.first - 1, model.archive.present + 1), chance.choice(model.bare.years())])


def some_ask(chance, model):
    one, other = some_name(chance, model), some_name(chance, model)
    if one == other and chance.random() < 0.8:
        other = chance.choice([name for name in model.archive.letters if name != one] or [one])
    ink = chance.choice([name for name, _ in model.archive.inks] * 9 + OTHER_WORDS)
    dating = chance.choice(model.lists)
    try:
        # Years of a dating, where there is one, so that not all are none.
        dating = chance.choice(model.datings()) if chance.random() < 0.8 else dating
        many = len(model.datings())
    except Refused:
        many = 5
    return chance.choice([
        "list", "settle", "false", "count", f"years {one}", f"with {one} {some_year(chance, model)}", f"first {one} {other}",
        f"at {chance.randint(-1, many)}", f"at {chance.randrange(many)}", blanks(["number", *dating]),
        f"ask year {one}", f"ask order {one} {other}", f"ask gap {one} {other}", f"ask dark {one} {ink}", chance.choice(BAD_ROWS),
    ])


def some_row(chance, model):
    many = len(model.told)
    share = chance.random()
    if share < 0.3:
        return some_put(chance, model)
    if share < 0.32 + 0.02 * many:
        return f"take {chance.randint(0 if many else -1, many)}"
    return some_ask(chance, model)


class WalksTest(HeapCase):
    def walk(self, chance, model, rows, seen):
        desk = Desk(model.text())
        for _ in range(rows):
            row = some_row(chance, model)
            due = model.outcomes(row)
            told = answer_or_refusal(desk.say, row)
            self.assertIn(told, due, (model.text(), model.told, row))
            self.assertEqual([desk.say("list")], model.outcomes("list"))
            word = " ".join(row.split(" ")[:2 if row.startswith("ask") else 1])
            seen[word, told[0].__name__ if isinstance(told, tuple) else told.split(" ")[0].rstrip("-0123456789:")] += 1
        return desk

    def anew(self, chance, model, desk):
        fresh = Desk(model.text())
        for saying in [saying for saying in desk.say("list").split("; ") if saying]:
            self.assertEqual(fresh.say("put " + saying), "ok")
        self.assertEqual(fresh.say("list"), desk.say("list"))
        for row in [some_ask(chance, model) for _ in range(8)]:
            self.assertEqual(answer_or_refusal(fresh.say, row), answer_or_refusal(desk.say, row))

    def test_walks(self):
        chance = random.Random(50)
        seen = collections.Counter()
        for span, letters in SIZES:
            for _ in range(12):
                model = model_desk(chance, span, letters)
                self.anew(chance, model, self.walk(chance, model, 70, seen))
        for row, outcomes in {
            "put": ["ok", "BadSaying", "NoAge"], "take": ["ok", "NoRow"], "list": ["after", "ink", ""], "settle": ["dating", "ring"],
            "years": ["", "NoName", "Stuck"], "with": ["", "NoName", "Stuck", "NoYear"], "false": ["drop", "more"],
            "first": ["ahead", "behind", "same", "open", "NoRow", "NoName", "Stuck"], "count": ["", "Stuck", "TooMany"],
            "at": ["", "Stuck", "TooMany", "NoNumber"], "number": ["", "Stuck", "TooMany", "NoDating"],
            "ask year": ["", "NoName", "Stuck", "TooMany"], "ask order": ["", "NoRow", "NoName", "Stuck", "TooMany"],
            "ask gap": ["", "NoRow", "NoName", "Stuck", "TooMany"], "ask dark": ["", "NoName", "Stuck", "TooMany"],
        }.items():
            for outcome in outcomes:
                self.assertGreater(seen[row, outcome], 0, (row, outcome))

    def test_walks_of_full_desks(self):
        """Desks that are put sayings until there is no place left, of which some are taken out and put anew."""
        chance = random.Random(51)
        seen = collections.Counter()
        for span, letters in [(1, 8), (3, 5), (5, 4), (10, 3)]:
            model = model_desk(chance, span, letters)
            desk = Desk(model.text())
            for turn in range(12):
                for row in [some_put(chance, model) for _ in range(25 if turn == 0 else 3)] + ["settle", "false", "count"]:
                    told = answer_or_refusal(desk.say, row)
                    self.assertIn(told, model.outcomes(row), (model.text(), model.told, row))
                    seen[row.split(" ")[0], len(model.told), str(told)[:4]] += 1
                number = chance.randrange(len(model.told))
                self.assertEqual([desk.say(f"take {number}")], model.outcomes(f"take {number}"))
        self.assertGreater(sum(many for key, many in seen.items() if key[:2] == ("put", 16)), 20)


def whole_asks(heap):
    """Each function of a heap, with what it is asked beside it."""
    letter = len(heap.told) % len(heap.letters())
    other = (letter + 1) % len(heap.letters())
    asks = [
        (steps_of, []), (settled, []), (least_costs, []), (holds, [[heap.archive.first] * len(heap.letters())]), (years_of, []),
        (earliest, []), (latest, []), (chains_of, [letter]), (dating_with, [letter, heap.archive.present]), (fewest_ring, []),
        (fewest_false, []), (parts_of, []), (part_datings, [heap.parts()[0]]), (how_many, []), (dating_at, [0]),
        (number_of, [[heap.archive.first] * len(heap.letters())]), (answers_to, [("year", letter)]),
        (answers_to, [("dark", letter, "iron")]), (best_question, [[("year", letter), ("dark", letter, "iron")]]),
    ]
    if letter != other:
        asks += [
            (gap_of, [letter, other]), (gap_with, [letter, other, 0]), (first_of, [letter, other]), (answers_to, [("gap", letter, other)]),
            (best_question, [[("order", letter, other), ("year", other)]]),
        ]
    return asks + [(is_spare, [number]) for number in range(min(2, len(heap.told)))]


class PromisesTest(HeapCase):
    def test_nothing_hangs_on_what_was_asked_before(self):
        """Asked in any order, among changes of all that was told, each answer is that of a heap that is asked this alone."""
        chance = random.Random(52)
        for heap in HEAPS[::9]:
            alone = [answer_or_refusal(ask, heap.archive, heap.sayings, *copy.deepcopy(more)) for ask, more in whole_asks(heap)]
            alone = copy.deepcopy(alone)
            before = copy.deepcopy(vars(heap.archive)), [saying.shown() for saying in heap.sayings]
            asks = list(enumerate(whole_asks(heap))) * 2
            chance.shuffle(asks)
            for place, (ask, more) in asks:
                handed = copy.deepcopy(more)
                told = answer_or_refusal(ask, heap.archive, heap.sayings, *handed)
                self.assertEqual(told, alone[place])
                self.assertEqual(handed, more)
                spoil(told)
                self.assertEqual((vars(heap.archive), [saying.shown() for saying in heap.sayings]), before)

    def test_what_was_told_stays_behind_changes_of_what_was_handed_in(self):
        for heap in HEAPS[::17]:
            sayings = list(heap.sayings)
            told = []
            for ask, more in whole_asks(heap):
                handed = copy.deepcopy(more)
                told.append(answer_or_refusal(ask, heap.archive, sayings, *handed))
                spoil(handed)
            kept = copy.deepcopy(told)
            spoil(sayings)
            self.assertEqual(told, kept)

    def test_sayings_stay_behind_changes_of_what_they_were_made_of(self):
        for heap in HEAPS[::17]:
            for word, parts in heap.told:
                handed = list(parts)
                saying = saying_of(heap.archive, word, handed)
                before = copy.deepcopy((saying.about(), saying.bounds(), saying.shown()))
                spoil(handed)
                saying.about().append(9)
                self.assertEqual((saying.about(), saying.bounds(), saying.shown()), before)

    def test_a_heap_told_by_the_text_of_its_archive(self):
        """Read from the text it is shown as, an archive tells all that the one tells that was made."""
        for heap in HEAPS[::29]:
            again = Heap(read_archive(show_archive(heap.archive)), heap.told)
            for ask, more in whole_asks(heap):
                told = answer_or_refusal(ask, heap.archive, heap.sayings, *more)
                self.assertEqual(answer_or_refusal(ask, again.archive, again.sayings, *more), told)


if __name__ == "__main__":
    unittest.main()
