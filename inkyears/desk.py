"""A desk over an archive: it keeps sayings, is told rows of words, and answers each with a text."""

from inkyears.archivetexts import read_archive
from inkyears.errors import NoName, NoRow
from inkyears.falses import fewest_false
from inkyears.gaps import first_of
from inkyears.lists import dating_at, how_many, number_of
from inkyears.nets import settled
from inkyears.questions import answers_to
from inkyears.rings import fewest_ring
from inkyears.sayings import saying_of
from inkyears.spans import dating_with, years_of
from inkyears.words import is_number, spaced

MOST_SAYINGS = 16
FORMS = {
    "take": ("number",),
    "list": (),
    "settle": (),
    "years": ("letter",),
    "with": ("letter", "number"),
    "first": ("letter", "other"),
    "false": (),
    "count": (),
    "at": ("number",),
    "ask year": ("letter",),
    "ask order": ("letter", "other"),
    "ask gap": ("letter", "other"),
    "ask dark": ("letter", "ink"),
}


def form_of(archive, head):
    if head == "number":
        return ("number",) * len(archive.letters)
    if head not in FORMS:
        raise NoRow()
    return FORMS[head]


def is_of_form(form, words):
    if len(words) != len(form):
        return False
    if not all([is_number(word) for due, word in zip(form, words) if due == "number"]):
        return False
    # An ink may be called like the letter, another letter may not.
    return "other" not in form or words[0] != words[1]


def value_of(archive, due, word):
    if due == "number":
        return int(word)
    if due == "ink" and archive.table(word) is not None:
        return word
    if due != "ink" and word in archive.letters:
        return archive.letters.index(word)
    raise NoName(word)


def values_of(archive, head, words):
    form = form_of(archive, head)
    if not is_of_form(form, words):
        raise NoRow()
    return [value_of(archive, due, word) for due, word in zip(form, words)]


def list_answer(archive, sayings, values):
    return "; ".join([saying.shown() for saying in sayings])


def settle_answer(archive, sayings, values):
    told = settled(archive, sayings)
    if told[0] == "dating":
        return spaced(["dating"] + told[1])
    datings = fewest_ring(archive, sayings)[2]
    return spaced(["ring"] + [number for number, years in datings])


def years_answer(archive, sayings, values):
    return spaced(years_of(archive, sayings)[values[0]])


def with_answer(archive, sayings, values):
    return spaced(dating_with(archive, sayings, values[0], values[1]))


def first_answer(archive, sayings, values):
    return first_of(archive, sayings, values[0], values[1])[0]


def false_answer(archive, sayings, values):
    told = fewest_false(archive, sayings)
    if told[0] == "more":
        return "more"
    return spaced(["drop"] + list(told[1]))


def count_answer(archive, sayings, values):
    return str(how_many(archive, sayings))


def at_answer(archive, sayings, values):
    return spaced(dating_at(archive, sayings, values[0]))


def number_answer(archive, sayings, values):
    return str(number_of(archive, sayings, values))


def ask_answer(archive, sayings, values):
    return " ".join([f"{answer}:{count}" for answer, count in answers_to(archive, sayings, tuple(values))])


ANSWERS = {
    "list": list_answer,
    "settle": settle_answer,
    "years": years_answer,
    "with": with_answer,
    "first": first_answer,
    "false": false_answer,
    "count": count_answer,
    "at": at_answer,
    "number": number_answer,
    "ask": ask_answer,
}


class Desk:
    def __init__(self, text):
        self.archive = read_archive(text)
        self.sayings = []

    def put(self, words):
        if len(words) == 0 or len(self.sayings) == MOST_SAYINGS:
            raise NoRow()
        parts = [int(word) if is_number(word) else word for word in words[1:]]
        self.sayings.append(saying_of(self.archive, words[0], parts))
        return "ok"

    def take(self, number):
        if not 0 <= number < len(self.sayings):
            raise NoRow()
        self.sayings.pop(number)
        return "ok"

    def say(self, row):
        words = row.split(" ")
        if words[0] == "put":
            return self.put(words[1:])
        # What is asked stands in two words, all other rows are known by their first one.
        many = 2 if words[0] == "ask" else 1
        values = values_of(self.archive, " ".join(words[0:many]), words[many:])
        if words[0] == "take":
            return self.take(values[0])
        return ANSWERS[words[0]](self.archive, self.sayings, words[1:many] + values)
