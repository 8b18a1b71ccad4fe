"""Questions about letters: all their answers, each with how many datings give it, and which question is best."""

from inkyears.errors import TooMany
from inkyears.inks import darkness_at
from inkyears.lists import MOST_DATINGS, has_some_of, lists_of, many_together, parts_of


def letters_asked(question):
    # The third word of a question of one letter, if it has one, is an ink's name.
    return [question[1]] if question[0] in ("year", "dark") else [question[1], question[2]]


def order_of(gap):
    if gap < 0:
        return -1
    return 1 if gap > 0 else 0


def answer_by(archive, question, years):
    if question[0] == "year":
        return years[0]
    if question[0] == "dark":
        return darkness_at(archive.table(question[2]), archive.present - years[0])
    gap = years[0] - years[1]
    return gap if question[0] == "gap" else order_of(gap)


def years_together(lists):
    together = [()]
    for datings in lists:
        longer = []
        for years in together:
            longer.extend([years + more for more in datings])
        together = longer
    return together


def letters_together(parts):
    letters = []
    for part in parts:
        letters.extend(part)
    return letters


def answers_to(archive, sayings, question):
    lists = lists_of(archive, sayings)
    parts = parts_of(archive, sayings)
    letters = letters_asked(question)
    asked = [place for place, part in enumerate(parts) if has_some_of(part, letters)]
    asked_lists = [lists[place] for place in asked]
    if many_together(asked_lists) > MOST_DATINGS:
        raise TooMany(parts[asked[0]][0])
    # What isn't asked about goes with each of these years in as many datings.
    beside = many_together([datings for place, datings in enumerate(lists) if place not in asked])
    order = letters_together([parts[place] for place in asked])
    places = [order.index(letter) for letter in letters]
    counts = {}
    for years in years_together(asked_lists):
        answer = answer_by(archive, question, [years[place] for place in places])
        counts[answer] = counts.get(answer, 0) + beside
    return sorted(counts.items())


def worst_of(archive, sayings, question):
    return max([count for answer, count in answers_to(archive, sayings, question)])


def best_question(archive, sayings, questions):
    worsts = [worst_of(archive, sayings, question) for question in questions]
    return (worsts.index(min(worsts)), min(worsts))
