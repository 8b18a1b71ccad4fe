"""What is said of letters: eight words, the parts that each of them asks for, and the bounds that it sets."""

from inkyears.errors import BadSaying, NoAge
from inkyears.inks import ages_of, reign_year
from inkyears.words import is_whole_from, spaced

PARTS = {
    "ink": ("letter", "ink", "dark", "dark"),
    "reign": ("letter", "reign", "place"),
    "under": ("letter", "reign"),
    "between": ("letter", "year", "year"),
    "after": ("letter", "letter"),
    "same": ("letter", "letter"),
    "within": ("letter", "letter", "later"),
    "apart": ("letter", "letter", "gap", "gap"),
}
NUMBERS = {
    "dark": (0, 1000000),
    "place": (1, 100),
    "year": (-4000, 4000),
    "later": (0, 300),
    "gap": (-300, 300),
}


class Saying:
    def __init__(self, archive, word, parts, low, high):
        names = [part for part, due in zip(parts, PARTS[word]) if due == "letter"]
        self.spoken = [archive.letters.index(name) for name in names]
        self.low = low
        self.high = high
        self.text = spaced([word] + list(parts))

    def about(self):
        return list(self.spoken)

    def bounds(self):
        return (self.low, self.high)

    def shown(self):
        return self.text


class Ink(Saying):
    pass


class Reign(Saying):
    pass


class Under(Saying):
    pass


class Between(Saying):
    pass


class After(Saying):
    pass


class Same(Saying):
    pass


class Within(Saying):
    pass


class Apart(Saying):
    pass


def reign_called(archive, name):
    for reign in archive.reigns:
        if reign[0] == name:
            return reign
    return None


def is_due(archive, due, part):
    if due == "letter":
        return part in archive.letters
    if due == "ink":
        return part in [ink[0] for ink in archive.inks]
    if due == "reign":
        return part in [reign[0] for reign in archive.reigns]
    return is_whole_from(part, NUMBERS[due][0], NUMBERS[due][1])


def are_due(archive, word, parts):
    if word not in PARTS or len(parts) != len(PARTS[word]):
        return False
    return all([is_due(archive, due, part) for due, part in zip(PARTS[word], parts)])


def ink_saying(archive, parts):
    ages = ages_of(archive.table(parts[1]), parts[2], parts[3], archive.present - archive.first)
    if ages is None:
        raise NoAge()
    # The older a letter, the earlier its year: the greatest age bounds the year from below.
    return Ink(archive, "ink", parts, archive.present - ages[1], archive.present - ages[0])


def reign_saying(archive, parts):
    reign = reign_called(archive, parts[1])
    year = reign_year(reign[1], reign[2], parts[2])
    if year is None:
        raise BadSaying()
    return Reign(archive, "reign", parts, year, year)


def under_saying(archive, parts):
    reign = reign_called(archive, parts[1])
    return Under(archive, "under", parts, reign[1], reign_year(reign[1], reign[2], reign[2]))


def between_saying(archive, parts):
    if parts[1] > parts[2]:
        raise BadSaying()
    return Between(archive, "between", parts, parts[1], parts[2])


def after_saying(archive, parts):
    return After(archive, "after", parts, 1, None)


def same_saying(archive, parts):
    return Same(archive, "same", parts, 0, 0)


def within_saying(archive, parts):
    return Within(archive, "within", parts, 0, parts[2])


def apart_saying(archive, parts):
    if parts[2] > parts[3]:
        raise BadSaying()
    return Apart(archive, "apart", parts, parts[2], parts[3])


MAKERS = {
    "ink": ink_saying,
    "reign": reign_saying,
    "under": under_saying,
    "between": between_saying,
    "after": after_saying,
    "same": same_saying,
    "within": within_saying,
    "apart": apart_saying,
}


def saying_of(archive, word, parts):
    if not are_due(archive, word, parts):
        raise BadSaying()
    # An ink and a reign may be called like a letter, so that only two letters have to be unlike.
    if PARTS[word][1] == "letter" and parts[0] == parts[1]:
        raise BadSaying()
    return MAKERS[word](archive, parts)
