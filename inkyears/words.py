"""What a whole number is, which words write a number or a name, and how words are shown in a row."""

FIGURES = "0123456789"
MOST_FIGURES = 10
LETTERS = "abcdefghijklmnopqrstuvwxyz"
MOST_LETTERS = 8


def is_whole(some):
    # Python counts True and False among the ints; here they are no numbers.
    return isinstance(some, int) and not isinstance(some, bool)


def is_whole_from(some, low, high):
    return is_whole(some) and low <= some <= high


def is_made_of(word, signs, most):
    return 1 <= len(word) <= most and all([sign in signs for sign in word])


def is_number(word):
    figures = word[1:] if word.startswith("-") else word
    if not is_made_of(figures, FIGURES, MOST_FIGURES):
        return False
    # A nought ahead is right in 0 alone, so neither in 00 nor in -0.
    return word == "0" or figures[0] != "0"


def is_name(word):
    return is_made_of(word, LETTERS, MOST_LETTERS)


def spaced(parts):
    return " ".join([str(part) for part in parts])
