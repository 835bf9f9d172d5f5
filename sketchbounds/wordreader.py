"""Wordreader: numbers read from the words of a line, and the refusal of a line that is at fault."""

from sketchbounds.errors import BadText
from sketchbounds.sound import sound_bounds

FIGURES = "0123456789"
MOST_FIGURES = 60


def need(holds, line):
    if not holds:
        raise BadText(line)


def numbers_of(words, line):
    return [number_of(word, line) for word in words]


def number_of(word, line):
    # Not isdigit: that holds of many other signs, too.
    need(1 <= len(word) <= MOST_FIGURES and all([sign in FIGURES for sign in word]), line)
    need(word == "0" or word[0] != "0", line)
    return int(word)


def bounds_of(words, line):
    numbers = numbers_of(words, line)
    need(len(numbers) == 3 and sound_bounds(numbers[0], numbers[1], numbers[2]), line)
    return numbers
