"""Notereader: a keepsake read from the text of eight lines that tells it."""

from sketchbounds.keepsake import Keepsake
from sketchbounds.sound import sound_distinct, sound_frequent, sound_rungs, sound_window
from sketchbounds.wordreader import bounds_of, need, number_of, numbers_of

LINES = 8


def read_keepsake(text):
    lines = text.split("\n")
    keepsake = read_keep(words_of(lines, 1, "keep"), 1)
    read_frequent(keepsake.came, words_of(lines, 2, "came"), 2)
    read_frequent(keepsake.went, words_of(lines, 3, "went"), 3)
    read_rungs(keepsake.up, words_of(lines, 4, "up"), 4)
    read_rungs(keepsake.down, words_of(lines, 5, "down"), 5)
    read_window(keepsake.window, words_of(lines, 6, "window"), 6)
    read_distinct(keepsake.seen, words_of(lines, 7, "seen"), 7)
    read_sums(keepsake.balance, words_of(lines, 8, "sums"), 8)
    need(len(lines) == LINES, LINES + 1)
    return keepsake


def words_of(lines, line, name):
    need(line <= len(lines), line)
    words = lines[line - 1].split(" ")
    need(words[0] == name, line)
    return words[1:]


def signed_of(word, line):
    if not word.startswith("-"):
        return number_of(word, line)
    number = number_of(word[1:], line)
    need(number != 0, line)
    return -number


def read_keep(words, line):
    numbers = bounds_of(words, line)
    return Keepsake(numbers[0], numbers[1], numbers[2])


def read_frequent(frequent, words, line):
    numbers = numbers_of(words, line)
    need(len(numbers) >= 2 and len(numbers) % 2 == 0, line)
    frequent.total = numbers[0]
    frequent.lost = numbers[1]
    things = numbers[2::2]
    frequent.counts = dict(zip(things, numbers[3::2]))
    need(sound_frequent(frequent, things), line)


def read_rungs(rungs, words, line):
    groups = parted(words)
    numbers = numbers_of(groups[0], line)
    need(len(numbers) >= 4, line)
    rungs.total = numbers[0]
    rungs.over = numbers[1]
    rungs.under = numbers[2]
    rungs.turns = numbers[3]
    need(len(numbers) == (4 if rungs.total == 0 else 6), line)
    if rungs.total != 0:
        rungs.least = numbers[4]
        rungs.most = numbers[5]
    rungs.rungs = [numbers_of(group, line) for group in groups[1:]]
    need(sound_rungs(rungs), line)


def parted(words):
    groups = [[]]
    for word in words:
        if word == "/":
            groups.append([])
        else:
            groups[-1].append(word)
    return groups


def read_window(window, words, line):
    numbers = numbers_of(words, line)
    need(len(numbers) % 3 == 1, line)
    window.clock = numbers[0]
    window.boxes = list(zip(numbers[1::3], numbers[2::3], numbers[3::3]))
    need(sound_window(window), line)


def read_distinct(distinct, words, line):
    numbers = numbers_of(words, line)
    need(len(numbers) >= 2, line)
    distinct.arrivals = numbers[0]
    distinct.level = numbers[1]
    distinct.kept = numbers[2:]
    need(sound_distinct(distinct), line)


def read_sums(balance, words, line):
    need(len(words) == 4, line)
    balance.sums = [signed_of(word, line) for word in words]
