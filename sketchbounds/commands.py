"""Commands: the lines of a text of rows and questions."""

from sketchbounds.wordreader import bounds_of, need, numbers_of

ROWS = {"put": ("thing", "weight"), "take": ("thing", "weight"), "idle": ("many",), "cut": ()}
QUESTIONS = {
    "net": ("thing",),
    "ranked": ("thing",),
    "often": ("share", "share"),
    "by": ("any",),
    "last": ("any",),
    "distinct": (),
    "off": (),
}
LEAST = {"thing": 0, "weight": 1, "many": 1, "share": 1}
GREATEST = {"thing": 1152921504606846975, "weight": 1000000000000, "many": 1000000000000, "share": 1000000}


class Command:
    def __init__(self, line, word, numbers, pieces):
        self.line = line
        self.word = word
        self.numbers = numbers
        # Of a question: the numbers behind of, None where it is about all rows.
        self.pieces = pieces


def is_question(command):
    return command.word in QUESTIONS


def read_commands(text):
    commands = []
    for line, row in enumerate(text.split("\n"), start=1):
        # Split at blanks alone, so that any other sign stays within a word and is refused with it.
        words = [word for word in row.split(" ") if word != ""]
        if words != []:
            commands.append(read_command(words, line, len(commands) == 0))
    need(len(commands) > 0, 1)
    return commands


def read_command(words, line, is_first):
    if is_first:
        need(words[0] == "keep", line)
        return Command(line, "keep", bounds_of(words[1:], line), None)
    if words[0] == "ask":
        return read_question(words[1:], line)
    need(words[0] in ROWS, line)
    return Command(line, words[0], read_numbers(words[1:], ROWS[words[0]], line), None)


def read_question(words, line):
    need(len(words) > 0 and words[0] in QUESTIONS, line)
    kinds = QUESTIONS[words[0]]
    end = len(kinds) + 1
    numbers = read_numbers(words[1:end], kinds, line)
    need(words[0] != "often" or numbers[0] <= numbers[1], line)
    return Command(line, words[0], numbers, read_pieces(words[end:], line))


def read_numbers(words, kinds, line):
    need(len(words) == len(kinds), line)
    numbers = numbers_of(words, line)
    need(all([in_bounds(number, kind) for number, kind in zip(numbers, kinds)]), line)
    return numbers


def in_bounds(number, kind):
    return kind == "any" or LEAST[kind] <= number <= GREATEST[kind]


def read_pieces(words, line):
    if words == []:
        return None
    need(len(words) == 3 and words[0] == "of", line)
    return numbers_of(words[1:], line)
