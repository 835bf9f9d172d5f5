"""Answers: what the questions of a text are told, by keepsakes and by a plain count."""

from sketchbounds.commands import is_question, read_commands
from sketchbounds.errors import OutOfReach, TooFine, TooManyOff
from sketchbounds.keepsake import Keepsake, empty_like, poured
from sketchbounds.plain import Plain
from sketchbounds.shelf import Shelf


class KeptPieces:
    def __init__(self, room, reach, span):
        self.shelf = Shelf(room, reach, span)
        self.piece = Keepsake(room, reach, span)

    def so_far(self):
        return self.shelf.many + 1

    def hold(self, command):
        go_on(self.piece, command)

    def end_piece(self):
        self.shelf.lay(self.piece)
        self.piece = empty_like(self.piece)

    def keepsake_of(self, first, last):
        ended = self.shelf.many
        if last <= ended:
            return self.shelf.between(first, last)
        if first == ended:
            return self.piece
        return poured(self.shelf.between(first, ended), self.piece)

    def tell(self, command, first, last):
        keepsake = self.keepsake_of(first, last)
        if command.word == "last":
            return keepsake.last(command.numbers[0])
        if command.word == "often":
            return keepsake.often(command.numbers[0], command.numbers[1])
        if command.word == "off":
            return keepsake.off()
        return told_alike(keepsake, command)


class PlainPieces:
    def __init__(self, room, reach, span):
        self.room = room
        self.reach = reach
        self.span = span
        self.held = [[]]

    def so_far(self):
        return len(self.held)

    def hold(self, command):
        self.held[-1].append(command)

    def end_piece(self):
        self.held.append([])

    def plain_of(self, first, last):
        plain = Plain()
        for commands in self.held[first:last]:
            for command in commands:
                go_on(plain, command)
        return plain

    def tell(self, command, first, last):
        plain = self.plain_of(first, last)
        if command.word == "last":
            return self.told_last(plain, command.numbers[0])
        if command.word == "often":
            return self.told_often(plain, command.numbers[0], command.numbers[1])
        if command.word == "off":
            return plain.off(self.span)
        return told_alike(plain, command)

    def told_last(self, plain, many):
        if many < 1 or many > self.reach:
            raise OutOfReach("the window would not reach that far")
        return plain.last(many)

    def told_often(self, plain, part, whole):
        if part * (self.room + 1) < whole:
            raise TooFine("the share would be too fine for the room")
        return plain.often(part, whole)


def go_on(kept, command):
    if command.word == "put":
        kept.put(command.numbers[0], command.numbers[1])
    elif command.word == "take":
        kept.take(command.numbers[0], command.numbers[1])
    else:
        kept.idle(command.numbers[0])


def told_alike(kept, command):
    if command.word == "net":
        return kept.net(command.numbers[0])
    if command.word == "ranked":
        return kept.ranked(command.numbers[0])
    if command.word == "by":
        return kept.by_rank(command.numbers[0])
    return kept.distinct()


def answers(text):
    commands = read_commands(text)
    keep = commands[0].numbers
    return told_by(KeptPieces(keep[0], keep[1], keep[2]), commands[1:])


def plainly(text):
    commands = read_commands(text)
    keep = commands[0].numbers
    return told_by(PlainPieces(keep[0], keep[1], keep[2]), commands[1:])


def told_by(pieces, commands):
    told = []
    for command in commands:
        if is_question(command):
            told.append((command.line, command.word, told_or_refused(pieces, command)))
        elif command.word == "cut":
            pieces.end_piece()
        else:
            pieces.hold(command)
    return told


def told_or_refused(pieces, command):
    try:
        run = run_of(command, pieces.so_far())
        return pieces.tell(command, run[0], run[1])
    except OutOfReach:
        return "OutOfReach"
    except TooFine:
        return "TooFine"
    except TooManyOff:
        return "TooManyOff"


def run_of(command, so_far):
    if command.pieces is None:
        return (0, so_far)
    first = command.pieces[0]
    last = command.pieces[1]
    if first >= last or last > so_far:
        raise OutOfReach("there are no such pieces so far")
    return (first, last)
