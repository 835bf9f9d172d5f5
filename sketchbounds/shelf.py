"""Shelf: the keepsakes of a stream's pieces, and keepsakes of any pieces side by side."""

from sketchbounds.errors import OutOfReach
from sketchbounds.keepsake import Keepsake, poured


class Shelf:
    def __init__(self, room, reach, span):
        self.room = room
        self.reach = reach
        self.span = span
        self.many = 0
        # A list for each level, of the keepsakes of its whole blocks in their order.
        self.blocks = []

    def bare(self):
        return Keepsake(self.room, self.reach, self.span)

    def lay(self, keepsake):
        # Poured behind a bare one: this tells the same keepsake anew, and refuses an unlike one.
        self.stack(poured(self.bare(), keepsake))
        self.many = self.many + 1

    def stack(self, piece):
        block = piece
        level = 0
        while block is not None:
            if level == len(self.blocks):
                self.blocks.append([])
            row = self.blocks[level]
            row.append(block)
            # Each second block is the second half of one of the next level.
            block = poured(row[-2], row[-1]) if len(row) % 2 == 0 else None
            level = level + 1

    def between(self, first, last):
        if first < 0 or first >= last or last > self.many:
            raise OutOfReach("there are no such pieces on the shelf")
        told = self.bare()
        for level, at in cover(first, last):
            told = poured(told, self.blocks[level][at >> level])
        return told


def cover(first, last):
    blocks = []
    at = first
    while at < last:
        level = 0
        size = 1
        while at % (size * 2) == 0 and at + size * 2 <= last:
            level = level + 1
            size = size * 2
        blocks.append((level, at))
        at = at + size
    return blocks
