"""Marks: how a thing is spread, and how often its spread can be halved."""

MOST = 1152921504606846976
MOST_HALVINGS = 60
SPREAD = 770093176312745717
# SPREAD is odd, so one number below MOST undoes it: SPREAD * UNSPREAD leaves 1 when divided by MOST.
UNSPREAD = 556681644477181277


def spread(thing):
    return thing * SPREAD % MOST


def unspread(number):
    return number * UNSPREAD % MOST


def mark(thing):
    rest = spread(thing)
    # 0 can be halved without end, so its mark is set apart.
    if rest == 0:
        return MOST_HALVINGS
    halvings = 0
    while rest % 2 == 0:
        rest = rest // 2
        halvings = halvings + 1
    return halvings
