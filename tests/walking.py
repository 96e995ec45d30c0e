"""What several tests need: small texts, changes and moves, and a plan walked sign by sign, as plainly as can be."""

from itertools import product

from remadehere.changes import Change

ALL_SIGNS = "".join([chr(code) for code in range(33, 127) if code != 37])
BIG = 10 ** 59


def texts_of(size, signs="ab~"):
    return ["".join(text) for text in product(signs, repeat=size)]


def some_texts(size):
    """A few old texts of this size: all signs alike, and signs that part neighbours and far places."""
    turning = "".join([ALL_SIGNS[k % 93] for k in range(size)])
    slow = "".join([ALL_SIGNS[(k // 5) % 93] for k in range(size)])
    return ["a" * size, turning, turning[::-1], slow]


def cells_change(size, cells):
    """The change with these cells, a row for each."""
    return Change(size, [("put", cell) if isinstance(cell, str) else ("copy", cell, 1) for cell in cells])


def cells_of(size, many, signs="x"):
    """Every list of so many cells that a change of this size can have."""
    return list(product(list(range(size)) + list(signs), repeat=many))


def blocks_change(sizes, order):
    """The old text is cut into blocks of these sizes, which the new one has in this order, a copy each."""
    starts = [sum(sizes[:block]) for block in range(len(sizes))]
    return Change(sum(sizes), [("copy", starts[block], sizes[block]) for block in order])


class Fault(Exception):
    """A row of a walked plan cannot be done."""

    def __init__(self, row):
        Exception.__init__(self, row)
        self.row = row


def walk(old, new_size, plan, spare):
    """The room as the plan leaves it, from this old text on; a Fault at the first row that cannot be done."""
    room = list(old) + [None] * (new_size - len(old))
    slots = [None] * spare
    for number, row in enumerate(plan):
        try:
            walk_row(row, room, slots)
        except (IndexError, ValueError):
            raise Fault(number) from None
    return room


def walk_row(row, room, slots):
    into, out_of = {
        "keep": (slots, room), "lay": (room, slots), "copy": (room, room), "put": (room, room)
    }[row[0]]
    if row[0] == "put":
        held = list(row[2])
    else:
        if row[0] == "copy" and row[1] == row[2]:
            raise ValueError("to is at")
        if row[3] > len(out_of):
            raise IndexError("more than there is")
        held = [look(out_of, row[2] + step) for step in range(row[3])]
    if not held or None in held:
        raise ValueError("nothing to write")
    for step in range(len(held)):
        look(into, row[1] + step)
    for step, sign in enumerate(held):
        into[row[1] + step] = sign


def look(store, number):
    if number < 0:
        raise IndexError("below 0")
    return store[number]


def rows_end_right(change, plan, spare, old):
    """Whether the plan, walked from this old text on, leaves the change's new text in the first cells."""
    wanted = list(change.done(old))
    return walk(old, len(wanted), plan, spare)[:len(wanted)] == wanted
