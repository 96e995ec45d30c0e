"""Moves: what a change writes into a room, at once or one behind the other, and the order in which it is safe."""

from remadehere.changes import parting_cells, row_cells, row_size


def moves_of(change):
    """The rows of the change at their places in the new text, without the copies that lie already."""
    moves = []
    to = 0
    for row in change.rows:
        if row[0] == "put" or row[1] != to:
            moves.append((row[0], to) + row[1:])
        to += row_size(row)
    return moves


def move_row(move):
    """The row of a change that the move does at its place."""
    return (move[0],) + move[2:]


def move_size(move):
    return row_size(move_row(move))


def read_cells(move):
    return row_cells(move_row(move)) if move[0] == "copy" else []


def written_cells(move):
    return list(range(move[1], move[1] + move_size(move)))


def at_once(room, moves):
    """The room as the moves leave it where each reads it as it stands ahead of all."""
    left = list(room)
    for move in moves:
        write(left, move, held_for(move, room))
    return left


def one_by_one(room, moves):
    """The room as the moves leave it where each reads what those ahead of it have left."""
    left = list(room)
    for move in moves:
        write(left, move, held_for(move, left))
    return left


def held_for(move, room):
    """What the move writes where it reads this room, as a list of its own."""
    return room[move[2]:move[2] + move[3]] if move[0] == "copy" else list(move[2])


def write(room, move, held):
    room[move[1]:move[1] + len(held)] = held


def spoilt(moves):
    """(k, cell): the first move that reads what one ahead of it has written, and the least such cell; else None."""
    written = {}
    for number, move in enumerate(moves):
        for cell in read_cells(move):
            if cell in written:
                return (number, cell)
        for cell in written_cells(move):
            written[cell] = True
    return None


def spoilt_room(moves, size):
    """A text of this size that the moves make unlike at once and one behind the other; None where there is none."""
    fault = spoilt(moves)
    if fault is None:
        return None
    number, cell = fault
    # No move ahead is spoilt, so the cell holds by then what its source held at first;
    # and nothing else writes where the spoilt move puts that.
    return parting_cells(size, cell, sources(moves[:number])[cell])


def sources(moves):
    """For each cell that the moves write the cell that is copied there, or the sign put there."""
    found = {}
    for move in moves:
        for cell, source in zip(written_cells(move), row_cells(move_row(move))):
            found[cell] = source
    return found


def followers(moves):
    """For each move the numbers of those that it must go ahead of."""
    writers = {}
    for number, move in enumerate(moves):
        for cell in written_cells(move):
            writers[cell] = number
    found = []
    for number, move in enumerate(moves):
        # A move reads all that it reads ahead of its own writing, so it never waits for itself.
        after = {writers[cell]: True for cell in read_cells(move) if writers.get(cell, number) != number}
        found.append(list(after))
    return found


def ordered(moves):
    """("order", the moves so that none is spoilt); where there is none, ("ring", the numbers of its moves)."""
    after = followers(moves)
    waits = [0] * len(moves)
    for numbers in after:
        for number in numbers:
            waits[number] += 1
    left = list(range(len(moves)))
    order = []
    while left:
        free = [number for number in left if waits[number] == 0]
        if not free:
            return ("ring", ring_among(left, after))
        for number in after[free[0]]:
            waits[number] -= 1
        left.remove(free[0])
        order.append(moves[free[0]])
    return ("order", order)


def ring_among(left, after):
    """A ring of moves, told round it, among those left, each of which waits for another one left."""
    ahead = {number: first for first in left for number in after[first]}
    walked = []
    number = left[0]
    while number not in walked:
        walked.append(number)
        number = ahead[number]
    # The walk goes from each move to one that must go ahead of it: against the ring.
    return walked[walked.index(number):][::-1]


def fewest_kept(moves):
    """The numbers of the copies, of as few signs as can be, without which the others have an order."""
    choices = {(0, ()): True}
    while True:
        # Of each ring one copy must be kept, so every best choice grows out of lesser ones,
        # and all of as many signs are there when the first of them is looked at.
        least = min(list(choices))
        del choices[least]
        signs, kept = least
        ring = ring_without(moves, kept)
        if not ring:
            return list(kept)
        for number in ring:
            more = (signs + move_size(moves[number]), tuple(sorted([number] + list(kept))))
            choices[more] = True


def ring_without(moves, kept):
    """The numbers of a ring of copies none of which is kept; none where the others have an order."""
    # A put reads nothing and goes ahead of no move, so it is in no ring.
    copies = [number for number, move in enumerate(moves) if move[0] == "copy" and number not in kept]
    word, told = ordered([moves[number] for number in copies])
    return [copies[place] for place in told] if word == "ring" else []
