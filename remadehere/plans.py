"""Plans: a change planned for its own room with some spare, and any plan judged for every old text."""

from remadehere.moves import fewest_kept, move_size, moves_of, ordered
from remadehere.singles import single_plan

MOST_COPIES = 10

# For each word but put: where its row writes, and where it reads.
WAYS = {"keep": ("slot", "cell"), "lay": ("cell", "slot"), "copy": ("cell", "cell")}


def planned(change, spare=0):
    """A plan of the change: by an order, else by kept copies, else by single rows; refused with NoSpare(1)."""
    moves = moves_of(change)
    word, told = ordered(moves)
    if word == "order":
        return told
    if len([move for move in moves if move[0] == "copy"]) <= MOST_COPIES:
        kept = fewest_kept(moves)
        if sum([move_size(moves[number]) for number in kept]) <= spare:
            return kept_plan(moves, kept)
    return single_plan(change, spare)


def kept_plan(moves, kept):
    """The plan by which the kept copies are put aside first and laid last."""
    keeps, lays = [], []
    slot = 0
    for number in kept:
        to, at, many = moves[number][1:]
        keeps.append(("keep", slot, at, many))
        lays.append(("lay", to, slot, many))
        slot += many
    others = ordered([move for number, move in enumerate(moves) if number not in kept])
    return keeps + others[1] + lays


def plan_fault(change, plan, spare=0):
    """("row", k) or ("cell", place), the first fault of the plan; None where it makes the change of every old text."""
    cells = change.cells()
    sizes = {"cell": max(change.size, len(cells)), "slot": spare}
    # Each old sign is told by its place: what ends as the same places and signs is the same for every old text.
    held = {"cell": {place: place for place in range(change.size)}, "slot": {}}
    for number, row in enumerate(plan):
        if not row_fits(row, sizes):
            return ("row", number)
        what = row_reads(row, held)
        if None in what:
            return ("row", number)
        write_row(row, what, held)
    return cell_fault(cells, held["cell"])


def row_fits(row, sizes):
    """Whether the row writes at least one sign and stays within the room and the slots."""
    if row[0] == "put":
        return len(row[2]) >= 1 and within(row[1], len(row[2]), sizes["cell"])
    word, to, at, many = row
    if many < 1 or word == "copy" and to == at:
        return False
    into, out_of = WAYS[word]
    return within(to, many, sizes[into]) and within(at, many, sizes[out_of])


def within(first, many, size):
    return first >= 0 and first + many <= size


def row_reads(row, held):
    """What the row is about to write: signs, old places, None for each cell or slot that holds nothing."""
    if row[0] == "put":
        return list(row[2])
    store = held[WAYS[row[0]][1]]
    return [store.get(at) for at in range(row[2], row[2] + row[3])]


def write_row(row, what, held):
    store = held["cell" if row[0] == "put" else WAYS[row[0]][0]]
    for step, sign in enumerate(what):
        store[row[1] + step] = sign


def cell_fault(cells, held):
    """The first place that does not hold what the change tells; None where all do."""
    for place, cell in enumerate(cells):
        if held.get(place) != cell:
            return ("cell", place)
    return None
