"""Single moves: a change done by rows of one cell each, as few as any can be."""

from remadehere.errors import NoSpare


def pure_rings(change):
    """How many pure rings the change has."""
    return len(rings_of(change.cells()))


def single_plan(change, spare=0):
    """A plan of fewest rows of one cell each; refused with NoSpare(1) where there can be none."""
    cells = change.cells()
    rings = rings_of(cells)
    spared = None if spare > 0 else spared_cell(change.size, cells)
    if rings and spare < 1 and spared is None:
        raise NoSpare(1)
    plan = []
    # The rings go first: what is spared for them is written for good only behind them.
    for ring in rings:
        plan.extend(ring_rows(ring, spared))
    return plan + loose_rows(cells)


def takers(cells):
    """For each old place that other cells get, how many they are."""
    found = {}
    for place, cell in enumerate(cells):
        if isinstance(cell, int) and cell != place:
            found[cell] = found.get(cell, 0) + 1
    return found


def rings_of(cells):
    """The pure rings: of each its cells, so that each gets what the next one held, the last what the first held."""
    taken = takers(cells)
    links = {
        place: cell for place, cell in enumerate(cells)
        if isinstance(cell, int) and cell != place and taken.get(place, 0) == 1
    }
    rings = []
    for start in range(len(cells)):
        walked = []
        place = start
        while place in links:
            walked.append(place)
            place = links.pop(place)
        if walked and place == start:
            rings.append(walked)
    return rings


def spared_cell(size, cells):
    """A cell that can be written over at first: nothing gets what it holds, and it gets its own only later."""
    loose = leaves(cells)
    if loose:
        return loose[0]
    # Where nothing changes but pure rings, no cell gets what stands behind the new text.
    return len(cells) if size > len(cells) else None


def leaves(cells):
    """The cells that change, and what they hold no other cell gets."""
    taken = takers(cells)
    return [place for place, cell in enumerate(cells) if cell != place and place not in taken]


def ring_rows(ring, spared):
    """The rows for a pure ring by way of the spared cell, or of the first slot where none is spared."""
    first, last = ring[0], ring[-1]
    rows = [("copy", to, at, 1) for to, at in zip(ring, ring[1:])]
    if spared is None:
        return [("keep", 0, first, 1)] + rows + [("lay", last, 0, 1)]
    return [("copy", spared, first, 1)] + rows + [("copy", last, spared, 1)]


def loose_rows(cells):
    """The rows for all cells that change and are in no pure ring, one for each."""
    lies = {}
    rows = []
    ready = leaves(cells)
    while ready:
        place = ready.pop()
        cell = cells[place]
        rows.append(loose_row(place, cell, lies))
        # What the first taker has got lies there for the others, so its old place is ready at once;
        # every ring that is not pure is broken by this.
        if isinstance(cell, int) and cell not in lies:
            lies[cell] = place
            if cell < len(cells) and cells[cell] != cell:
                ready.append(cell)
    return rows


def loose_row(place, cell, lies):
    if isinstance(cell, str):
        return ("put", place, cell)
    return ("copy", place, lies.get(cell, cell), 1)
