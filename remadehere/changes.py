"""Changes: how a new text is made of an old one, by stretches copied and signs put."""

from remadehere.errors import BadRow, BadSize

MOST_SIGNS = 400


class Change:
    """A new text made of an old one of a told size, row by row; never changed once it is made."""

    def __init__(self, size, rows):
        check_size(size)
        check_rows(size, rows)
        self.size = size
        self.rows = list(rows)

    def __eq__(self, other):
        return isinstance(other, Change) and self.size == other.size and self.rows == other.rows

    def __len__(self):
        return len(self.rows)

    def __str__(self):
        return "\n".join([f"size {self.size}"] + [row_text(row) for row in self.rows])

    def done(self, old):
        """The new text that is made of this old one."""
        check_old(self, old)
        return "".join([cell if isinstance(cell, str) else old[cell] for cell in self.cells()])

    def cells(self):
        """For each place of the new text the old place that is copied there, or the sign put there."""
        cells = []
        for row in self.rows:
            cells.extend(row_cells(row))
        return cells

    def new_size(self):
        """How many signs the new text has."""
        return sum([row_size(row) for row in self.rows])


def check_size(size):
    if size < 0 or size > MOST_SIGNS:
        raise BadSize(f"no text has {size} signs")


def check_rows(size, rows):
    signs = 0
    for number, row in enumerate(rows):
        if not row_fits(size, row):
            raise BadRow(number)
        signs += row_size(row)
        if signs > MOST_SIGNS:
            raise BadRow(number)


def check_old(change, old):
    if len(old) != change.size:
        raise BadSize(f"the old text has {len(old)} signs, not {change.size}")


def row_fits(size, row):
    """Whether the row gives at least one sign and copies only places that an old text of this size has."""
    if row[0] == "copy":
        return row[1] >= 0 and row[2] >= 1 and row[1] + row[2] <= size
    return len(row[1]) >= 1


def row_size(row):
    return row[2] if row[0] == "copy" else len(row[1])


def row_cells(row):
    return list(range(row[1], row[1] + row[2])) if row[0] == "copy" else list(row[1])


def row_text(row):
    return " ".join([str(part) for part in row])


def change_of_cells(size, cells):
    """The plainest change with these cells."""
    rows = []
    for cell in cells:
        if rows and goes_on(rows[-1], cell):
            rows[-1] = longer_row(rows[-1], cell)
        else:
            rows.append(single_row(cell))
    return Change(size, rows)


def goes_on(row, cell):
    """Whether the cell can be one more of the row."""
    if row[0] == "copy":
        return cell == row[1] + row[2]
    return isinstance(cell, str)


def longer_row(row, cell):
    if row[0] == "copy":
        return ("copy", row[1], row[2] + 1)
    return ("put", row[1] + cell)


def single_row(cell):
    return ("put", cell) if isinstance(cell, str) else ("copy", cell, 1)


def plainest(change):
    """The change with the same cells that has the fewest rows."""
    return change_of_cells(change.size, change.cells())


def parting(one, two):
    """An old text of which the two changes, of one size, make unlike new ones; None where they are alike."""
    ones, twos = one.cells(), two.cells()
    for first, second in zip(ones, twos):
        if first != second:
            return parting_cells(one.size, first, second)
    # Where only the lengths of the new texts differ, they do so for every old text.
    return None if len(ones) == len(twos) else "a" * one.size


def parting_cells(size, first, second):
    """An old text of this size for which two unlike cells give unlike signs."""
    if isinstance(first, str):
        return unlike_sign(first) * size
    if isinstance(second, str):
        return unlike_sign(second) * size
    return "a" * first + "b" + "a" * (size - first - 1)


def unlike_sign(sign):
    return "b" if sign == "a" else "a"


def behind(first, second):
    """The plainest change that does what the first one does and then the second one."""
    if second.size != first.new_size():
        raise BadSize(f"the first change makes {first.new_size()} signs, not {second.size}")
    middle = first.cells()
    cells = [cell if isinstance(cell, str) else middle[cell] for cell in second.cells()]
    return change_of_cells(first.size, cells)


def undone(change, old):
    """The plainest change back to this old text, which copies whatever the new text still has of it."""
    check_old(change, old)
    copied = first_places(change.cells())
    return change_of_cells(change.new_size(), [copied.get(at, sign) for at, sign in enumerate(old)])


def first_places(cells):
    """For each old place that is copied the first new place that has it."""
    places = {}
    for at, cell in enumerate(cells):
        if isinstance(cell, int):
            places.setdefault(cell, at)
    return places
