"""Cuts: a plan written sign by sign, the marks it can go on from, and a run of it that may be cut off."""

from remadehere.plans import WAYS


def writes(plan):
    """The rows of the plan sign by sign, a tuple (where, number, from, what) for each."""
    told = []
    for row in plan:
        told.extend(row_writes(row))
    return told


def row_writes(row):
    if row[0] == "put":
        return [("cell", row[1] + step, "sign", sign) for step, sign in enumerate(row[2])]
    word, to, at, many = row
    into, out_of = WAYS[word]
    steps = list(range(many))
    # From its first cell on, a copy to a greater place could write over what it has still to read.
    if word == "copy" and to > at:
        steps.reverse()
    return [(into, to + step, out_of, at + step) for step in steps]


def written_place(entry):
    return entry[:2]


def read_place(entry):
    """Where the write reads; a sign that is put stands for a place that no write writes."""
    return entry[2:]


def mark_fault(some, marks):
    """(i, j): the first write j that writes what i, ahead of it and not parted from it by a mark, reads; else None."""
    parted = {mark: True for mark in marks}
    readers = {}
    for number, entry in enumerate(some):
        if number in parted:
            readers = {}
        place = written_place(entry)
        if place in readers:
            return (readers[place], number)
        readers.setdefault(read_place(entry), number)
    return None


def fewest_marks(some):
    """(marks, pairs): fewest marks without a fault, and as many pairs (i, j) no two of which one mark could part."""
    marks, pairs = [], []
    readers = {}
    for number, entry in enumerate(some):
        place = written_place(entry)
        if place in readers:
            # A mark stands as late as its pair lets it, and each pair lies wholly behind the mark ahead:
            # every pair needs a mark of its own, so fewer cannot do.
            marks.append(number)
            pairs.append((readers[place], number))
            readers = {}
        readers[read_place(entry)] = number
    return (marks, pairs)


class Runner:
    """A run of a plan in the room of an old text; whatever cuts it off, it goes on from its mark."""

    def __init__(self, old, plan, marks, spare=0, size=0):
        self.size = max(len(old), size)
        # Slots come to be as they are written, so however great the spare is, it takes no more than is used.
        self.held = {"cell": {place: sign for place, sign in enumerate(old)}, "slot": {}}
        self.entries = writes(plan)
        self.marks = {mark: True for mark in marks}
        self.safe = 0
        self.count = 0

    def step(self):
        """Sets the mark that is due, else does the next write; whether there was something to do."""
        if self.count in self.marks and self.count > self.safe:
            self.safe = self.count
            return True
        if self.count >= len(self.entries):
            return False
        self.write(self.entries[self.count])
        self.count += 1
        return True

    def write(self, entry):
        into, number, out_of, what = entry
        self.held[into][number] = what if out_of == "sign" else self.held[out_of].get(what)

    def cut(self):
        """Loses the count of writes behind the mark."""
        self.count = self.safe

    def mark(self):
        """The count of writes that no cut loses."""
        return self.safe

    def room(self):
        """What the cells hold, None where they hold nothing."""
        return [self.held["cell"].get(place) for place in range(self.size)]
