"""Finding: the change from one text to another that costs the least."""

from remadehere.changes import Change


def cost(change, price=4):
    """The price for each row, and one for each sign that is put."""
    return price * len(change.rows) + sum([len(row[1]) for row in change.rows if row[0] == "put"])


def found_change(old, new, price=4):
    """A change from the old text to the new one that costs no more than any other."""
    ends = cheapest_ends(copy_ends(old, new), price)
    rows = []
    start = 0
    while start < len(new):
        rows.append(stretch_row(old, new[start:ends[start]]))
        start = ends[start]
    return Change(len(old), rows)


def stretch_row(old, stretch):
    at = old.find(stretch)
    return ("put", stretch) if at < 0 else ("copy", at, len(stretch))


def copy_ends(old, new):
    """For each place of the new text where the longest stretch from there on ends that the old text has."""
    ends = []
    end = 0
    for start in range(len(new)):
        # What the old text has of the stretch ahead it has without that one's first sign too,
        # so the end never goes back.
        end = max(start, end)
        while end < len(new) and new[start:end + 1] in old:
            end += 1
        ends.append(end)
    return ends


def cheapest_ends(copied, price):
    """For each place where the first row from there on ends, so that the rest of the new text costs the least."""
    size = len(copied)
    ends = [size] * size
    costs = [0] * (size + 1)
    for start in reversed(range(size)):
        ways = [(price + put_signs(copied, start, end) + costs[end], end) for end in range(start + 1, size + 1)]
        costs[start], ends[start] = min(ways)
    return ends


def put_signs(copied, start, end):
    """How many signs must be put for this stretch as one row."""
    return 0 if end <= copied[start] else end - start
