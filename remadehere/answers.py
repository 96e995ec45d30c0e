"""Answers: how a written change is done in the room of an old text, told as a writing."""

from remadehere.changes import row_text
from remadehere.cuts import fewest_marks, writes
from remadehere.plans import planned
from remadehere.texts import read_change


def answer(old, text, spare=0):
    """The plan of the written change, fewest marks of its writes and the new text, as rows of text."""
    change = read_change(text)
    # Done ahead of the planning, so that BadSize goes ahead of NoSpare.
    new = change.done(old)
    plan = planned(change, spare)
    marks = fewest_marks(writes(plan))[0]
    rows = plan + [["marks"] + marks, ["new", new] if new else ["new"]]
    return "\n".join([row_text(row) for row in rows])
