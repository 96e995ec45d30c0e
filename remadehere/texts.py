"""Texts: changes and plans as they are written, and read back."""

from remadehere.changes import MOST_SIGNS, Change, row_text
from remadehere.errors import NoText

MOST_FIGURES = 60
FIGURES = "0123456789"

# The rows that may be written: each its word and the kinds of what stands behind it.
HEAD_FORMS = (("size", "number"),)
CHANGE_FORMS = (("copy", "number", "number"), ("put", "signs"))
PLAN_FORMS = (
    ("keep", "number", "number", "number"),
    ("copy", "number", "number", "number"),
    ("put", "number", "signs"),
    ("lay", "number", "number", "number"),
)


def change_text(change):
    """The change as it is written."""
    return str(change)


def plan_text(plan):
    """The plan as it is written."""
    return "\n".join([row_text(row) for row in plan])


def read_change(text):
    """The change that is so written; refused with NoText, else with BadSize, else with BadRow."""
    head, *rows = text.split("\n")
    size = read_row(head, HEAD_FORMS)[1]
    # All rows are read ahead of the making, so that NoText goes ahead of the other refusals.
    return Change(size, [read_row(row, CHANGE_FORMS) for row in rows])


def read_plan(text):
    """The plan that is so written, which may be any; refused with NoText."""
    if text == "":
        return []
    return [read_row(row, PLAN_FORMS) for row in text.split("\n")]


def read_row(row, forms):
    """The row as a tuple, by the one of the forms that it has."""
    words = row.split(" ")
    for form in forms:
        if words[0] == form[0] and len(words) == len(form):
            parts = [read_part(word, kind) for word, kind in zip(words[1:], form[1:])]
            return (words[0], *parts)
    raise NoText(f"no such row: {row}")


def read_part(word, kind):
    return read_number(word) if kind == "number" else read_signs(word)


def read_number(word):
    figures = word.removeprefix("-")
    if len(figures) < 1 or len(figures) > MOST_FIGURES or any([figure not in FIGURES for figure in figures]):
        raise NoText(f"no number: {word}")
    if figures.startswith("0") and word != "0":
        raise NoText(f"a number with a 0 ahead, or below 0 and none: {word}")
    return int(word)


def read_signs(word):
    if len(word) < 1 or len(word) > MOST_SIGNS or not all([is_sign(sign) for sign in word]):
        raise NoText(f"no text of one to {MOST_SIGNS} signs: {word}")
    return word


def is_sign(sign):
    # 37 is the percent sign, which no text has.
    return "!" <= sign <= "~" and ord(sign) != 37
