"""Points 2 to 7 of the document, and of 22 how a change is written."""

import inspect
import unittest
from itertools import product

from remadehere import changes
from remadehere.changes import Change, behind, parting, plainest, undone
from remadehere.errors import BadRow, BadSize

SIGNS = "ab~"
BIG = 10 ** 59
ALL_SIGNS = "".join([chr(code) for code in range(33, 127) if code != 37])


def texts_of(size, signs="ab~!"):
    return ["".join(text) for text in product(signs, repeat=size)]


def rows_of_cells(cells):
    """One row for each cell: never the plainest ones where two cells go on with one another."""
    return [("put", cell) if isinstance(cell, str) else ("copy", cell, 1) for cell in cells]


def small_changes(size, most, signs=SIGNS):
    """A change for each list of cells that an old text of this size lets stand, up to so many cells."""
    choices = list(range(size)) + list(signs)
    return [
        Change(size, rows_of_cells(cells))
        for many in range(most + 1)
        for cells in product(choices, repeat=many)
    ]


def joints(rows):
    """The numbers of the rows that could be one with the row ahead of them."""
    found = []
    for number in range(1, len(rows)):
        ahead, row = rows[number - 1], rows[number]
        if ahead[0] == row[0] and (row[0] == "put" or ahead[1] + ahead[2] == row[1]):
            found.append(number)
    return found


class Making(unittest.TestCase):
    """Point 4."""

    def refused_row(self, size, rows):
        with self.assertRaises(BadRow) as caught:
            Change(size, rows)
        return caught.exception.row

    def test_sizes(self):
        for size in (0, 1, 399, 400):
            self.assertEqual(Change(size, []).size, size)
        for size in (-1, -2, 401, 402, -BIG, BIG):
            with self.assertRaises(BadSize):
                Change(size, [])

    def test_rows_none_one_and_four_hundred(self):
        for rows in ([], [("copy", 1, 2)], [("put", "x")], [("put", "x")] * 400, [("copy", 2, 1)] * 400):
            made = Change(3, rows)
            self.assertEqual(made.rows, rows)
            self.assertEqual(len(made), len(rows))

    def test_fields_are_set_on_the_object(self):
        self.assertEqual(vars(Change(3, [("copy", 0, 3)])), {"size": 3, "rows": [("copy", 0, 3)]})

    def test_every_sign_can_be_put(self):
        self.assertEqual(len(ALL_SIGNS), 93)
        self.assertEqual(Change(0, [("put", ALL_SIGNS)]).done(""), ALL_SIGNS)

    def test_a_copy_reaches_just_to_the_end(self):
        for size in (1, 2, 5, 400):
            for at in (0, size // 2, size - 1):
                self.assertEqual(len(Change(size, [("copy", at, size - at)])), 1)
                self.assertEqual(self.refused_row(size, [("copy", at, size - at + 1)]), 0)
            self.assertEqual(self.refused_row(size, [("copy", size, 1)]), 0)
        self.assertEqual(self.refused_row(0, [("copy", 0, 1)]), 0)

    def test_a_copy_begins_in_the_old_text(self):
        for at in (-1, -2, -5, -BIG, 5, 6, BIG):
            for many in (1, 2, 5, 6):
                self.assertEqual(self.refused_row(5, [("copy", at, many)]), 0)
        self.assertEqual(self.refused_row(5, [("copy", -BIG, BIG)]), 0)

    def test_a_copy_has_at_least_one_sign(self):
        for many in (0, -1, -5, -BIG, BIG):
            for at in (0, 2, 5):
                self.assertEqual(self.refused_row(5, [("copy", at, many)]), 0)
        self.assertEqual(self.refused_row(0, [("copy", 0, 0)]), 0)
        self.assertEqual(self.refused_row(5, [("copy", BIG, -BIG)]), 0)

    def test_a_put_has_at_least_one_sign(self):
        self.assertEqual(self.refused_row(5, [("put", "")]), 0)
        self.assertEqual(self.refused_row(0, [("put", "a"), ("put", "")]), 1)

    def test_the_new_text_has_at_most_four_hundred_signs(self):
        self.assertEqual(Change(0, [("put", "x" * 400)]).new_size(), 400)
        self.assertEqual(Change(200, [("copy", 0, 200)] * 2).new_size(), 400)
        self.assertEqual(Change(399, [("copy", 0, 399), ("put", "x")]).new_size(), 400)
        self.assertEqual(self.refused_row(0, [("put", "x" * 401)]), 0)
        self.assertEqual(self.refused_row(200, [("copy", 0, 200), ("copy", 0, 200), ("copy", 7, 1)]), 2)
        self.assertEqual(self.refused_row(399, [("copy", 0, 399), ("put", "xy")]), 1)
        self.assertEqual(self.refused_row(399, [("put", "xy"), ("copy", 0, 399)]), 1)
        self.assertEqual(self.refused_row(1, [("put", "x")] * 401), 400)
        self.assertEqual(self.refused_row(1, [("copy", 0, 1)] * 5000), 400)

    def test_a_bad_size_goes_ahead_of_a_bad_row(self):
        for size in (-1, 401):
            for rows in ([("put", "")], [("copy", 0, 0)], [("copy", 0, BIG)], [("put", "x")] * 401):
                with self.assertRaises(BadSize):
                    Change(size, rows)

    def test_the_first_row_at_fault_is_told(self):
        good, bad_put, bad_copy = ("copy", 0, 3), ("put", ""), ("copy", 3, 1)
        self.assertEqual(self.refused_row(3, [good, bad_put, bad_copy]), 1)
        self.assertEqual(self.refused_row(3, [good, good, bad_copy, good, bad_put]), 2)
        self.assertEqual(self.refused_row(3, [bad_copy, bad_put]), 0)
        too_long = [("put", "x" * 400), ("put", "x"), bad_copy]
        self.assertEqual(self.refused_row(3, too_long), 1)
        self.assertEqual(self.refused_row(3, [bad_copy] + too_long), 0)
        self.assertEqual(self.refused_row(3, [too_long[0], bad_put, too_long[1]]), 1)

    def test_a_row_at_fault_counts_nothing_for_the_length(self):
        self.assertEqual(self.refused_row(3, [("copy", 0, -BIG), ("put", "x" * 401)]), 0)


class Handing(unittest.TestCase):
    """Point 2."""

    def test_lists_that_are_handed_in_are_copied(self):
        rows = [("copy", 0, 2), ("put", "x")]
        made = Change(3, rows)
        rows.append(("put", "y"))
        rows[0] = ("copy", 1, 1)
        self.assertEqual(made.rows, [("copy", 0, 2), ("put", "x")])
        self.assertEqual(made.done("abc"), "abx")

    def test_lists_that_are_handed_in_are_not_changed(self):
        rows = [("copy", 0, 2), ("copy", 2, 1), ("put", "x"), ("put", "y")]
        kept = list(rows)
        made = Change(3, rows)
        plainest(made)
        undone(made, "abc")
        behind(made, Change(5, [("copy", 4, 1)]))
        parting(made, Change(3, []))
        self.assertEqual(rows, kept)
        with self.assertRaises(BadRow):
            Change(2, rows)
        self.assertEqual(rows, kept)

    def test_a_change_shares_no_list_with_another_one(self):
        made = Change(3, [("copy", 0, 3)])
        others = [Change(3, made.rows), plainest(made), behind(made, made), undone(made, "abc")]
        for other in others:
            self.assertEqual(other, made)
            self.assertIsNot(other, made)
            self.assertIsNot(other.rows, made.rows)

    def test_a_change_is_never_changed(self):
        made = Change(3, [("copy", 0, 2), ("copy", 2, 1), ("put", "x"), ("put", "y")])
        copied = Change(3, list(made.rows))
        made.cells().append(7)
        made.cells()[0] = "z"
        made.done("abc"), made.new_size(), str(made), len(made), bool(made), made == copied
        plainest(made), parting(made, copied), behind(made, Change(5, [])), undone(made, "abc")
        self.assertEqual(made, copied)
        self.assertEqual(made.cells(), [0, 1, 2, "x", "y"])

    def test_told_lists_are_new_ones(self):
        made = Change(3, [("copy", 0, 3)])
        self.assertIsNot(made.cells(), made.cells())
        self.assertIsInstance(made.cells(), list)
        self.assertIsInstance(made.rows, list)

    def test_arguments_by_name(self):
        made = Change(rows=[("copy", 0, 1), ("put", "x")], size=2)
        self.assertEqual(made.done(old="ab"), "ax")
        self.assertEqual(plainest(change=made), made)
        self.assertIsNone(parting(two=made, one=made))
        self.assertEqual(behind(second=Change(2, [("copy", 1, 1)]), first=made), Change(2, [("put", "x")]))
        self.assertEqual(undone(old="ab", change=made), Change(2, [("copy", 0, 1), ("put", "b")]))

    def test_the_interface(self):
        for name in ("__init__", "__eq__", "__len__", "__str__", "done", "cells", "new_size"):
            self.assertTrue(inspect.isfunction(vars(Change)[name]))
        for name in ("plainest", "parting", "behind", "undone"):
            self.assertTrue(inspect.isfunction(vars(changes)[name]))


class Looking(unittest.TestCase):
    """Point 5."""

    def test_equal_changes(self):
        rows = [("copy", 0, 2), ("put", "x")]
        self.assertTrue(Change(2, rows) == Change(2, list(rows)))
        self.assertFalse(Change(2, rows) != Change(2, list(rows)))
        self.assertTrue(Change(0, []) == Change(0, []))

    def test_unequal_changes(self):
        made = Change(2, [("copy", 0, 2), ("put", "x")])
        others = [
            Change(3, made.rows),
            Change(2, made.rows[:1]),
            Change(2, made.rows + [("put", "x")]),
            Change(2, made.rows[::-1]),
            Change(2, [("copy", 0, 1), ("put", "x")]),
            Change(2, [("copy", 1, 1), ("put", "x")]),
            Change(2, [("copy", 0, 2), ("put", "y")]),
            Change(2, [("copy", 0, 2), ("put", "xx")]),
            Change(2, [("copy", 0, 1), ("copy", 1, 1), ("put", "x")]),
        ]
        for other in others:
            self.assertFalse(made == other)
            self.assertTrue(made != other)
        self.assertFalse(Change(0, []) == Change(1, []))

    def test_equal_to_nothing_else(self):
        for made in (Change(0, []), Change(2, [("copy", 0, 2)])):
            things = [None, 0, 2, "", str(made), [], made.rows, (), (made.size, made.rows), {}, True, False, Change]
            for thing in things:
                self.assertFalse(made == thing)
                self.assertFalse(thing == made)
                self.assertTrue(made != thing)

    def test_length_and_truth(self):
        self.assertEqual(len(Change(5, [])), 0)
        self.assertIs(bool(Change(5, [])), False)
        self.assertEqual(len(Change(5, [("copy", 0, 5)])), 1)
        self.assertIs(bool(Change(5, [("copy", 0, 5)])), True)
        self.assertEqual(len(Change(5, [("put", "abc"), ("put", "d"), ("copy", 0, 5)])), 3)

    def test_done(self):
        self.assertEqual(Change(5, [("copy", 3, 2), ("put", "--"), ("copy", 0, 4)]).done("abcde"), "de--abcd")
        self.assertEqual(Change(3, [("copy", 1, 1)] * 4).done("012"), "1111")
        self.assertEqual(Change(3, []).done("abc"), "")
        self.assertEqual(Change(0, []).done(""), "")
        self.assertEqual(Change(0, [("put", "007")]).done(""), "007")
        long = "".join([ALL_SIGNS[k % 93] for k in range(400)])
        self.assertEqual(Change(400, [("copy", 0, 400)]).done(long), long)
        self.assertEqual(Change(400, [("copy", 200, 200), ("copy", 0, 200)]).done(long), long[200:] + long[:200])

    def test_done_with_a_text_of_another_size(self):
        for size, old in ((3, "ab"), (3, "abcd"), (3, ""), (0, "a"), (1, ""), (400, "x" * 399), (400, "x" * 401)):
            for rows in ([], [("put", "x")]):
                with self.assertRaises(BadSize):
                    Change(size, rows).done(old)

    def test_cells(self):
        made = Change(5, [("copy", 3, 2), ("put", "12"), ("copy", 0, 1), ("copy", 0, 2), ("put", "3")])
        self.assertEqual(made.cells(), [3, 4, "1", "2", 0, 0, 1, "3"])
        self.assertEqual(made.new_size(), 8)
        self.assertEqual(Change(5, []).cells(), [])
        self.assertEqual(Change(5, []).new_size(), 0)
        self.assertEqual(Change(400, [("copy", 0, 400)]).cells(), list(range(400)))

    def test_cells_tell_what_done_does(self):
        for made in small_changes(2, 3):
            for old in texts_of(2):
                told = [old[cell] if isinstance(cell, int) else cell for cell in made.cells()]
                self.assertEqual(made.done(old), "".join(told))
                self.assertEqual(made.new_size(), len(told))

    def test_plainest(self):
        for rows, plain in (
            ([], []),
            ([("copy", 1, 2), ("copy", 3, 1)], [("copy", 1, 3)]),
            ([("copy", 0, 1), ("copy", 1, 2), ("copy", 3, 2)], [("copy", 0, 5)]),
            ([("copy", 1, 2), ("copy", 2, 2)], [("copy", 1, 2), ("copy", 2, 2)]),
            ([("copy", 1, 2), ("copy", 4, 1)], [("copy", 1, 2), ("copy", 4, 1)]),
            ([("copy", 2, 1), ("copy", 1, 1)], [("copy", 2, 1), ("copy", 1, 1)]),
            ([("copy", 2, 1), ("copy", 2, 1)], [("copy", 2, 1), ("copy", 2, 1)]),
            ([("put", "ab"), ("put", "c"), ("put", "c")], [("put", "abcc")]),
            ([("copy", 0, 1), ("put", "x"), ("copy", 1, 1)], [("copy", 0, 1), ("put", "x"), ("copy", 1, 1)]),
            ([("put", "a"), ("copy", 0, 1), ("put", "b")], [("put", "a"), ("copy", 0, 1), ("put", "b")]),
            ([("copy", 0, 1), ("put", "1"), ("put", "2"), ("copy", 2, 1)],
             [("copy", 0, 1), ("put", "12"), ("copy", 2, 1)]),
        ):
            told = plainest(Change(5, rows))
            self.assertIsInstance(told, Change)
            self.assertEqual(told, Change(5, plain))

    def test_plainest_of_the_longest(self):
        self.assertEqual(plainest(Change(1, [("put", "x")] * 400)), Change(1, [("put", "x" * 400)]))
        one_by_one = [("copy", at, 1) for at in range(400)]
        self.assertEqual(plainest(Change(400, one_by_one)), Change(400, [("copy", 0, 400)]))
        self.assertEqual(len(plainest(Change(400, one_by_one[::-1]))), 400)

    def test_plainest_keeps_the_cells_and_leaves_no_joint(self):
        for size in range(4):
            for made in small_changes(size, 3):
                told = plainest(made)
                self.assertEqual(told.size, size)
                self.assertEqual(told.cells(), made.cells())
                self.assertEqual(joints(told.rows), [])


class Parting(unittest.TestCase):
    """Point 6."""

    def check_parted(self, one, two):
        for first, second in ((one, two), (two, one)):
            text = parting(first, second)
            self.assertIsInstance(text, str)
            self.assertEqual(len(text), one.size)
            self.assertTrue(set(text) <= set(ALL_SIGNS))
            self.assertNotEqual(first.done(text), second.done(text))

    def test_alike_by_other_rows(self):
        whole = Change(3, [("copy", 0, 3), ("put", "xy")])
        parts = Change(3, [("copy", 0, 1), ("copy", 1, 2), ("put", "x"), ("put", "y")])
        self.assertIsNone(parting(whole, parts))
        self.assertIsNone(parting(parts, whole))
        self.assertIsNone(parting(whole, whole))
        self.assertIsNone(parting(Change(0, []), Change(0, [])))
        self.assertIsNone(parting(Change(400, []), Change(400, [])))

    def test_one_cell_differs_in_its_place(self):
        for first in range(4):
            for second in range(4):
                if first != second:
                    ahead, rear = ("copy", 0, 4), ("put", "ab")
                    self.check_parted(
                        Change(4, [ahead, ("copy", first, 1), rear]), Change(4, [ahead, ("copy", second, 1), rear])
                    )
        self.check_parted(Change(400, [("copy", 399, 1)]), Change(400, [("copy", 0, 1)]))

    def test_one_cell_differs_in_its_sign(self):
        for size in (0, 1, 5):
            for first in "ab~!0":
                for second in "ab~!0":
                    if first != second:
                        self.check_parted(Change(size, [("put", first)]), Change(size, [("put", second)]))

    def test_a_place_against_a_sign(self):
        for sign in ALL_SIGNS:
            for at in range(3):
                self.check_parted(Change(3, [("copy", at, 1)]), Change(3, [("put", sign)]))
        # A sign that looks like the number of a place is no place.
        self.check_parted(Change(3, [("copy", 1, 1)]), Change(3, [("put", "1")]))

    def test_the_new_sizes_differ(self):
        self.check_parted(Change(0, []), Change(0, [("put", "a")]))
        self.check_parted(Change(3, []), Change(3, [("copy", 0, 1)]))
        self.check_parted(Change(3, [("copy", 0, 3)]), Change(3, [("copy", 0, 2)]))
        self.check_parted(Change(3, [("put", "aa")]), Change(3, [("put", "aaa")]))
        self.check_parted(Change(3, [("copy", 0, 2)]), Change(3, [("copy", 1, 1)]))

    def test_told_apart_just_where_some_text_parts_them(self):
        for size in range(3):
            olds = texts_of(size)
            made = small_changes(size, 2)
            told = [[change.done(old) for old in olds] for change in made]
            for one, ones in zip(made, told):
                for two, twos in zip(made, told):
                    if ones == twos:
                        self.assertIsNone(parting(one, two))
                        self.assertEqual(plainest(one), plainest(two))
                    else:
                        self.check_parted(one, two)
                        self.assertNotEqual(plainest(one), plainest(two))


class Behind(unittest.TestCase):
    """Point 7, one change behind another."""

    def test_behind(self):
        first = Change(4, [("copy", 2, 2), ("put", "xy"), ("copy", 0, 2)])
        second = Change(6, [("copy", 4, 2), ("copy", 0, 3), ("put", "z"), ("copy", 3, 1)])
        told = behind(first, second)
        self.assertIsInstance(told, Change)
        self.assertEqual(told, Change(4, [("copy", 0, 4), ("put", "xzy")]))
        self.assertEqual(told.done("abcd"), "abcdxzy")

    def test_behind_of_no_signs(self):
        self.assertEqual(behind(Change(4, []), Change(0, [])), Change(4, []))
        self.assertEqual(behind(Change(4, []), Change(0, [("put", "a")])), Change(4, [("put", "a")]))
        self.assertEqual(behind(Change(0, [("put", "ab")]), Change(2, [("copy", 1, 1)])), Change(0, [("put", "b")]))

    def test_behind_of_the_longest(self):
        turned = Change(400, [("copy", at, 1) for at in reversed(range(400))])
        self.assertEqual(behind(turned, turned), Change(400, [("copy", 0, 400)]))

    def test_another_size_is_refused(self):
        first = Change(4, [("copy", 0, 2)])
        for size in (0, 1, 3, 4, 400):
            with self.assertRaises(BadSize):
                behind(first, Change(size, []))
        with self.assertRaises(BadSize):
            behind(Change(4, []), Change(4, []))

    def test_does_what_both_do_and_is_plainest(self):
        for size in range(3):
            for first in small_changes(size, 2, "ab"):
                for second in small_changes(first.new_size(), 2, "b~"):
                    told = behind(first, second)
                    self.assertEqual(told.size, size)
                    self.assertEqual(joints(told.rows), [])
                    for old in texts_of(size, "ab!"):
                        self.assertEqual(told.done(old), second.done(first.done(old)))


class Undone(unittest.TestCase):
    """Point 7, a change undone."""

    def test_each_place_copied_once(self):
        made = Change(4, [("copy", 2, 2), ("put", "xy"), ("copy", 0, 2)])
        told = undone(made, "abcd")
        self.assertIsInstance(told, Change)
        self.assertEqual(told, Change(6, [("copy", 4, 2), ("copy", 0, 2)]))

    def test_places_copied_more_often_come_from_the_first(self):
        made = Change(3, [("copy", 1, 1), ("copy", 0, 3), ("copy", 0, 3)])
        self.assertEqual(undone(made, "abc"), Change(7, [("copy", 1, 1), ("copy", 0, 1), ("copy", 3, 1)]))
        self.assertEqual(undone(Change(1, [("copy", 0, 1)] * 400), "a"), Change(400, [("copy", 0, 1)]))

    def test_places_not_copied_are_put(self):
        wanted = Change(1, [("put", "a"), ("copy", 0, 1), ("put", "cd")])
        self.assertEqual(undone(Change(4, [("copy", 1, 1)]), "abcd"), wanted)
        self.assertEqual(undone(Change(4, []), "abcd"), Change(0, [("put", "abcd")]))
        # The new text has these signs, but not from the old places.
        self.assertEqual(undone(Change(2, [("put", "ab")]), "ab"), Change(2, [("put", "ab")]))
        self.assertEqual(undone(Change(2, [("copy", 0, 1)]), "aa"), Change(1, [("copy", 0, 1), ("put", "a")]))
        self.assertEqual(undone(Change(2, [("put", "01")]), "10"), Change(2, [("put", "10")]))

    def test_of_no_signs(self):
        self.assertEqual(undone(Change(0, []), ""), Change(0, []))
        self.assertEqual(undone(Change(0, [("put", "abc")]), ""), Change(3, []))

    def test_of_the_longest(self):
        long = "".join([ALL_SIGNS[k % 93] for k in range(400)])
        turned = Change(400, [("copy", at, 1) for at in reversed(range(400))])
        self.assertEqual(undone(turned, long), turned)
        self.assertEqual(undone(Change(400, []), long), Change(0, [("put", long)]))

    def test_a_text_of_another_size_is_refused(self):
        for size, old in ((3, "ab"), (3, "abcd"), (3, ""), (0, "a"), (400, "x" * 399), (400, "x" * 401)):
            with self.assertRaises(BadSize):
                undone(Change(size, []), old)

    def test_what_was_done_and_undone_is_as_it_was(self):
        for size in range(4):
            for made in small_changes(size, 3, "a~"):
                cells = made.cells()
                for old in texts_of(size, "ab"):
                    told = undone(made, old)
                    self.assertEqual(told.size, made.new_size())
                    self.assertEqual(told.done(made.done(old)), old)
                    self.assertEqual(joints(told.rows), [])
                    wanted = [cells.index(at) if at in cells else old[at] for at in range(size)]
                    self.assertEqual(told.cells(), wanted)


class Writing(unittest.TestCase):
    """Of point 22 how a change is written."""

    def test_no_rows(self):
        self.assertEqual(str(Change(0, [])), "size 0")
        self.assertEqual(str(Change(400, [])), "size 400")

    def test_some_rows(self):
        made = Change(12, [("copy", 0, 12), ("put", "a-b"), ("copy", 10, 2), ("put", "0")])
        self.assertEqual(str(made), "size 12\ncopy 0 12\nput a-b\ncopy 10 2\nput 0")
        self.assertEqual(str(Change(0, [("put", ALL_SIGNS)])), "size 0\nput " + ALL_SIGNS)
        self.assertEqual(str(Change(1, [("put", "x" * 400)])), "size 1\nput " + "x" * 400)

    def test_rows_are_written_as_they_stand(self):
        made = Change(2, [("copy", 0, 1), ("copy", 1, 1), ("put", "a"), ("put", "b")])
        self.assertEqual(str(made), "size 2\ncopy 0 1\ncopy 1 1\nput a\nput b")


if __name__ == "__main__":
    unittest.main()
