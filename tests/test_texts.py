"""Point 22 of the document, with 2 for what is handed in."""

import inspect
import unittest

from remadehere import texts
from remadehere.changes import Change
from remadehere.errors import BadRow, BadSize, NoText
from remadehere.plans import planned
from remadehere.texts import change_text, plan_text, read_change, read_plan
from walking import ALL_SIGNS, cells_change, cells_of

SIXTY = "9" * 60

# Writings of a number that are none.
NO_NUMBERS = (
    "", "-", "--1", "+1", "00", "01", "-0", "-00", "-01", "007", "1-", "1.0", "1_0", "a", "0x1", "1e3", "!", "1,0",
    "9" * 61, "-" + "9" * 61, "1" + "0" * 60, "0" * 60, "0" * 400, "7" * 400, "-" + "7" * 400,
)
NUMBERS = ("0", "1", "-1", "9", "10", "100", "-10", "399", "400", "401", SIXTY, "-" + SIXTY, "1" + "0" * 59)


class Writing(unittest.TestCase):
    def test_changes(self):
        for change, text in (
            (Change(0, []), "size 0"),
            (Change(400, []), "size 400"),
            (Change(12, [("copy", 0, 12), ("put", "a-b"), ("copy", 10, 2)]), "size 12\ncopy 0 12\nput a-b\ncopy 10 2"),
            (Change(2, [("put", "a"), ("put", "b"), ("copy", 0, 1), ("copy", 1, 1)]),
             "size 2\nput a\nput b\ncopy 0 1\ncopy 1 1"),
            (Change(0, [("put", ALL_SIGNS)]), "size 0\nput " + ALL_SIGNS),
        ):
            self.assertEqual(change_text(change), text)
            self.assertEqual(str(change), text)
            self.assertEqual(read_change(text), change)

    def test_plans(self):
        for plan, text in (
            ([], ""),
            ([("keep", 0, 3, 2)], "keep 0 3 2"),
            ([("lay", 7, 0, 2)], "lay 7 0 2"),
            ([("copy", 10, 0, 12)], "copy 10 0 12"),
            ([("put", 3, "x-1")], "put 3 x-1"),
            ([("put", 3, "12"), ("keep", 1, 2, 3), ("lay", 4, 5, 6), ("copy", 7, 8, 9), ("put", 0, "copy")],
             "put 3 12\nkeep 1 2 3\nlay 4 5 6\ncopy 7 8 9\nput 0 copy"),
            ([("copy", -1, -10 ** 59, 10 ** 60 - 1), ("put", 10 ** 60 - 1, ALL_SIGNS)],
             "copy -1 -1" + "0" * 59 + " " + SIXTY + "\nput " + SIXTY + " " + ALL_SIGNS),
        ):
            self.assertEqual(plan_text(plan), text)
            self.assertEqual(read_plan(text), plan)

    def test_changes_written_and_read_back(self):
        for size in range(4):
            for cells in cells_of(size, 3):
                made = cells_change(size, cells)
                told = read_change(change_text(made))
                self.assertEqual((told.size, told.rows), (made.size, made.rows))
                self.assertIsInstance(told, Change)

    def test_plans_written_and_read_back(self):
        for cells in cells_of(4, 4):
            plan = planned(cells_change(4, cells), 1)
            self.assertEqual(read_plan(plan_text(plan)), plan)

    def test_the_longest(self):
        made = Change(400, [("copy", 399 - place, 1) for place in range(400)])
        self.assertEqual(read_change(change_text(made)), made)
        made = Change(400, [("put", "x" * 400)])
        self.assertEqual(read_change(change_text(made)), made)
        plan = [("keep", 399, 0, 1), ("lay", 0, 399, 1)] * 500
        self.assertEqual(read_plan(plan_text(plan)), plan)
        plan = [("put", number, "x" * 40) for number in range(1000)]
        self.assertEqual(read_plan(plan_text(plan)), plan)

    def test_what_is_handed_in_stays(self):
        plan = [("keep", 0, 1, 1), ("put", 0, "x")]
        plan_text(plan)
        self.assertEqual(plan, [("keep", 0, 1, 1), ("put", 0, "x")])
        made = Change(1, [("copy", 0, 1)])
        change_text(made)
        self.assertEqual(made, Change(1, [("copy", 0, 1)]))

    def test_arguments_by_name(self):
        self.assertEqual(change_text(change=Change(1, [])), "size 1")
        self.assertEqual(plan_text(plan=[("put", 0, "x")]), "put 0 x")
        self.assertEqual(read_change(text="size 1"), Change(1, []))
        self.assertEqual(read_plan(text="put 0 x"), [("put", 0, "x")])

    def test_the_interface(self):
        for name in ("change_text", "plan_text", "read_change", "read_plan"):
            self.assertTrue(inspect.isfunction(vars(texts)[name]))


class Reading(unittest.TestCase):
    def check_no_change(self, *writings):
        for text in writings:
            with self.assertRaises(NoText, msg=text):
                read_change(text)

    def check_no_plan(self, *writings):
        for text in writings:
            with self.assertRaises(NoText, msg=text):
                read_plan(text)

    def test_kinds_of_what_is_read(self):
        told = read_change("size 3\ncopy 0 3\nput 12")
        self.assertEqual(told.rows, [("copy", 0, 3), ("put", "12")])
        self.assertIs(type(told.size), int)
        told = read_plan("put 1 2\ncopy 0 1 1")
        self.assertIsInstance(told, list)
        self.assertEqual(told, [("put", 1, "2"), ("copy", 0, 1, 1)])
        for row in told:
            self.assertIsInstance(row, tuple)
        told.clear()
        self.assertEqual(read_plan("put 1 2"), [("put", 1, "2")])
        self.assertIsNot(read_plan(""), read_plan(""))

    def test_a_change_without_its_size(self):
        self.check_no_change("", "\n", " ", "copy 0 1", "put a", "size", "size ", "3", "copy 0 1\nsize 3", "\nsize 3")

    def test_the_size_stands_once_and_first(self):
        self.check_no_change("size 3\nsize 3", "size 3\ncopy 0 3\nsize 3", "size 3 3", "size 3 copy 0 3")

    def test_blanks(self):
        self.check_no_change(
            " size 3", "size  3", "size 3 ", "size3", "size 3\n copy 0 3", "size 3\ncopy  0 3", "size 3\ncopy 0  3",
            "size 3\ncopy 0 3 ", "size 3\ncopy0 3", "size 3\nput  a", "size 3\nput a ", "size 3\nput a b",
            "size 3\n put a", "size 3 \nput a", "size 3\nput ", "size 3\nput  ", "size 3\n ", "size\n3",
        )
        self.check_no_plan(
            " ", "  ", " put 0 a", "put  0 a", "put 0  a", "put 0 a ", "put 0 a b", "put0 a", "put 0 ", "put 0  ",
            " keep 0 0 1", "keep  0 0 1", "keep 0  0 1", "keep 0 0  1", "keep 0 0 1 ", "copy 0 1 1\n ", " \ncopy 0 1 1",
        )

    def test_line_feeds(self):
        self.check_no_change(
            "size 3\n", "size 3\n\n", "size 3\n\nput a", "size 3\nput a\n", "\nsize 3", "size\n3", "size 3\nput\na",
            "size 3\ncopy 0\n3", "size 3\nput a\n\nput b",
        )
        self.check_no_plan(
            "\n", "\n\n", "put 0 a\n", "\nput 0 a", "put 0 a\n\nput 1 b", "put\n0 a", "put 0\na", "copy 0 1\n1",
        )

    def test_words(self):
        self.check_no_change(
            "Size 3", "SIZE 3", "siz 3", "sizes 3", "size 3\nCopy 0 3", "size 3\nkeep 0 0 1", "size 3\nlay 0 0 1",
            "size 3\nputs a", "size 3\nPUT a", "size 3\nmove 0 1", "size 3\n0 1", "size 3\ncopy", "size 3\nput",
            "size 3\nsize", "size 3\nmarks", "size 3\nnew a",
        )
        self.check_no_plan(
            "size 3", "Keep 0 0 1", "KEEP 0 0 1", "keeps 0 0 1", "move 0 1 1", "0 1 1", "keep", "copy", "put", "lay",
            "marks", "marks 1", "new a", "put 0 a\nmarks 1", "a",
        )

    def test_too_many_and_too_few(self):
        self.check_no_change(
            "size 3\ncopy 0", "size 3\ncopy 0 1 1", "size 3\ncopy 0 1 1 1", "size 3\nput 0 a", "size 3\nput a 1"
        )
        for word in ("keep", "copy", "lay"):
            self.check_no_plan(f"{word} 0", f"{word} 0 1", f"{word} 0 1 1 1", f"{word} 0 1 1 a")
        self.check_no_plan("put a", "put 0", "put 0 a 1", "put 0 1 a")

    def test_numbers(self):
        for word in NUMBERS:
            number = int(word)
            self.assertEqual(read_plan(f"copy {word} 0 1"), [("copy", number, 0, 1)])
            self.assertEqual(read_plan(f"keep 0 {word} 1"), [("keep", 0, number, 1)])
            self.assertEqual(read_plan(f"lay 0 0 {word}"), [("lay", 0, 0, number)])
            self.assertEqual(read_plan(f"put {word} {word}"), [("put", number, word)])

    def test_what_is_no_number(self):
        for word in NO_NUMBERS:
            self.check_no_change(f"size {word}", f"size 3\ncopy {word} 1", f"size 3\ncopy 0 {word}")
            self.check_no_plan(f"put {word} a")
            for row in ("keep", "copy", "lay"):
                self.check_no_plan(f"{row} {word} 1 1", f"{row} 1 {word} 1", f"{row} 0 1 {word}")

    def test_sixty_and_sixty_one_figures(self):
        self.assertEqual(read_plan("put " + SIXTY + " a"), [("put", int(SIXTY), "a")])
        self.assertEqual(read_plan("put -" + SIXTY + " a"), [("put", -int(SIXTY), "a")])
        self.check_no_plan("put 9" + SIXTY + " a", "put -9" + SIXTY + " a")
        with self.assertRaises(BadSize):
            read_change("size " + SIXTY)
        with self.assertRaises(BadSize):
            read_change("size -" + SIXTY)
        self.check_no_change("size 9" + SIXTY, "size -9" + SIXTY)
        with self.assertRaises(BadRow):
            read_change("size 3\ncopy " + SIXTY + " 1")
        self.check_no_change("size 3\ncopy 9" + SIXTY + " 1")

    def test_signs(self):
        for sign in ALL_SIGNS:
            self.assertEqual(read_change("size 0\nput " + sign), Change(0, [("put", sign)]))
            self.assertEqual(read_plan("put 0 " + sign), [("put", 0, sign)])
        for word in ("size", "copy", "put", "-0", "007", "0" * 61, "#"):
            self.assertEqual(read_change("size 0\nput " + word), Change(0, [("put", word)]))
            self.assertEqual(read_plan("put 0 " + word), [("put", 0, word)])
        for sign in ("%", "\t", "\x7f", "\r", "\u00e9"):
            self.check_no_change("size 0\nput " + sign, "size 0\nput a" + sign + "b")
            self.check_no_plan("put 0 " + sign, "put 0 a" + sign + "b")

    def test_four_hundred_and_four_hundred_and_one_signs(self):
        self.assertEqual(read_change("size 0\nput " + "x" * 400), Change(0, [("put", "x" * 400)]))
        self.assertEqual(read_plan("put 0 " + "x" * 400), [("put", 0, "x" * 400)])
        for text in ("x" * 401, "x" * 1000, "x" * 40000):
            self.check_no_change("size 0\nput " + text)
            self.check_no_plan("put 0 " + text)

    def test_a_long_writing(self):
        told = read_plan("\n".join(["put 0 a"] * 6000))
        self.assertEqual(told, [("put", 0, "a")] * 6000)
        self.check_no_plan("\n".join(["put 0 a"] * 6000) + "\n", " " * 50000, "\n" * 50000)
        self.check_no_change("size 0" + "\n" * 49000, "a " * 25000)
        with self.assertRaises(BadRow) as caught:
            read_change("size 1\n" + "\n".join(["put a"] * 8000))
        self.assertEqual(caught.exception.row, 400)

    def test_any_plan_is_read(self):
        text = "lay 0 7 1\ncopy 3 3 0\nkeep -1 -2 -3\nput -4 x"
        self.assertEqual(read_plan(text), [
            ("lay", 0, 7, 1), ("copy", 3, 3, 0), ("keep", -1, -2, -3), ("put", -4, "x")
        ])


class Refusals(unittest.TestCase):
    def check_row(self, text, row):
        with self.assertRaises(BadRow) as caught:
            read_change(text)
        self.assertEqual(caught.exception.row, row)

    def test_a_size_that_is_none(self):
        for size in ("-1", "401", "-400", "1000", SIXTY, "-" + SIXTY):
            with self.assertRaises(BadSize):
                read_change("size " + size)
            with self.assertRaises(BadSize):
                read_change("size " + size + "\nput a")
        self.assertEqual(read_change("size 400").size, 400)
        self.assertEqual(read_change("size 0").size, 0)

    def test_a_row_that_is_none(self):
        self.check_row("size 3\ncopy 0 4", 0)
        self.check_row("size 3\ncopy 0 3\ncopy 3 1", 1)
        self.check_row("size 3\ncopy 0 3\nput a\ncopy -1 1\ncopy 0 0", 2)
        self.check_row("size 3\ncopy 0 0", 0)
        self.check_row("size 3\ncopy 0 -1", 0)
        self.check_row("size 3\ncopy " + SIXTY + " " + SIXTY, 0)
        self.check_row("size 0\ncopy 0 1", 0)
        self.check_row("size 3\nput " + "x" * 400 + "\nput y", 1)
        self.check_row("size 3\nput " + "x" * 397 + "\ncopy 0 3\nput y", 2)

    def test_no_text_goes_ahead_of_a_bad_size_and_a_bad_row(self):
        for text in ("size 401\nput", "size -1\ncopy 0 01", "size 401\n", "size 3\ncopy 0 4\nput", "size 3\ncopy 0 4\n",
                     "size 500\ncopy 9 9\nput " + "x" * 401, "size 3\ncopy -1 0\ncopy -0 1"):
            with self.assertRaises(NoText):
                read_change(text)

    def test_a_bad_size_goes_ahead_of_a_bad_row(self):
        for text in ("size 401\ncopy 0 0", "size -1\ncopy 0 1", "size 401\ncopy -1 9\nput a"):
            with self.assertRaises(BadSize):
                read_change(text)


if __name__ == "__main__":
    unittest.main()
