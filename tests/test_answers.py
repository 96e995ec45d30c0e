"""Point 23 of the document, with 2 and 3 for what it tells."""

import inspect
import unittest

from remadehere import answers
from remadehere.answers import answer
from remadehere.changes import Change
from remadehere.cuts import Runner, fewest_marks, mark_fault, writes
from remadehere.errors import BadRow, BadSize, NoSpare, NoText
from remadehere.plans import plan_fault, planned
from remadehere.texts import change_text, read_plan
from walking import ALL_SIGNS, blocks_change, cells_change, cells_of, some_texts

SWAP = "size 2\ncopy 1 1\ncopy 0 1"


class Told(unittest.TestCase):
    def check_told(self, old, made, spare):
        """That the answer has a plan that is let by, fewest marks of it and the new text, and nothing else."""
        told = answer(old, change_text(made), spare)
        *rows, marks, new = told.split("\n")
        plan = read_plan("\n".join(rows))
        self.assertIsNone(plan_fault(made, plan, spare))
        word, *numbers = marks.split(" ")
        self.assertEqual(word, "marks")
        some = writes(plan)
        numbers = [int(number) for number in numbers]
        self.assertEqual(marks, " ".join(["marks"] + [str(number) for number in numbers]))
        self.assertEqual(numbers, sorted(set(numbers)))
        self.assertTrue(all(0 < number < len(some) for number in numbers))
        self.assertIsNone(mark_fault(some, numbers))
        self.assertEqual(len(numbers), len(fewest_marks(some)[0]))
        self.assertEqual(len(plan), len(planned(made, spare)))
        self.assertEqual(new, "new " + made.done(old) if made.new_size() else "new")
        runner = Runner(old, plan, numbers, spare, made.new_size())
        while runner.step():
            pass
        self.assertEqual("".join(runner.room()[:made.new_size()]), made.done(old))

    def test_with_rows_marks_and_a_new_text(self):
        self.assertEqual(answer("ab", SWAP, 1), "keep 0 1 1\ncopy 1 0 1\nlay 0 0 1\nmarks 1 2\nnew ba")

    def test_without_marks(self):
        self.assertEqual(answer("abc", "size 3\nput xy"), "put 0 xy\nmarks\nnew xy")
        self.assertEqual(answer("", "size 0\nput x"), "put 0 x\nmarks\nnew x")
        self.assertEqual(answer("a", "size 1\nput x"), "put 0 x\nmarks\nnew x")

    def test_without_rows(self):
        self.assertEqual(answer("abc", "size 3\ncopy 0 3"), "marks\nnew abc")
        self.assertEqual(answer("abc", "size 3\ncopy 0 1"), "marks\nnew a")

    def test_without_a_new_text(self):
        self.assertEqual(answer("abc", "size 3"), "marks\nnew")
        self.assertEqual(answer("", "size 0"), "marks\nnew")

    def test_every_sign(self):
        self.assertEqual(answer("", "size 0\nput " + ALL_SIGNS), "put 0 " + ALL_SIGNS + "\nmarks\nnew " + ALL_SIGNS)
        self.assertEqual(answer(ALL_SIGNS, "size 93\ncopy 0 93"), "marks\nnew " + ALL_SIGNS)

    def test_small_changes(self):
        for size in range(4):
            for cells in cells_of(size, 3):
                for spare in (1, 2):
                    self.check_told("abc"[:size], cells_change(size, cells), spare)

    def test_blocks(self):
        for spare in (1, 2, 3, 400):
            self.check_told("abcdef", blocks_change((1, 2, 3), (2, 1, 0)), spare)
            self.check_told("abcdef", Change(6, [("copy", 2, 4), ("put", "--"), ("copy", 0, 4)]), spare)

    def test_the_longest(self):
        for made in (Change(400, [("copy", 1, 399), ("copy", 0, 1)]), cells_change(400, list(range(400))[::-1]),
                     Change(399, [("put", "x"), ("copy", 0, 399)]), Change(400, [("put", "x" * 400)])):
            for spare in (1, 400):
                self.check_told(some_texts(made.size)[1], made, spare)

    def test_the_default_spare_is_none(self):
        with self.assertRaises(NoSpare) as caught:
            answer("ab", SWAP)
        self.assertEqual(caught.exception.need, 1)
        with self.assertRaises(NoSpare):
            answer("ab", SWAP, 0)
        told = answer("abc", "size 3\ncopy 1 1\ncopy 0 1\nput x")
        self.assertEqual(told, answer("abc", "size 3\ncopy 1 1\ncopy 0 1\nput x", 0))
        self.check_told("abc", Change(3, [("copy", 1, 1), ("copy", 0, 1), ("put", "x")]), 0)

    def test_arguments_by_name(self):
        self.assertEqual(answer(spare=1, text=SWAP, old="ab"), answer("ab", SWAP, 1))

    def test_the_interface(self):
        self.assertTrue(inspect.isfunction(vars(answers)["answer"]))
        told = inspect.signature(answer).parameters
        self.assertEqual(list(told), ["old", "text", "spare"])
        self.assertEqual(told["spare"].default, 0)


class Refusals(unittest.TestCase):
    def check(self, error, old, text, spare=0):
        with self.assertRaises(error) as caught:
            answer(old, text, spare)
        return caught.exception

    def test_no_text(self):
        for text in ("", "size 2\n", SWAP + "\n", "size 02", "put 0 a", "size 2\nkeep 0 0 1"):
            self.check(NoText, "ab", text)

    def test_bad_size(self):
        self.check(BadSize, "ab", "size 401")
        self.check(BadSize, "ab", "size -1")
        for old in ("", "a", "abc", "x" * 400):
            self.check(BadSize, old, "size 2")
            self.check(BadSize, old, SWAP, 1)

    def test_bad_row(self):
        self.assertEqual(self.check(BadRow, "ab", "size 2\ncopy 0 3").row, 0)
        self.assertEqual(self.check(BadRow, "ab", SWAP + "\ncopy 2 1").row, 2)

    def test_no_spare(self):
        self.assertEqual(self.check(NoSpare, "ab", SWAP).need, 1)
        self.assertEqual(self.check(NoSpare, "abcd", "size 4\ncopy 2 2\ncopy 0 2").need, 1)

    def test_their_order(self):
        # Not so written, of a size that is none, with a row that is none.
        self.check(NoText, "abc", "size 401\ncopy 0 0\nput")
        # Of a size that is none, with a row that is none, an old text of another size.
        self.check(BadSize, "abc", "size 401\ncopy 0 0")
        # With a row that is none, an old text of another size, a ring.
        self.assertEqual(self.check(BadRow, "abc", SWAP + "\ncopy 0 9").row, 2)
        # An old text of another size, a ring.
        self.check(BadSize, "abc", SWAP)
        self.check(NoSpare, "ab", SWAP)


if __name__ == "__main__":
    unittest.main()
