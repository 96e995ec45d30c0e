"""Points 17, 18 and 19 of the document, with 2 and 3 for what they tell."""

import copy
import inspect
import unittest
from itertools import combinations, product

from remadehere import cuts
from remadehere.changes import Change
from remadehere.cuts import Runner, fewest_marks, mark_fault, writes
from remadehere.plans import plan_fault, planned
from remadehere.singles import single_plan
from walking import BIG, Fault, blocks_change, cells_change, cells_of, some_texts, texts_of, walk

SWAP = Change(2, [("copy", 1, 1), ("copy", 0, 1)])
SWAP_PLAN = [("keep", 0, 1, 1), ("copy", 1, 0, 1), ("lay", 0, 0, 1)]


def do_writes(old, size, told):
    """The room as the writes leave it, one behind the other."""
    held = {("cell", number): sign for number, sign in enumerate(old)}
    for where, number, source, what in told:
        held[where, number] = what if source == "sign" else held.get((source, what))
    return [held.get(("cell", number)) for number in range(size)]


def clashes(some):
    """All pairs (i, j) where j writes what i, ahead of it, reads."""
    return [
        (i, j) for j in range(len(some)) for i in range(j)
        if some[i][2] != "sign" and (some[i][2], some[i][3]) == (some[j][0], some[j][1])
    ]


def parts(mark, pair):
    return pair[0] < mark <= pair[1]


def wanted_fault(some, marks):
    """The fault by the words of the document: the least j, and the least i for it."""
    left = [pair for pair in clashes(some) if not any(parts(mark, pair) for mark in marks)]
    return min(left, key=lambda pair: (pair[1], pair[0])) if left else None


def all_marks(many):
    """Every list of marks for so many writes, the shorter ones first."""
    return [list(marks) for size in range(many) for marks in combinations(range(1, many), size)] or [[]]


def cell_writes(*rows):
    return [("cell", to, "cell", at) for to, at in rows]


class Writes(unittest.TestCase):
    """Point 17."""

    def test_no_rows(self):
        self.assertEqual(writes([]), [])

    def test_rows_of_no_signs(self):
        self.assertEqual(writes([("put", 3, ""), ("copy", 1, 2, 0), ("keep", 0, 0, 0), ("lay", 0, 0, 0)]), [])

    def test_rows_of_one_sign(self):
        self.assertEqual(writes([("put", 3, "x")]), [("cell", 3, "sign", "x")])
        self.assertEqual(writes([("copy", 1, 2, 1)]), [("cell", 1, "cell", 2)])
        self.assertEqual(writes([("copy", 2, 1, 1)]), [("cell", 2, "cell", 1)])
        self.assertEqual(writes([("keep", 4, 7, 1)]), [("slot", 4, "cell", 7)])
        self.assertEqual(writes([("lay", 4, 7, 1)]), [("cell", 4, "slot", 7)])

    def test_a_put_rises(self):
        self.assertEqual(writes([("put", 5, "ba7")]), [
            ("cell", 5, "sign", "b"), ("cell", 6, "sign", "a"), ("cell", 7, "sign", "7")
        ])

    def test_a_keep_and_a_lay_rise_wherever_they_go(self):
        for to, at in ((0, 5), (5, 0), (3, 3), (2, 3), (3, 2)):
            self.assertEqual(writes([("keep", to, at, 3)]), [("slot", to + k, "cell", at + k) for k in range(3)])
            self.assertEqual(writes([("lay", to, at, 3)]), [("cell", to + k, "slot", at + k) for k in range(3)])

    def test_a_copy_to_a_lesser_place_rises(self):
        self.assertEqual(writes([("copy", 0, 1, 3)]), cell_writes((0, 1), (1, 2), (2, 3)))
        self.assertEqual(writes([("copy", 0, 3, 3)]), cell_writes((0, 3), (1, 4), (2, 5)))
        self.assertEqual(writes([("copy", 0, 9, 3)]), cell_writes((0, 9), (1, 10), (2, 11)))

    def test_a_copy_to_a_greater_place_falls(self):
        self.assertEqual(writes([("copy", 1, 0, 3)]), cell_writes((3, 2), (2, 1), (1, 0)))
        self.assertEqual(writes([("copy", 3, 0, 3)]), cell_writes((5, 2), (4, 1), (3, 0)))
        self.assertEqual(writes([("copy", 9, 0, 3)]), cell_writes((11, 2), (10, 1), (9, 0)))

    def test_rows_go_one_behind_the_other(self):
        plan = [("keep", 0, 3, 2), ("copy", 2, 0, 3), ("lay", 0, 0, 2), ("put", 4, "xy"), ("copy", 0, 1, 2)]
        self.assertEqual(writes(plan), [
            ("slot", 0, "cell", 3), ("slot", 1, "cell", 4),
            ("cell", 4, "cell", 2), ("cell", 3, "cell", 1), ("cell", 2, "cell", 0),
            ("cell", 0, "slot", 0), ("cell", 1, "slot", 1),
            ("cell", 4, "sign", "x"), ("cell", 5, "sign", "y"),
            ("cell", 0, "cell", 1), ("cell", 1, "cell", 2),
        ])

    def test_a_plan_of_a_thousand_rows(self):
        told = writes([("keep", 0, 0, 400), ("lay", 0, 0, 400)] * 500)
        self.assertEqual(len(told), 400000)
        self.assertEqual(told[-1], ("cell", 399, "slot", 399))

    def test_they_do_what_the_rows_do(self):
        rows = [("copy", to, at, many) for to in range(4) for at in range(4) for many in (1, 2, 3) if to != at]
        rows += [("keep", slot, at, many) for slot in (0, 1) for at in range(4) for many in (1, 2)]
        rows += [("lay", to, slot, many) for to in range(4) for slot in (0, 1) for many in (1, 2)]
        rows += [("put", to, text) for to in range(4) for text in ("x", "yz")]
        seen = 0
        for plan in product(rows, repeat=2):
            try:
                wanted = walk("abcd", 4, plan, 3)
            except Fault:
                continue
            seen += 1
            self.assertEqual(do_writes("abcd", 4, writes(list(plan))), wanted)
        self.assertGreater(seen, 1000)

    def test_the_told_list_is_new_and_of_tuples(self):
        plan = list(SWAP_PLAN)
        told = writes(plan)
        self.assertIsInstance(told, list)
        for entry in told:
            self.assertIsInstance(entry, tuple)
        told.append("mine")
        self.assertEqual(writes(plan), [("slot", 0, "cell", 1), ("cell", 1, "cell", 0), ("cell", 0, "slot", 0)])
        self.assertEqual(plan, SWAP_PLAN)
        self.assertEqual(writes(plan=plan), writes(plan))


class MarkFault(unittest.TestCase):
    """Point 18: marks are judged."""

    def test_no_writes_and_no_marks(self):
        self.assertIsNone(mark_fault([], []))
        self.assertIsNone(mark_fault([("cell", 0, "cell", 0)], []))

    def test_a_write_that_writes_what_one_ahead_reads(self):
        some = cell_writes((0, 1), (1, 2))
        self.assertEqual(mark_fault(some, []), (0, 1))
        self.assertIsNone(mark_fault(some, [1]))

    def test_a_write_that_reads_what_one_ahead_writes_is_none(self):
        self.assertIsNone(mark_fault(cell_writes((1, 0), (2, 1), (3, 2)), []))

    def test_a_write_that_reads_what_it_writes_itself(self):
        self.assertIsNone(mark_fault(cell_writes((1, 1)), []))
        self.assertEqual(mark_fault(cell_writes((1, 1), (1, 1)), []), (0, 1))
        self.assertEqual(mark_fault(cell_writes((1, 0), (1, 1), (1, 2)), []), (1, 2))

    def test_cells_slots_and_signs_of_one_name_are_not_one(self):
        self.assertIsNone(mark_fault([("cell", 0, "slot", 1), ("cell", 1, "slot", 2)], []))
        self.assertIsNone(mark_fault([("slot", 0, "cell", 1), ("slot", 1, "cell", 2)], []))
        self.assertIsNone(mark_fault([("cell", 0, "sign", "1"), ("cell", 1, "sign", "2")], []))
        self.assertEqual(mark_fault([("cell", 0, "slot", 1), ("slot", 1, "sign", "a")], []), (0, 1))
        self.assertEqual(mark_fault([("slot", 0, "cell", 1), ("cell", 1, "sign", "a")], []), (0, 1))

    def test_the_first_of_several(self):
        some = cell_writes((9, 1), (8, 2), (7, 1), (2, 6), (1, 6), (9, 7), (6, 5))
        self.assertEqual(mark_fault(some, []), (1, 3))
        self.assertEqual(mark_fault(some, [2]), (2, 4))
        self.assertEqual(mark_fault(some, [3]), (3, 6))
        self.assertEqual(mark_fault(some, [4]), (1, 3))
        self.assertEqual(mark_fault(some, [2, 4]), (4, 6))
        self.assertEqual(mark_fault(some, [1, 6]), (1, 3))
        self.assertIsNone(mark_fault(some, [3, 6]))
        self.assertIsNone(mark_fault(some, [3, 5]))
        # The least j, and for it the least i.
        some = cell_writes((9, 1), (8, 1), (1, 0), (1, 0))
        self.assertEqual(mark_fault(some, []), (0, 2))
        self.assertEqual(mark_fault(some, [1]), (1, 2))
        self.assertIsNone(mark_fault(some, [2]))

    def test_where_a_mark_parts(self):
        some = cell_writes((9, 1), (8, 0), (7, 0), (1, 0))
        for marks in ([1], [2], [3], [1, 2, 3]):
            self.assertIsNone(mark_fault(some, marks))
        some = cell_writes((9, 8), (9, 1), (1, 0), (9, 8))
        self.assertEqual(mark_fault(some, [1]), (1, 2))
        self.assertIsNone(mark_fault(some, [2]))
        self.assertEqual(mark_fault(some, [3]), (1, 2))

    def test_any_numbers(self):
        some = [("cell", -1, "cell", BIG), ("slot", BIG, "slot", -BIG), ("cell", BIG, "sign", "a")]
        self.assertEqual(mark_fault(some, []), (0, 2))
        self.assertIsNone(mark_fault(some, [1]))
        some = [("cell", 0, "slot", -1), ("slot", -2, "slot", -2), ("slot", -1, "cell", -1), ("cell", -1, "slot", 7)]
        self.assertEqual(mark_fault(some, []), (0, 2))
        self.assertEqual(mark_fault(some, [2]), (2, 3))
        self.assertIsNone(mark_fault(some, [2, 3]))

    def test_against_the_words_of_the_document(self):
        entries = [("cell", 0, "cell", 1), ("cell", 1, "cell", 0), ("cell", 1, "slot", 0), ("slot", 0, "cell", 1),
                   ("cell", 0, "sign", "a"), ("slot", 0, "slot", 0)]
        for many in range(5):
            for some in product(entries, repeat=many):
                for marks in all_marks(many):
                    self.assertEqual(mark_fault(list(some), marks), wanted_fault(some, marks))

    def test_two_thousand_writes_and_marks(self):
        some = cell_writes(*[(place, place + 1) for place in range(2000)])
        self.assertEqual(mark_fault(some, []), (0, 1))
        self.assertIsNone(mark_fault(some, list(range(1, 2000))))
        self.assertEqual(mark_fault(some, list(range(1, 1999))), (1998, 1999))
        self.assertEqual(mark_fault(some, [mark for mark in range(1, 2000) if mark != 1000]), (999, 1000))

    def test_what_is_handed_in_stays(self):
        some, marks = cell_writes((0, 1), (1, 2), (2, 3)), [1]
        self.assertEqual(mark_fault(marks=marks, some=some), (1, 2))
        self.assertIsInstance(mark_fault(some, marks), tuple)
        self.assertEqual((some, marks), (cell_writes((0, 1), (1, 2), (2, 3)), [1]))


class FewestMarks(unittest.TestCase):
    """Point 18: the fewest marks, and the pairs that call for as many."""

    def check_told(self, some):
        """That the marks have no fault and that the pairs call for as many; how many there are."""
        marks, pairs = fewest_marks(some)
        self.assertIsNone(mark_fault(some, marks))
        self.assertEqual(marks, sorted(set(marks)))
        self.assertTrue(all(0 < mark < len(some) for mark in marks))
        self.assertEqual(len(pairs), len(marks))
        for i, j in pairs:
            self.assertLess(i, j)
            self.assertNotEqual(some[i][2], "sign")
            self.assertEqual(some[i][2:], some[j][:2])
        # One mark could part two pairs where the greater i is below the lesser j.
        for one, two in combinations(pairs, 2):
            self.assertGreaterEqual(max(one[0], two[0]), min(one[1], two[1]))
        return len(marks)

    def test_none(self):
        self.assertEqual(fewest_marks([]), ([], []))
        self.assertEqual(fewest_marks(cell_writes((1, 1))), ([], []))
        self.assertEqual(fewest_marks(cell_writes((1, 0), (2, 1), (3, 2))), ([], []))
        self.assertEqual(fewest_marks([("cell", 0, "sign", "0"), ("cell", 0, "sign", "0")]), ([], []))

    def test_some(self):
        for many, some in (
            (1, cell_writes((0, 1), (1, 2))),
            (1, cell_writes((9, 1), (8, 2), (2, 0), (1, 0))),
            (2, cell_writes((0, 1), (1, 2), (2, 3))),
            (2, writes(SWAP_PLAN)),
            (1, cell_writes((1, 1), (1, 1))),
            (3, cell_writes((1, 1), (1, 1), (1, 1), (1, 1))),
            (1, [("cell", -1, "cell", BIG), ("slot", BIG, "slot", -BIG), ("cell", BIG, "sign", "a")]),
        ):
            self.assertEqual(self.check_told(some), many)

    def test_against_all_lists_of_marks(self):
        entries = [("cell", 0, "cell", 1), ("cell", 1, "cell", 0), ("cell", 1, "slot", 0), ("slot", 0, "cell", 1),
                   ("cell", 0, "sign", "a"), ("slot", 0, "slot", 0)]
        for many in range(6):
            for some in product(entries, repeat=many):
                some = list(some)
                fewest = [marks for marks in all_marks(many) if wanted_fault(some, marks) is None][0]
                self.assertEqual(self.check_told(some), len(fewest))

    def test_longer_ones_against_all_lists_of_marks(self):
        entries = cell_writes((0, 1), (1, 2), (2, 0))
        for some in product(entries, repeat=7):
            some = list(some)
            fewest = [marks for marks in all_marks(7) if mark_fault(some, marks) is None][0]
            self.assertEqual(self.check_told(some), len(fewest))

    def test_of_told_plans(self):
        for cells in cells_of(3, 4):
            made = cells_change(3, cells)
            for plan in (planned(made, 1), single_plan(made, 1)):
                self.check_told(writes(plan))

    def test_two_thousand_writes(self):
        self.assertEqual(self.check_told(cell_writes(*[(place, place + 1) for place in range(300)])), 299)
        some = cell_writes(*[(place, place + 1) for place in range(2000)])
        marks, pairs = fewest_marks(some)
        self.assertEqual(marks, list(range(1, 2000)))
        self.assertEqual(pairs, [(mark - 1, mark) for mark in marks])
        self.assertEqual(fewest_marks(some[::-1]), ([], []))

    def test_told_lists_are_the_askers_own(self):
        some = cell_writes((0, 1), (1, 2))
        told = fewest_marks(some=some)
        self.assertIsInstance(told, tuple)
        for one in told:
            self.assertIsInstance(one, list)
        self.assertIsInstance(told[1][0], tuple)
        told[0].append(7)
        told[1].append((7, 8))
        self.assertEqual(self.check_told(some), 1)
        self.assertEqual(some, cell_writes((0, 1), (1, 2)))
        marks, pairs = fewest_marks([])
        self.assertIsNot(marks, pairs)
        self.assertIsNot(fewest_marks([])[0], marks)


class Model:
    """A runner by the words of the document."""

    def __init__(self, old, plan, marks, size):
        self.cells = {("cell", number): sign for number, sign in enumerate(old)}
        self.told, self.marks, self.size = writes(plan), list(marks), size
        self.safe = self.count = 0

    def step(self):
        if self.count in self.marks and self.count > self.safe:
            self.safe = self.count
            return True
        if self.count == len(self.told):
            return False
        where, number, source, what = self.told[self.count]
        self.cells[where, number] = what if source == "sign" else self.cells.get((source, what))
        self.count += 1
        return True

    def room(self):
        return [self.cells.get(("cell", number)) for number in range(self.size)]


def steps_of(runner):
    """How many steps do something, until one does nothing."""
    many = 0
    while runner.step():
        many += 1
    return many


class Running(unittest.TestCase):
    """Point 19."""

    def ready(self, change, spare, old):
        """A plan, fewest marks of it, and all that a runner of it is made of."""
        plan = planned(change, spare)
        marks = fewest_marks(writes(plan))[0]
        return plan, marks, (old, plan, marks, spare, change.new_size())

    def test_a_runner_never_cut(self):
        runner = Runner("ab", SWAP_PLAN, [1, 2], 1)
        self.assertEqual((runner.room(), runner.mark()), (["a", "b"], 0))
        for room, mark in ((["a", "b"], 0), (["a", "b"], 1), (["a", "a"], 1), (["a", "a"], 2), (["b", "a"], 2)):
            self.assertIs(runner.step(), True)
            self.assertEqual((runner.room(), runner.mark()), (room, mark))
        for _ in range(3):
            self.assertIs(runner.step(), False)
            self.assertEqual((runner.room(), runner.mark()), (["b", "a"], 2))

    def test_no_rows(self):
        for old, size, room in (("", 0, []), ("ab", 0, ["a", "b"]), ("ab", 3, ["a", "b", None])):
            runner = Runner(old, [], [], 0, size)
            self.assertIs(runner.step(), False)
            self.assertIsNone(runner.cut())
            self.assertIs(runner.step(), False)
            self.assertEqual((runner.room(), runner.mark()), (room, 0))

    def test_the_size_of_the_room(self):
        self.assertEqual(Runner("abc", [], []).room(), ["a", "b", "c"])
        self.assertEqual(Runner("abc", [], [], 5).room(), ["a", "b", "c"])
        for size in range(4):
            self.assertEqual(Runner("abc", [], [], 0, size).room(), ["a", "b", "c"])
        self.assertEqual(Runner("abc", [], [], 0, 5).room(), ["a", "b", "c", None, None])
        self.assertEqual(Runner("", [], [], 0, 400).room(), [None] * 400)
        self.assertEqual(Runner("a" * 400, [], [], 400).room(), ["a"] * 400)

    def test_cut_ahead_of_the_first_step(self):
        runner = Runner("ab", SWAP_PLAN, [1, 2], 1)
        self.assertIsNone(runner.cut())
        self.assertEqual((runner.room(), runner.mark()), (["a", "b"], 0))
        self.assertEqual(steps_of(runner), 5)
        self.assertEqual(runner.room(), ["b", "a"])

    def test_a_cut_loses_the_count_but_not_the_room(self):
        runner = Runner("abc", [("put", 0, "xyz")], [])
        runner.step(), runner.step()
        self.assertEqual(runner.room(), ["x", "y", "c"])
        runner.cut()
        self.assertEqual((runner.room(), runner.mark()), (["x", "y", "c"], 0))
        self.assertEqual(steps_of(runner), 3)
        self.assertEqual(runner.room(), ["x", "y", "z"])

    def test_a_cut_behind_a_mark_goes_back_to_it_only(self):
        runner = Runner("abc", [("put", 0, "xyz")], [2])
        for _ in range(3):
            self.assertTrue(runner.step())
        self.assertEqual((runner.room(), runner.mark()), (["x", "y", "c"], 2))
        runner.cut()
        self.assertEqual(steps_of(runner), 1)
        self.assertEqual(runner.mark(), 2)

    def test_a_cut_ahead_of_the_setting_of_a_mark_loses_it(self):
        runner = Runner("abc", [("put", 0, "xyz")], [2])
        runner.step(), runner.step()
        self.assertEqual(runner.mark(), 0)
        runner.cut()
        self.assertEqual(steps_of(runner), 4)
        self.assertEqual(runner.mark(), 2)

    def test_a_cut_at_the_end_goes_back_to_the_mark(self):
        runner = Runner("abc", [("put", 0, "xyz")], [1])
        self.assertEqual(steps_of(runner), 4)
        runner.cut()
        self.assertEqual(steps_of(runner), 2)
        runner.cut()
        runner.cut()
        self.assertEqual(steps_of(runner), 2)
        self.assertEqual((runner.room(), runner.mark()), (["x", "y", "z"], 1))

    def test_marks_that_are_more_than_needed_are_set_too(self):
        self.assertEqual(steps_of(Runner("abc", [("put", 0, "xyz")], [1, 2])), 5)
        self.assertEqual(steps_of(Runner("abc", [("put", 0, "xyz")], [])), 3)

    def test_what_slots_hold_is_safe(self):
        runner = Runner("abcde", [("keep", 0, 3, 2), ("copy", 2, 0, 3), ("lay", 0, 0, 2)], [2, 5], 2)
        for _ in range(7):
            self.assertTrue(runner.step())
        self.assertEqual((runner.room(), runner.mark()), (["a", "b", "a", "b", "c"], 5))
        runner.cut()
        self.assertEqual(steps_of(runner), 2)
        self.assertEqual(runner.room(), list("deabc"))

    def check_every_cut(self, made, spare, old):
        """One cut behind each number of steps, and two behind each two."""
        plan, marks, made_of = self.ready(made, spare, old)
        wanted = walk(old, made.new_size(), plan, spare)
        self.assertEqual(wanted[:made.new_size()], list(made.done(old)))
        whole = len(writes(plan)) + len(marks)
        for first in range(whole + 2):
            for second in range(whole + 2):
                runner = Runner(*made_of)
                for many in (first, second):
                    for _ in range(many):
                        runner.step()
                    runner.cut()
                self.assertLessEqual(steps_of(runner), whole)
                self.assertEqual(runner.room(), wanted)

    def test_cut_once_and_twice_behind_each_number_of_steps(self):
        for made in (
            SWAP, Change(3, [("put", "xy"), ("copy", 0, 3)]), Change(5, [("copy", 2, 3)]),
            Change(5, [("copy", 3, 2), ("copy", 0, 3)]), Change(4, [("copy", 1, 3), ("copy", 0, 2)]),
            Change(0, [("put", "abc")]), Change(3, []), cells_change(4, [3, 2, 1, 0]), cells_change(4, [1, 0, 3, "x"]),
        ):
            for spare in (1, 2, 3):
                self.check_every_cut(made, spare, "abcdefg"[:made.size])

    def check_all_ways(self, made, spare, old):
        """Steps and cuts in every order: wherever a step does nothing, the room is as the plan leaves it."""
        plan, _, made_of = self.ready(made, spare, old)
        wanted = walk(old, made.new_size(), plan, spare)
        seen, left = set(), [Runner(*made_of)]
        while left:
            runner = left.pop()
            state = repr(vars(runner))
            if state in seen:
                continue
            seen.add(state)
            stepped, cut = copy.deepcopy(runner), runner
            if stepped.step():
                left.append(stepped)
            else:
                self.assertEqual(stepped.room(), wanted)
            cut.cut()
            left.append(cut)

    def test_whatever_cuts_come(self):
        for cells in cells_of(3, 3):
            made = cells_change(3, cells)
            for old in ("abc", "aab"):
                self.check_all_ways(made, 1, old)
        for sizes, order in (((2, 3), (1, 0)), ((1, 2, 2), (2, 1, 0)), ((2, 1, 2), (1, 2, 0))):
            for spare in (1, 2, 5):
                self.check_all_ways(blocks_change(sizes, order), spare, "abcde")

    def test_step_for_step_by_the_words_of_the_document(self):
        made = Change(6, [("copy", 3, 3), ("put", "x"), ("copy", 0, 3)])
        for spare in (1, 3):
            plan, marks, made_of = self.ready(made, spare, "abcdef")
            for every in range(1, 12):
                runner, model = Runner(*made_of), Model("abcdef", plan, marks, 7)
                for number in range(120):
                    # The ways between two cuts grow, so that it comes to its end at last.
                    if number % (every + number // 12) == every - 1:
                        runner.cut()
                        model.count = model.safe
                    self.assertEqual(runner.step(), model.step())
                    self.assertEqual((runner.mark(), runner.room()), (model.safe, model.room()))

    def test_any_marks_without_a_fault_will_do(self):
        plan = planned(SWAP, 1)
        some = writes(plan)
        for marks in all_marks(len(some)):
            if mark_fault(some, marks) is None:
                for first in range(len(some) + len(marks) + 1):
                    runner = Runner("ab", plan, marks, 1)
                    for _ in range(first):
                        runner.step()
                    runner.cut()
                    steps_of(runner)
                    self.assertEqual(runner.room(), ["b", "a"])

    def test_the_longest(self):
        for made in (Change(400, [("copy", 200, 200), ("copy", 0, 200)]), cells_change(400, list(range(400))[::-1]),
                     Change(400, [("copy", 1, 399), ("put", "x")]), Change(399, [("put", "x"), ("copy", 0, 399)])):
            for spare in (1, 400):
                old = some_texts(made.size)[1]
                plan, marks, made_of = self.ready(made, spare, old)
                runner = Runner(*made_of)
                for many in (1, 5, 77, 399, 400):
                    for _ in range(many):
                        runner.step()
                    runner.cut()
                steps_of(runner)
                self.assertEqual("".join(runner.room()), made.done(old))

    def test_the_room_handed_out_is_the_askers_own(self):
        runner = Runner("abc", [("copy", 0, 1, 2)], [1])
        told = runner.room()
        self.assertIsInstance(told, list)
        told[1] = "z"
        told.append("more")
        self.assertEqual(runner.room(), ["a", "b", "c"])
        self.assertIsNot(runner.room(), runner.room())
        runner.step()
        self.assertEqual(told, ["a", "z", "c", "more"])
        steps_of(runner)
        self.assertEqual(runner.room(), ["b", "c", "c"])

    def test_what_is_handed_in_is_copied(self):
        plan, marks = list(SWAP_PLAN), [1, 2]
        runner = Runner("ab", plan, marks, 1)
        plan.clear()
        marks.clear()
        self.assertEqual(steps_of(runner), 5)
        self.assertEqual((runner.room(), runner.mark()), (["b", "a"], 2))
        plan, marks = list(SWAP_PLAN), [1, 2]
        steps_of(Runner("ab", plan, marks, 1))
        self.assertEqual((plan, marks), (SWAP_PLAN, [1, 2]))

    def test_runners_share_nothing(self):
        one, two = Runner("ab", SWAP_PLAN, [1, 2], 1), Runner("ab", SWAP_PLAN, [1, 2], 1)
        steps_of(one)
        self.assertEqual((two.room(), two.mark()), (["a", "b"], 0))
        self.assertEqual(steps_of(two), 5)

    def test_arguments_by_name(self):
        runner = Runner(size=4, spare=1, marks=[1, 2], plan=SWAP_PLAN, old="ab")
        steps_of(runner)
        self.assertEqual(runner.room(), ["b", "a", None, None])

    def test_the_interface(self):
        for name in ("writes", "mark_fault", "fewest_marks"):
            self.assertTrue(inspect.isfunction(vars(cuts)[name]))
        for name in ("__init__", "step", "cut", "mark", "room"):
            self.assertTrue(inspect.isfunction(vars(Runner)[name]))
        told = inspect.signature(Runner).parameters
        self.assertEqual(list(told), ["old", "plan", "marks", "spare", "size"])
        self.assertEqual((told["spare"].default, told["size"].default), (0, 0))


class Whole(unittest.TestCase):
    """Point 3: changes done by plans, for all small old texts, cut off ever later."""

    def test_every_small_change_of_every_small_text(self):
        for size in range(4):
            for cells in cells_of(size, 3):
                made = cells_change(size, cells)
                for spare in (1, 2):
                    plan = planned(made, spare)
                    self.assertIsNone(plan_fault(made, plan, spare))
                    marks = fewest_marks(writes(plan))[0]
                    for old in texts_of(size, "ab"):
                        runner = Runner(old, plan, marks, spare, 3)
                        for many in range(len(plan) + 2):
                            runner.cut()
                            for _ in range(many):
                                runner.step()
                        steps_of(runner)
                        self.assertEqual(runner.room()[:3], list(made.done(old)))


if __name__ == "__main__":
    unittest.main()
