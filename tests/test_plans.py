"""Points 15 and 16 of the document, with 2, 3 and 13 for what they tell."""

import inspect
import unittest
from itertools import permutations, product

from remadehere import plans
from remadehere.changes import Change
from remadehere.errors import NoSpare
from remadehere.moves import fewest_kept, moves_of, ordered
from remadehere.plans import plan_fault, planned
from remadehere.singles import pure_rings, single_plan
from walking import BIG, Fault, blocks_change, cells_change, cells_of, rows_end_right, some_texts, texts_of, walk

SWAP = Change(2, [("copy", 1, 1), ("copy", 0, 1)])


def changing(cells):
    return [place for place, cell in enumerate(cells) if cell != place]


def is_single(plan):
    return all(len(row[2]) == 1 if row[0] == "put" else row[3] == 1 for row in plan)


def all_change_is_in_pure_rings(made):
    """Whether the cells that change get just what they held among themselves, and none can be spared."""
    cells = made.cells()
    places = changing(cells)
    return made.size <= len(cells) and sorted(places, key=str) == sorted([cells[place] for place in places], key=str)


class Planned(unittest.TestCase):
    """Point 15."""

    def check_walked(self, made, plan, spare, olds):
        self.assertIsInstance(plan, list)
        self.assertIsNone(plan_fault(made, plan, spare))
        for old in olds:
            self.assertTrue(rows_end_right(made, plan, spare, old))

    def check_single(self, made, spare):
        """That the plan is a single one with fewest rows."""
        plan = planned(made, spare)
        self.assertTrue(is_single(plan))
        self.assertEqual(len(plan), len(changing(made.cells())) + pure_rings(made))
        self.check_walked(made, plan, spare, some_texts(made.size))

    def check_refused(self, made, *spare):
        with self.assertRaises(NoSpare) as caught:
            planned(made, *spare)
        self.assertEqual(caught.exception.need, 1)

    def test_nothing_to_be_done(self):
        for made in (Change(0, []), Change(4, []), Change(4, [("copy", 0, 4)]), Change(4, [("copy", 0, 3)])):
            for spare in (0, 1, 400):
                self.assertEqual(planned(made, spare), [])

    def test_by_an_order(self):
        made = Change(5, [("put", "xy"), ("copy", 0, 5)])
        for spare in (0, 7, 400):
            self.assertEqual(planned(made, spare), [("copy", 2, 0, 5), ("put", 0, "xy")])
        made = Change(6, [("copy", 1, 2), ("put", "!"), ("copy", 3, 1), ("copy", 2, 2)])
        self.assertEqual(planned(made), [("copy", 0, 1, 2), ("copy", 4, 2, 2), ("put", 2, "!")])

    def test_the_order_is_that_of_the_moves(self):
        # The put into cell 0 waits for the copy into cell 8, that one for the copy into cell 9.
        made = Change(9, [("put", "a"), ("copy", 8, 1), ("put", "b"), ("copy", 3, 5), ("copy", 0, 1), ("copy", 8, 1)])
        self.assertEqual(planned(made), [
            ("copy", 1, 8, 1), ("put", 2, "b"), ("copy", 9, 8, 1), ("copy", 8, 0, 1), ("put", 0, "a")
        ])

    def test_by_kept_copies(self):
        self.assertEqual(planned(SWAP, 1), [("keep", 0, 1, 1), ("copy", 1, 0, 1), ("lay", 0, 0, 1)])
        made = Change(9, [("copy", 5, 4), ("put", "x"), ("copy", 0, 3), ("put", "y")])
        self.assertEqual(planned(made, 3), [
            ("keep", 0, 0, 3), ("copy", 0, 5, 4), ("put", 4, "x"), ("put", 8, "y"), ("lay", 5, 0, 3)
        ])
        self.assertEqual(planned(made, 3), planned(made, 400))

    def test_several_kept_copies_use_slots_one_behind_the_other(self):
        made = blocks_change([2, 3, 4, 5, 1, 1], [1, 0, 3, 2, 5, 4])
        some = moves_of(made)
        self.assertEqual(fewest_kept(some), [1, 3, 4])
        self.assertEqual(planned(made, 7), [
            ("keep", 0, 0, 2), ("keep", 2, 5, 4), ("keep", 6, 15, 1),
            ("copy", 0, 2, 3), ("copy", 5, 9, 5), ("copy", 15, 14, 1),
            ("lay", 3, 0, 2), ("lay", 10, 2, 4), ("lay", 14, 6, 1),
        ])
        self.check_walked(made, planned(made, 7), 7, some_texts(16))

    def test_the_others_go_in_their_order(self):
        # Of the moves that are left the second one goes ahead of the first.
        made = Change(6, [("put", "x"), ("copy", 0, 1), ("copy", 5, 1), ("copy", 3, 1), ("copy", 4, 1), ("copy", 2, 1)])
        self.assertEqual(planned(made, 1), [
            ("keep", 0, 5, 1), ("copy", 1, 0, 1), ("put", 0, "x"), ("copy", 5, 2, 1), ("lay", 2, 0, 1)
        ])

    def test_just_as_many_slots_as_are_needed_and_one_fewer(self):
        for sizes, order, need in (
            ([3, 5], [1, 0], 3), ([5, 3], [1, 0], 3), ([2, 3, 4, 5, 1, 1], [1, 0, 3, 2, 5, 4], 7),
            ([100, 300], [1, 0], 100), ([200, 200], [1, 0], 200),
        ):
            made = blocks_change(sizes, order)
            some = moves_of(made)
            kept = fewest_kept(some)
            self.assertEqual(sum(some[number][3] for number in kept), need)
            plan = planned(made, need)
            self.assertEqual([row[0] for row in plan[:len(kept)]], ["keep"] * len(kept))
            self.assertEqual([row[0] for row in plan[-len(kept):]], ["lay"] * len(kept))
            self.assertEqual(len(plan), len(some) + len(kept))
            self.check_walked(made, plan, need, some_texts(made.size))
            self.check_single(made, need - 1)
            self.check_single(made, 1)
            self.check_refused(made, 0)

    def test_a_single_plan_without_any_slot(self):
        made = Change(7, [("copy", 3, 3), ("copy", 0, 3), ("put", "x")])
        self.check_single(made, 0)
        self.check_single(made, 2)
        self.assertEqual(planned(made, 3)[0], ("keep", 0, 3, 3))
        self.check_single(Change(7, [("copy", 3, 3), ("copy", 0, 3)]), 0)
        self.check_single(Change(6, [("copy", 3, 3), ("copy", 0, 3), ("copy", 5, 1)]), 0)

    def test_more_than_ten_copies(self):
        for many, single in ((9, False), (10, False), (11, True), (12, True), (20, True)):
            # Two blocks are swapped, so that there is a ring; the others are put down elsewhere.
            rows = [("copy", 2, 2), ("copy", 0, 2)] + [("copy", 30, 1)] * (many - 2)
            made = Change(40, rows)
            self.assertEqual(len(moves_of(made)), many)
            self.assertEqual(ordered(moves_of(made))[0], "ring")
            if single:
                self.check_single(made, 400)
            else:
                plan = planned(made, 2)
                self.assertEqual(plan[0], ("keep", 0, 2, 2))
                self.assertEqual(plan[-1], ("lay", 0, 0, 2))
                self.assertEqual(len(plan), many + 1)
                self.check_walked(made, plan, 2, some_texts(40))

    def test_puts_and_copies_that_lie_do_not_count_among_the_ten(self):
        rows = [("copy", 2, 2), ("copy", 0, 2)]
        rows += [("copy", at, 1) for at in range(4, 12)]
        rows += [("put", "x")] * 8
        rows += [("copy", 30, 1)] * 8
        made = Change(40, rows)
        self.assertEqual(planned(made, 2)[0], ("keep", 0, 2, 2))
        self.assertEqual(len(planned(made, 2)), 19)
        self.check_single(Change(40, rows + [("copy", 30, 1)]), 2)

    def test_more_than_ten_copies_with_an_order(self):
        made = Change(400, [("copy", at, 2) for at in range(2, 400, 2)])
        for spare in (0, 1, 400):
            self.assertEqual(planned(made, spare), [("copy", to, to + 2, 2) for to in range(0, 398, 2)])

    def test_rows_are_taken_as_they_stand(self):
        # In the plainest change these are one copy each, and two signs would be kept.
        made = Change(4, [("copy", 2, 1), ("copy", 3, 1), ("copy", 0, 1), ("copy", 1, 1)])
        self.assertEqual(planned(made, 2), [
            ("keep", 0, 2, 1), ("keep", 1, 3, 1), ("copy", 2, 0, 1), ("copy", 3, 1, 1),
            ("lay", 0, 0, 1), ("lay", 1, 1, 1),
        ])

    def test_refused(self):
        for made in (SWAP, blocks_change([3, 5], [1, 0]), cells_change(400, list(range(399, -1, -1)))):
            self.check_refused(made)
            self.check_refused(made, 0)
            self.check_walked(made, planned(made, 1), 1, some_texts(made.size))

    def test_every_small_change(self):
        for size, many in product(range(4), range(5)):
            for cells in cells_of(size, many, "a"):
                made = cells_change(size, cells)
                some = moves_of(made)
                kept = fewest_kept(some)
                need = sum(some[number][3] for number in kept)
                for spare in range(4):
                    if ordered(some)[0] == "order":
                        self.assertEqual(planned(made, spare), ordered(some)[1])
                    elif need <= spare:
                        plan = planned(made, spare)
                        self.assertEqual(len(plan), len(some) + len(kept))
                        self.assertEqual(plan[len(kept):-len(kept)], ordered(
                            [move for number, move in enumerate(some) if number not in kept]
                        )[1])
                    elif spare == 0 and all_change_is_in_pure_rings(made):
                        self.check_refused(made, spare)
                        continue
                    else:
                        self.check_single(made, spare)
                    self.check_walked(made, planned(made, spare), spare, texts_of(size, "ab"))

    def test_blocks_in_every_order(self):
        for sizes in ([1, 2, 3, 2], [3, 1, 1, 2], [4, 4, 4, 4]):
            for order in permutations(range(4)):
                made = blocks_change(sizes, order)
                for spare in range(1, 9):
                    self.check_walked(made, planned(made, spare), spare, some_texts(sum(sizes)))

    def test_the_interface(self):
        self.assertEqual(list(inspect.signature(planned).parameters), ["change", "spare"])
        self.assertEqual(inspect.signature(planned).parameters["spare"].default, 0)
        self.assertTrue(inspect.isfunction(vars(plans)["planned"]))

    def test_arguments_by_name(self):
        self.assertEqual(planned(spare=1, change=SWAP), planned(SWAP, 1))
        with self.assertRaises(NoSpare):
            planned(change=SWAP)

    def test_what_is_handed_in_stays_and_told_plans_are_the_askers_own(self):
        shifted, blocks = Change(3, [("put", "x"), ("copy", 0, 3)]), blocks_change([2, 2], [1, 0])
        for made, spare in ((SWAP, 1), (shifted, 0), (blocks, 1)):
            copied = Change(made.size, list(made.rows))
            told = planned(made, spare)
            wanted = list(told)
            told.clear()
            self.assertEqual(planned(made, spare), wanted)
            self.assertEqual(made, copied)


def wanted_fault(made, plan, spare):
    """The fault by the document's words, for all old texts of three signs, which part all that can be parted."""
    wrong = []
    for old in texts_of(made.size, "ab~"):
        new = made.done(old)
        try:
            room = walk(old, len(new), plan, spare)
        except Fault as fault:
            return ("row", fault.row)
        wrong += [place for place, sign in enumerate(new) if room[place] != sign]
    return ("cell", min(wrong)) if wrong else None


class Judged(unittest.TestCase):
    """Point 16."""

    def check_row_fault(self, made, good, bad, spare):
        """That the bad row is told at the head of good ones, among them and at their end, whatever comes later."""
        for number in range(len(good) + 1):
            plan = good[:number] + [bad] + good[number:]
            self.assertEqual(plan_fault(made, plan, spare), ("row", number))
            self.assertEqual(plan_fault(made, plan + [("put", 0, "")], spare), ("row", number))

    def test_no_fault(self):
        good = [("keep", 0, 1, 1), ("copy", 1, 0, 1), ("lay", 0, 0, 1)]
        self.assertIsNone(plan_fault(SWAP, good, 1))
        self.assertIsNone(plan_fault(SWAP, good, 400))
        self.assertIsNone(plan_fault(Change(3, [("copy", 0, 3)]), []))
        self.assertIsNone(plan_fault(Change(0, []), [], 0))
        self.assertIsNone(plan_fault(Change(3, []), []))
        self.assertIsNone(plan_fault(Change(0, [("put", "xy")]), [("put", 0, "xy")]))
        plan = [("put", 0, "x"), ("put", 1, "y"), ("copy", 2, 0, 1)]
        self.assertIsNone(plan_fault(Change(0, [("put", "xyx")]), plan))

    def test_rows_that_are_not_needed_do_no_harm(self):
        plan = [("put", 0, "zz"), ("keep", 3, 0, 1), ("put", 0, "x"), ("put", 1, "y"), ("lay", 2, 3, 1)]
        self.assertIsNone(plan_fault(Change(3, [("put", "xyz")]), plan, 4))
        self.assertIsNone(plan_fault(Change(3, [("put", "xy")]), plan, 4))

    def test_a_cell_or_slot_that_is_not_there(self):
        made, good = SWAP, [("keep", 0, 1, 1), ("copy", 1, 0, 1), ("lay", 0, 0, 1)]
        for bad in (
            ("copy", 2, 0, 1), ("copy", 0, 2, 1), ("copy", -1, 0, 1), ("copy", 0, -1, 1), ("copy", 1, 0, 2),
            ("copy", 0, 1, 2), ("copy", -1, 0, 2), ("copy", 0, -1, 2), ("copy", BIG, 0, 1), ("copy", 0, BIG, 1),
            ("copy", -BIG, 0, 1), ("copy", 0, -BIG, 1), ("copy", 0, 1, BIG), ("copy", -BIG, 0, BIG),
            ("put", 2, "x"), ("put", 1, "xy"), ("put", 0, "xyz"), ("put", -1, "x"), ("put", -1, "xy"),
            ("put", BIG, "x"), ("put", -BIG, "x"), ("put", 0, "x" * 400),
            ("keep", 1, 0, 1), ("keep", 0, 2, 1), ("keep", 0, 0, 2), ("keep", -1, 0, 1), ("keep", 0, -1, 1),
            ("keep", BIG, 0, 1), ("keep", 0, BIG, 1), ("keep", 0, 0, BIG), ("keep", -BIG, 0, 1),
            ("lay", 2, 0, 1), ("lay", 0, 1, 1), ("lay", 0, 0, 2), ("lay", -1, 0, 1), ("lay", 0, -1, 1),
            ("lay", BIG, 0, 1), ("lay", 0, BIG, 1), ("lay", 0, 0, BIG), ("lay", 0, -BIG, 1),
        ):
            self.check_row_fault(made, good, bad, 1)

    def test_a_slot_where_there_is_none(self):
        for bad in (("keep", 0, 0, 1), ("lay", 0, 0, 1)):
            self.assertEqual(plan_fault(SWAP, [bad]), ("row", 0))
            self.assertEqual(plan_fault(SWAP, [("put", 0, "x"), bad], 0), ("row", 1))

    def test_many_below_one(self):
        made, good = SWAP, [("keep", 0, 1, 1), ("copy", 1, 0, 1), ("lay", 0, 0, 1)]
        for many in (0, -1, -2, -BIG):
            for bad in (("copy", 0, 1, many), ("keep", 0, 0, many), ("lay", 0, 0, many), ("copy", 5, 1, many)):
                self.check_row_fault(made, good, bad, 1)

    def test_to_equal_to_at(self):
        good = [("keep", 0, 1, 1), ("copy", 1, 0, 1), ("lay", 0, 0, 1)]
        for bad in (("copy", 0, 0, 1), ("copy", 1, 1, 1), ("copy", 0, 0, 2)):
            self.check_row_fault(SWAP, good, bad, 1)
        # A slot and a cell of one number are not the same.
        self.assertIsNone(plan_fault(Change(2, [("copy", 0, 2)]), [("keep", 0, 0, 2), ("lay", 0, 0, 2)], 2))

    def test_no_sign_to_put(self):
        good = [("keep", 0, 1, 1), ("copy", 1, 0, 1), ("lay", 0, 0, 1)]
        for to in (0, 1, 2, -1):
            self.check_row_fault(SWAP, good, ("put", to, ""), 1)

    def test_what_holds_nothing(self):
        longer = Change(2, [("copy", 0, 2), ("copy", 0, 2)])
        for bad in (("copy", 0, 2, 1), ("copy", 0, 1, 2), ("copy", 2, 1, 2), ("keep", 0, 3, 1), ("keep", 0, 1, 2)):
            self.assertEqual(plan_fault(longer, [bad], 2), ("row", 0))
            self.assertEqual(plan_fault(longer, [("keep", 0, 0, 1), bad], 2), ("row", 1))
        self.assertIsNone(plan_fault(longer, [("copy", 2, 0, 2)], 2))
        self.assertIsNone(plan_fault(longer, [("copy", 3, 1, 1), ("copy", 2, 0, 1)], 2))
        self.assertEqual(plan_fault(longer, [("copy", 3, 1, 1), ("copy", 0, 2, 2)], 2), ("row", 1))
        self.assertEqual(plan_fault(longer, [("lay", 0, 0, 1)], 2), ("row", 0))
        self.assertEqual(plan_fault(longer, [("keep", 0, 0, 1), ("lay", 0, 0, 2)], 2), ("row", 1))
        self.assertEqual(plan_fault(longer, [("keep", 1, 0, 1), ("lay", 0, 0, 1)], 2), ("row", 1))
        self.assertIsNone(plan_fault(longer, [("keep", 0, 0, 2), ("lay", 2, 0, 2)], 2))
        # What was written a row ahead is there, whatever was put.
        self.assertIsNone(plan_fault(longer, [("put", 2, "x"), ("copy", 3, 2, 1), ("copy", 2, 0, 2)], 2))

    def test_a_row_reads_all_ahead_of_its_writing(self):
        self.assertIsNone(plan_fault(Change(3, [("put", "x"), ("copy", 0, 3)]), [("copy", 1, 0, 3), ("put", 0, "x")]))
        self.assertIsNone(plan_fault(Change(3, [("copy", 1, 2)]), [("copy", 0, 1, 2)]))
        shifted = Change(3, [("copy", 0, 1), ("copy", 0, 1), ("copy", 0, 1)])
        self.assertEqual(plan_fault(shifted, [("copy", 1, 0, 2)]), ("cell", 2))

    def test_the_room_has_the_cells_of_the_longer_text(self):
        shorter = Change(3, [("copy", 2, 1)])
        self.assertIsNone(plan_fault(shorter, [("copy", 0, 2, 1)]))
        self.assertIsNone(plan_fault(shorter, [("copy", 0, 2, 1), ("put", 1, "xy")]))
        self.assertEqual(plan_fault(shorter, [("copy", 0, 2, 1), ("put", 1, "xyz")]), ("row", 1))
        longer = Change(1, [("copy", 0, 1), ("put", "x")])
        self.assertIsNone(plan_fault(longer, [("put", 1, "x")]))
        self.assertEqual(plan_fault(longer, [("put", 1, "x"), ("put", 2, "x")]), ("row", 1))
        self.assertEqual(plan_fault(Change(0, []), [("put", 0, "x")]), ("row", 0))

    def test_the_least_wrong_cell(self):
        made = Change(3, [("copy", 2, 1), ("put", "x"), ("copy", 0, 1)])
        self.assertEqual(plan_fault(made, []), ("cell", 0))
        self.assertEqual(plan_fault(made, [("copy", 0, 2, 1)]), ("cell", 1))
        self.assertEqual(plan_fault(made, [("copy", 0, 2, 1), ("put", 1, "x")]), ("cell", 2))
        self.assertEqual(plan_fault(made, [("put", 1, "x"), ("copy", 2, 0, 1), ("copy", 0, 2, 1)]), ("cell", 0))
        self.assertIsNone(plan_fault(made, [("copy", 1, 0, 1), ("copy", 0, 2, 1), ("copy", 2, 1, 1), ("put", 1, "x")]))

    def test_a_cell_that_is_right_for_some_old_texts_only(self):
        self.assertEqual(plan_fault(Change(2, [("copy", 0, 1), ("copy", 0, 1)]), []), ("cell", 1))
        self.assertEqual(plan_fault(Change(2, [("copy", 0, 1), ("put", "a")]), []), ("cell", 1))
        self.assertEqual(plan_fault(Change(2, [("copy", 0, 2)]), [("put", 1, "a")]), ("cell", 1))
        self.assertEqual(plan_fault(Change(2, [("put", "a0")]), [("put", 0, "a")]), ("cell", 1))
        self.assertEqual(plan_fault(Change(1, [("put", "0")]), []), ("cell", 0))
        self.assertEqual(plan_fault(Change(1, [("put", "a")]), [("put", 0, "b")]), ("cell", 0))

    def test_a_cell_that_holds_nothing_is_wrong(self):
        self.assertEqual(plan_fault(Change(0, [("put", "ab")]), []), ("cell", 0))
        self.assertEqual(plan_fault(Change(0, [("put", "ab")]), [("put", 0, "a")]), ("cell", 1))
        self.assertEqual(plan_fault(Change(1, [("copy", 0, 1)] * 3), [("copy", 2, 0, 1)]), ("cell", 1))

    def test_cells_behind_the_new_text_and_slots_are_free(self):
        made = Change(3, [("copy", 1, 1)])
        self.assertIsNone(plan_fault(made, [("copy", 0, 1, 1)]))
        self.assertIsNone(plan_fault(made, [("keep", 1, 0, 2), ("copy", 0, 1, 2), ("put", 1, "xx")], 3))

    def test_a_row_fault_goes_ahead_of_a_cell(self):
        self.assertEqual(plan_fault(SWAP, [("put", 0, "x")] * 5), ("cell", 0))
        self.assertEqual(plan_fault(SWAP, [("put", 0, "x")] * 5 + [("put", 0, "")]), ("row", 5))
        good = [("keep", 0, 1, 1), ("copy", 1, 0, 1), ("lay", 0, 0, 1)]
        self.assertEqual(plan_fault(SWAP, good + [("lay", 0, 1, 1)], 1), ("row", 3))

    def test_the_spare_is_none_where_it_is_left_out(self):
        good = [("keep", 0, 1, 1), ("copy", 1, 0, 1), ("lay", 0, 0, 1)]
        self.assertEqual(plan_fault(SWAP, good), ("row", 0))
        self.assertEqual(plan_fault(SWAP, good, 0), ("row", 0))
        self.assertIsNone(plan_fault(SWAP, good, 1))
        self.assertEqual(plan_fault(SWAP, [("keep", 1, 0, 1)], 1), ("row", 0))
        self.assertEqual(plan_fault(SWAP, [("keep", 399, 0, 1)], 400), ("cell", 0))
        self.assertEqual(plan_fault(SWAP, [("keep", 399, 0, 2)], 400), ("row", 0))

    def test_a_thousand_rows(self):
        made = Change(400, [("put", "x"), ("copy", 0, 399)])
        plan = [("copy", 1, 0, 399), ("put", 0, "x")]
        idle = [("keep", 0, 0, 400), ("lay", 0, 0, 400)] * 499
        self.assertIsNone(plan_fault(made, idle + plan, 400))
        self.assertEqual(plan_fault(made, idle + plan, 399), ("row", 0))
        self.assertEqual(plan_fault(made, idle + plan[:1] + [("copy", 0, 0, 1)], 400), ("row", 999))
        self.assertEqual(plan_fault(made, idle + plan[:1], 400), ("cell", 0))

    def test_against_the_words_of_the_document(self):
        numbers = (-1, 0, 1, 2)
        rows = [(word, to, at, many) for word in ("copy", "keep", "lay") for to in numbers for at in numbers
                for many in (0, 1, 2)]
        rows += [("put", to, text) for to in numbers for text in ("", "a", "ab")]
        for size, cells in ((2, [1, 0]), (2, [0, 1]), (1, [0, 0]), (2, ["a"]), (0, ["a", "b"]), (2, [0, "b"])):
            made = cells_change(size, cells)
            for spare in (0, 1):
                fine = [row for row in rows if plan_fault(made, [row], spare) != ("row", 0)]
                for row in rows:
                    self.assertEqual(plan_fault(made, [row], spare), wanted_fault(made, [row], spare))
                for first, second in product(fine, rows):
                    self.assertEqual(
                        plan_fault(made, [first, second], spare), wanted_fault(made, [first, second], spare)
                    )

    def test_longer_plans_against_the_words_of_the_document(self):
        rows = [("copy", 0, 1, 1), ("copy", 1, 2, 1), ("copy", 1, 0, 2), ("keep", 0, 1, 1), ("lay", 2, 0, 1),
                ("put", 1, "a"), ("copy", 2, 0, 1)]
        for cells in ([2, 1, 0], [1, 2, "a"], [0, 0, 1], [1, 0], [0, "a", 0, 2]):
            made = cells_change(3, cells)
            for plan in product(rows, repeat=3):
                self.assertEqual(plan_fault(made, list(plan), 1), wanted_fault(made, list(plan), 1))

    def test_told_plans_are_let_by(self):
        for cells in cells_of(4, 4):
            made = cells_change(4, cells)
            for spare in (1, 2):
                for plan in (planned(made, spare), single_plan(made, spare)):
                    self.assertIsNone(plan_fault(made, plan, spare))
                    # Each row of a single plan is needed.
                    if plan and is_single(plan):
                        self.assertIsNotNone(plan_fault(made, plan[:-1], spare))

    def test_the_interface(self):
        self.assertEqual(list(inspect.signature(plan_fault).parameters), ["change", "plan", "spare"])
        self.assertEqual(inspect.signature(plan_fault).parameters["spare"].default, 0)
        self.assertTrue(inspect.isfunction(vars(plans)["plan_fault"]))

    def test_arguments_by_name(self):
        good = [("keep", 0, 1, 1), ("copy", 1, 0, 1), ("lay", 0, 0, 1)]
        self.assertIsNone(plan_fault(spare=1, plan=good, change=SWAP))
        self.assertEqual(plan_fault(plan=good, change=SWAP), ("row", 0))

    def test_what_is_handed_in_stays(self):
        good = [("keep", 0, 1, 1), ("copy", 1, 0, 1), ("lay", 0, 0, 1)]
        made = Change(2, list(SWAP.rows))
        plan_fault(made, good, 1)
        plan_fault(made, good, 0)
        self.assertEqual(good, [("keep", 0, 1, 1), ("copy", 1, 0, 1), ("lay", 0, 0, 1)])
        self.assertEqual(made, SWAP)
        self.assertIsNone(plan_fault(made, good, 1))


if __name__ == "__main__":
    unittest.main()
