"""Points 13 and 14 of the document, with 2 and 3 for what they tell."""

import inspect
import unittest
from itertools import combinations, permutations, product

from remadehere import singles
from remadehere.changes import Change
from remadehere.errors import NoSpare
from remadehere.singles import pure_rings, single_plan
from walking import blocks_change, cells_change, cells_of, rows_end_right, some_texts, texts_of


def counted_rings(cells):
    """The pure rings by the document's words: of each ring that there could be whether it is one."""
    count = 0
    for many in range(2, len(cells) + 1):
        for places in combinations(range(len(cells)), many):
            for rest in permutations(places[1:]):
                ring = places[:1] + rest
                if all(cells[ring[k]] == ring[(k + 1) % many] for k in range(many)):
                    others = [cell for place, cell in enumerate(cells) if place not in ring]
                    count += not any(cell in ring for cell in others)
    return count


def changing(cells):
    return [place for place, cell in enumerate(cells) if cell != place]


def next_states(room, slots, signs):
    """Every state that one row of one cell leads to."""
    cells, numbers = range(len(room)), range(len(slots))
    reads = [sign for sign in room if sign is not None]
    for to in cells:
        for held in reads + list(signs) + [sign for sign in slots if sign is not None]:
            if held != room[to]:
                yield room[:to] + (held,) + room[to + 1:], slots
    for slot in numbers:
        for held in reads:
            yield room, slots[:slot] + (held,) + slots[slot + 1:]


def fewest_rows(size, new_size, spare, signs):
    """For each list of cells of that many the fewest single rows that make it, found by trying all rows."""
    start = (tuple(range(size)) + (None,) * (new_size - size), (None,) * spare)
    seen, edge, fewest, rows = {start}, [start], {}, 0
    while edge:
        fresh = []
        for room, slots in edge:
            fewest.setdefault(room[:new_size], rows)
            for state in next_states(room, slots, signs):
                if state not in seen:
                    seen.add(state)
                    fresh.append(state)
        edge, rows = fresh, rows + 1
    return fewest


class Singles(unittest.TestCase):
    def check_rows(self, plan):
        self.assertIsInstance(plan, list)
        for row in plan:
            self.assertIsInstance(row, tuple)
            self.assertIn(row[0], ("keep", "lay", "copy", "put"))
            if row[0] == "put":
                self.assertEqual(len(row), 3)
                self.assertEqual(len(row[2]), 1)
            else:
                self.assertEqual(len(row), 4)
                self.assertEqual(row[3], 1)

    def check_plan(self, change, spare, olds):
        plan = single_plan(change, spare)
        self.check_rows(plan)
        self.assertEqual(len(plan), len(changing(change.cells())) + pure_rings(change))
        for old in olds:
            self.assertTrue(rows_end_right(change, plan, spare, old))
        return plan

    def check_refused(self, change, *spare):
        with self.assertRaises(NoSpare) as caught:
            single_plan(change, *spare)
        self.assertEqual(caught.exception.need, 1)


class Rings(Singles):
    """Point 14, pure rings."""

    def test_none(self):
        for size, cells in (
            (0, []), (3, []), (0, ["x", "y"]), (3, [0, 1, 2]), (3, ["x", "y", "z"]), (3, [1, 2, "x"]),
            (3, [1, 1, 1]), (3, [2, 1, "x"]), (3, [1, 2]), (2, [0, 0, 1, 1]),
        ):
            self.assertEqual(pure_rings(cells_change(size, cells)), 0)

    def test_one(self):
        for size, cells in (
            (2, [1, 0]), (3, [2, 1, 0]), (3, [1, 2, 0]), (3, [2, 0, 1]), (4, [1, 0]), (4, [1, 0, 3]),
            (4, [1, 0, "x", 2]), (4, [3, 2, 2, 0]), (2, [1, 0, "x"]), (5, [1, 0, 3, 4, 4]),
        ):
            self.assertEqual(pure_rings(cells_change(size, cells)), 1)

    def test_more(self):
        for size, cells, many in (
            (4, [1, 0, 3, 2], 2), (4, [3, 2, 1, 0], 2), (5, [1, 2, 0, 4, 3], 2), (6, [5, 4, 3, 2, 1, 0], 3),
            (7, [5, 4, 3, 2, 1, 0, "x"], 3), (400, list(range(399, -1, -1)), 200), (400, list(range(1, 400)) + [0], 1),
        ):
            self.assertEqual(pure_rings(cells_change(size, cells)), many)

    def test_a_ring_that_another_cell_copies_from_is_not_pure(self):
        for size, cells in (
            (3, [1, 0, 0]), (3, [1, 0, 1]), (2, [1, 0, 0]), (2, [1, 0, 1]), (4, [1, 2, 0, 2]), (5, [1, 0, 0, 2, 3]),
        ):
            self.assertEqual(pure_rings(cells_change(size, cells)), 0)
        # Another ring beside it stays pure.
        self.assertEqual(pure_rings(cells_change(5, [1, 0, 1, 4, 3])), 1)

    def test_the_rows_do_not_matter(self):
        self.assertEqual(pure_rings(Change(4, [("copy", 2, 2), ("copy", 0, 2)])), 2)
        self.assertEqual(pure_rings(Change(4, [("copy", 1, 3), ("copy", 0, 1)])), 1)
        self.assertEqual(pure_rings(Change(6, [("copy", 2, 1), ("copy", 3, 3), ("copy", 0, 2)])), 2)
        self.assertEqual(pure_rings(Change(6, [("copy", 1, 5), ("put", "x")])), 0)

    def test_against_the_words_of_the_document(self):
        for size, many in product(range(5), repeat=2):
            for cells in cells_of(size, many):
                self.assertEqual(pure_rings(cells_change(size, cells)), counted_rings(cells))
        for cells in permutations(range(6)):
            self.assertEqual(pure_rings(cells_change(6, cells)), counted_rings(cells))


class Plans(Singles):
    """Points 13 and 14, single plans."""

    def test_no_ring(self):
        for size, cells in (
            (0, []), (3, []), (3, [0, 1, 2]), (0, ["x", "y"]), (3, ["x", 0, 1]), (3, [1, 2, "x"]), (3, [1, 1, 1]),
            (2, [0, 0, 1, 1]), (5, [4, 3]), (3, [1, 2, 2, 1, 0]), (1, [0, 0, 0]),
        ):
            for spare in (0, 1, 400):
                self.check_plan(cells_change(size, cells), spare, texts_of(size))

    def test_nothing_to_be_done(self):
        for made in (Change(0, []), Change(4, []), Change(4, [("copy", 0, 4)]), Change(4, [("copy", 0, 2)])):
            for spare in (0, 1):
                self.assertEqual(single_plan(made, spare), [])

    def test_one_ring_and_nothing_else(self):
        for size, cells in ((2, [1, 0]), (3, [1, 2, 0]), (3, [2, 1, 0]), (5, [1, 2, 3, 4, 0]), (3, [0, 2, 1])):
            made = cells_change(size, cells)
            self.check_refused(made, 0)
            self.check_refused(made)
            for spare in (1, 2, 400):
                self.check_plan(made, spare, texts_of(size))

    def test_several_rings_and_nothing_else(self):
        for size, cells in ((4, [1, 0, 3, 2]), (5, [1, 2, 0, 4, 3]), (5, [4, 3, 2, 1, 0])):
            made = cells_change(size, cells)
            self.check_refused(made, 0)
            for spare in (1, 3):
                self.check_plan(made, spare, texts_of(size, "ab"))

    def test_rings_beside_cells_that_change(self):
        for size, cells in (
            (3, [1, 0, "x"]), (2, [1, 0, "x"]), (4, [1, 0, 3, 3]), (4, [2, 3, 0, 1, "y"]),
            (4, ["x", 2, 1, 0]), (4, [3, 2, 1, 1]), (6, [1, 0, 3, 2, 5, 5]), (6, ["x", 2, 1, 4, 3, 0]),
            (5, [1, 0, 3, 4, "x"]), (5, [1, 0, 3, 4, 3]), (5, [1, 0, 3, 2, 2]), (3, [1, 0, 2, 2]),
        ):
            for spare in (0, 1, 2):
                self.check_plan(cells_change(size, cells), spare, texts_of(size, "ab"))

    def test_rings_beside_an_old_text_that_is_longer(self):
        for size, cells in (
            (3, [1, 0]), (4, [1, 2, 0]), (5, [1, 0, 3, 2]), (4, [1, 0, 3]), (5, [1, 0, 2]), (6, [1, 0, 4, 5]),
        ):
            for spare in (0, 1):
                self.check_plan(cells_change(size, cells), spare, texts_of(size, "ab"))

    def test_rings_that_others_copy_from(self):
        for size, cells in (
            (3, [1, 0, 0]), (3, [1, 0, 1]), (2, [1, 0, 1]), (4, [1, 2, 0, 2]), (5, [1, 0, 0, 2, 3]),
            (6, [1, 0, 1, 4, 3, 4]), (5, [1, 0, 1, 4, 3]), (6, [1, 2, 0, 1, 1, 3]), (4, [1, 0, 3, 0]),
        ):
            for spare in (0, 1):
                self.check_plan(cells_change(size, cells), spare, texts_of(size, "ab"))

    def test_no_slot_is_used_where_there_is_none(self):
        for cells in ([1, 0, "x"], [1, 0], [1, 0, 0]):
            plan = single_plan(cells_change(3, cells))
            self.assertEqual([row for row in plan if row[0] in ("keep", "lay")], [])

    def test_as_few_as_any_rows_can_be_and_refused_just_where_none_can(self):
        for spare, most, signs in ((0, 3, "xy"), (1, 3, "xy"), (2, 3, "x"), (0, 4, "x"), (1, 4, "x")):
            for size, many in product(range(most + 1), repeat=2):
                fewest = fewest_rows(size, many, spare, signs)
                for cells in cells_of(size, many, signs):
                    made = cells_change(size, cells)
                    if cells in fewest:
                        plan = self.check_plan(made, spare, some_texts(size))
                        self.assertEqual(len(plan), fewest[cells])
                    else:
                        self.assertEqual(spare, 0)
                        self.check_refused(made, spare)

    def test_refused_just_where_the_document_says(self):
        for cells in permutations(range(5)):
            # Nothing but pure rings changes, and all cells of the old text stay in use.
            if list(cells) == [0, 1, 2, 3, 4]:
                self.check_plan(cells_change(5, cells), 0, ["abcde"])
            else:
                self.check_refused(cells_change(5, cells), 0)
            self.check_plan(cells_change(5, cells), 1, ["abcde", "aabba"])
            self.check_plan(cells_change(6, cells), 0, ["abcdef", "aabbab"])
            self.check_plan(cells_change(5, cells + ("x",)), 0, ["abcde", "aabba"])

    def test_every_old_text(self):
        for cells in cells_of(3, 4, "ab"):
            made = cells_change(3, cells)
            for spare in (0, 1):
                self.check_plan(made, spare, texts_of(3))

    def test_four_hundred_cells(self):
        turned = cells_change(400, list(range(399, -1, -1)))
        self.check_refused(turned, 0)
        self.assertEqual(len(self.check_plan(turned, 1, some_texts(400))), 600)
        round_about = cells_change(400, list(range(1, 400)) + [0])
        self.check_refused(round_about, 0)
        self.assertEqual(len(self.check_plan(round_about, 400, some_texts(400))), 401)
        with_put = cells_change(400, list(range(398, -1, -1)) + ["x"])
        self.assertEqual(len(self.check_plan(with_put, 0, some_texts(400))), 398 + 199 + 1)
        shorter = cells_change(400, list(range(398, -1, -1)))
        self.assertEqual(len(self.check_plan(shorter, 0, some_texts(400))), 398 + 199)
        longer = cells_change(399, list(range(398, -1, -1)) + [7])
        # One of the rings is not pure.
        self.assertEqual(len(self.check_plan(longer, 0, some_texts(399))), 398 + 198 + 1)
        shifted = Change(400, [("put", "x"), ("copy", 0, 399)])
        self.assertEqual(len(self.check_plan(shifted, 0, some_texts(400))), 400)
        self.assertEqual(len(self.check_plan(Change(1, [("copy", 0, 1)] * 400), 0, ["a", "b"])), 399)
        blocks = blocks_change([100, 130, 170], [2, 0, 1])
        self.check_plan(blocks, 1, some_texts(400))
        self.check_refused(blocks)


class Handing(Singles):
    """Point 2 for this module."""

    def test_the_interface(self):
        for name, parameters in (("pure_rings", ["change"]), ("single_plan", ["change", "spare"])):
            function = vars(singles)[name]
            self.assertTrue(inspect.isfunction(function))
            self.assertEqual(list(inspect.signature(function).parameters), parameters)
        self.assertEqual(inspect.signature(single_plan).parameters["spare"].default, 0)

    def test_arguments_by_name(self):
        made = cells_change(2, [1, 0])
        self.assertEqual(pure_rings(change=made), 1)
        self.assertEqual(len(single_plan(spare=1, change=made)), 3)
        with self.assertRaises(NoSpare):
            single_plan(change=made)

    def test_what_is_handed_in_stays_and_told_plans_are_the_askers_own(self):
        made = cells_change(4, [1, 0, "x", 2])
        plan = single_plan(made, 1)
        kept = list(plan)
        plan.clear()
        pure_rings(made)
        self.assertEqual(single_plan(made, 1), kept)
        self.assertEqual(made, cells_change(4, [1, 0, "x", 2]))


if __name__ == "__main__":
    unittest.main()
