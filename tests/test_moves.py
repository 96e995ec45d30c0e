"""Points 9 to 12 of the document, with 2 and 3 for what they tell."""

import inspect
import unittest
from itertools import combinations, permutations, product

from remadehere import moves as moves_module
from remadehere.changes import Change
from remadehere.moves import at_once, fewest_kept, moves_of, one_by_one, ordered, spoilt, spoilt_room
from walking import ALL_SIGNS, blocks_change, cells_change, cells_of, some_texts, texts_of


def read(move):
    return set(range(move[2], move[2] + move[3])) if move[0] == "copy" else set()


def written(move):
    many = move[3] if move[0] == "copy" else len(move[2])
    return set(range(move[1], move[1] + many))


def must_go_ahead(move, other):
    return bool(read(move) & written(other))


def single_moves(cells):
    """Every move within so many cells; what is put has signs that the told rooms may have too."""
    found = []
    for many in range(1, cells + 1):
        places = range(cells - many + 1)
        found += [("copy", to, at, many) for to in places for at in places if to != at]
        found += [("put", to, ("ab" * cells)[:many]) for to in places]
    return found


def lists_of_moves(cells, most):
    """Every list of up to so many moves within so many cells, no two of which write one cell."""
    found = [[]]
    longest = [[]]
    for many in range(most):
        longest = [
            some + [move] for some in longest for move in single_moves(cells)
            if not any(written(move) & written(other) for other in some)
        ]
        found += longest
    return found


SMALL = lists_of_moves(4, 3)


class Moves(unittest.TestCase):
    """Point 9, the moves of a change."""

    def test_no_rows(self):
        self.assertEqual(moves_of(Change(0, [])), [])
        self.assertEqual(moves_of(Change(5, [])), [])

    def test_one_row(self):
        self.assertEqual(moves_of(Change(5, [("copy", 0, 5)])), [])
        self.assertEqual(moves_of(Change(5, [("copy", 0, 2)])), [])
        self.assertEqual(moves_of(Change(5, [("copy", 1, 4)])), [("copy", 0, 1, 4)])
        self.assertEqual(moves_of(Change(5, [("put", "abc")])), [("put", 0, "abc")])

    def test_many_rows_stay_in_order(self):
        made = Change(5, [("copy", 3, 2), ("put", "--"), ("copy", 0, 3), ("put", "0")])
        self.assertEqual(moves_of(made), [("copy", 0, 3, 2), ("put", 2, "--"), ("copy", 4, 0, 3), ("put", 7, "0")])

    def test_copies_that_lie_already_are_left_out(self):
        made = Change(6, [("copy", 0, 2), ("put", "x"), ("copy", 3, 1), ("copy", 2, 1), ("copy", 5, 1), ("copy", 5, 1)])
        self.assertEqual(moves_of(made), [("put", 2, "x"), ("copy", 4, 2, 1), ("copy", 6, 5, 1)])

    def test_rows_are_not_put_together(self):
        made = Change(4, [("copy", 2, 1), ("copy", 3, 1), ("put", "a"), ("put", "b")])
        self.assertEqual(moves_of(made), [("copy", 0, 2, 1), ("copy", 1, 3, 1), ("put", 2, "a"), ("put", 3, "b")])

    def test_a_put_that_begins_like_a_place_is_no_copy(self):
        self.assertEqual(moves_of(Change(1, [("put", "0")])), [("put", 0, "0")])

    def test_four_hundred_rows(self):
        turned = Change(400, [("copy", at, 1) for at in reversed(range(400))])
        self.assertEqual(moves_of(turned), [("copy", to, 399 - to, 1) for to in range(400)])
        self.assertEqual(moves_of(Change(400, [("copy", at, 1) for at in range(400)])), [])
        self.assertEqual(moves_of(Change(0, [("put", "x" * 400)])), [("put", 0, "x" * 400)])

    def test_at_once_they_make_the_new_text(self):
        for size, many in product(range(4), repeat=2):
            for cells in cells_of(size, many):
                made = cells_change(size, cells)
                for old in texts_of(size, "ab"):
                    room = list(old) + [None] * (many - size)
                    self.assertEqual(at_once(room, moves_of(made))[:many], list(made.done(old)))


class Rooms(unittest.TestCase):
    """Point 9, moves done in a room."""

    def test_no_moves(self):
        for room in ([], ["a"], [None], ["a", None, "b"]):
            for done in (at_once, one_by_one):
                told = done(room, [])
                self.assertEqual(told, room)
                self.assertIsNot(told, room)

    def test_where_they_agree(self):
        for done in (at_once, one_by_one):
            self.assertEqual(done(list("abcde"), [("copy", 0, 3, 2), ("put", 3, "xy")]), list("decxy"))
            self.assertEqual(done(list("abcde"), [("put", 4, "z"), ("copy", 1, 0, 1)]), list("aacdz"))

    def test_where_they_do_not(self):
        swap = [("copy", 0, 1, 1), ("copy", 1, 0, 1)]
        self.assertEqual(at_once(list("abc"), swap), list("bac"))
        self.assertEqual(one_by_one(list("abc"), swap), list("bbc"))
        after_put = [("put", 0, "xy"), ("copy", 2, 0, 2)]
        self.assertEqual(at_once(list("abcd"), after_put), list("xyab"))
        self.assertEqual(one_by_one(list("abcd"), after_put), list("xyxy"))
        chain = [("copy", 1, 0, 1), ("copy", 2, 1, 1), ("copy", 3, 2, 1)]
        self.assertEqual(at_once(list("abcd"), chain), list("aabc"))
        self.assertEqual(one_by_one(list("abcd"), chain), list("aaaa"))

    def test_moves_that_read_what_they_write(self):
        for done in (at_once, one_by_one):
            self.assertEqual(done(list("abcde"), [("copy", 1, 0, 4)]), list("aabcd"))
            self.assertEqual(done(list("abcde"), [("copy", 0, 1, 4)]), list("bcdee"))
            self.assertEqual(done(list("abcde"), [("copy", 2, 0, 3)]), list("ababc"))
            self.assertEqual(done(list("abcde"), [("copy", 0, 2, 3)]), list("cdede"))

    def test_cells_that_hold_nothing(self):
        for done in (at_once, one_by_one):
            self.assertEqual(done([None, "a", None], [("copy", 1, 0, 1)]), [None, None, None])
            self.assertEqual(done(["a", None, "b", None], [("copy", 2, 0, 2)]), ["a", None, "a", None])
            self.assertEqual(done([None] * 3, [("put", 1, "xy")]), [None, "x", "y"])
            self.assertEqual(done([None] * 3, [("copy", 0, 1, 2)]), [None] * 3)
        moves = [("copy", 0, 1, 1), ("copy", 2, 0, 1)]
        self.assertEqual(at_once(["a", None, "b"], moves), [None, None, "a"])
        self.assertEqual(one_by_one(["a", None, "b"], moves), [None, None, None])

    def test_four_hundred_cells(self):
        room = [ALL_SIGNS[k % 93] for k in range(400)]
        turned = [("copy", to, 399 - to, 1) for to in range(400)]
        self.assertEqual(at_once(room, turned), room[::-1])
        self.assertEqual(one_by_one(room, turned), room[::-1][:200] + room[200:])
        for done in (at_once, one_by_one):
            self.assertEqual(done(room, [("copy", 1, 0, 399)]), room[:1] + room[:399])
            self.assertEqual(done(room, [("put", 0, "x" * 400)]), ["x"] * 400)

    def test_against_the_words_of_the_document(self):
        for some in SMALL:
            room = ["p", "q", None, "s"]
            wanted, walked = list(room), list(room)
            for move in some:
                for held, source in ((wanted, room), (walked, list(walked))):
                    for step in range(len(written(move))):
                        held[move[1] + step] = source[move[2] + step] if move[0] == "copy" else move[2][step]
            self.assertEqual(at_once(room, some), wanted)
            self.assertEqual(one_by_one(room, some), walked)

    def test_what_is_handed_in_stays(self):
        room, some = list("abc") + [None], [("copy", 0, 1, 1), ("put", 3, "x"), ("copy", 1, 0, 1)]
        for done in (at_once, one_by_one):
            told = done(room, some)
            told[2] = "!"
            told.append("!")
            self.assertEqual(room, ["a", "b", "c", None])
            self.assertEqual(some, [("copy", 0, 1, 1), ("put", 3, "x"), ("copy", 1, 0, 1)])
            self.assertIsNot(done(room, some), done(room, some))


class Spoilt(unittest.TestCase):
    """Point 10."""

    def check_unlike(self, some, size):
        text = spoilt_room(some, size)
        self.assertIsInstance(text, str)
        self.assertEqual(len(text), size)
        self.assertTrue(set(text) <= set(ALL_SIGNS))
        self.assertNotEqual(at_once(list(text), some), one_by_one(list(text), some))

    def test_spoilt_by_none(self):
        for some in (
            [],
            [("put", 0, "abc")],
            [("copy", 1, 0, 4)],
            [("copy", 0, 1, 4)],
            [("copy", 0, 3, 2), ("put", 3, "xy")],
            [("copy", 0, 1, 1), ("copy", 1, 2, 1), ("copy", 2, 3, 1)],
            [("put", 0, "a"), ("copy", 3, 1, 2), ("put", 1, "b")],
        ):
            self.assertIsNone(spoilt(some))
            self.assertIsNone(spoilt_room(some, 5))
            self.assertIsNone(spoilt_room(some, 400))

    def test_the_first_move_reads_nothing_that_was_written(self):
        self.assertEqual(spoilt([("put", 0, "a"), ("copy", 1, 0, 1)]), (1, 0))
        self.assertIsNone(spoilt([("copy", 1, 0, 1), ("put", 0, "a")]))

    def test_a_later_move(self):
        some = [("copy", 0, 1, 1), ("put", 5, "x"), ("copy", 1, 2, 2), ("copy", 4, 1, 1), ("copy", 6, 5, 1)]
        self.assertEqual(spoilt(some), (3, 1))
        self.assertEqual(spoilt(some[:3]), None)
        self.assertEqual(spoilt(some[:3] + some[4:]), (3, 5))
        self.assertEqual(spoilt(some[:2] + some[4:]), (2, 5))

    def test_the_least_of_several_cells(self):
        self.assertEqual(spoilt([("put", 5, "x"), ("put", 3, "y"), ("copy", 10, 2, 5)]), (2, 3))
        self.assertEqual(spoilt([("put", 3, "y"), ("put", 5, "x"), ("copy", 10, 2, 5)]), (2, 3))
        self.assertEqual(spoilt([("put", 2, "wxyz"), ("copy", 6, 4, 2)]), (1, 4))
        self.assertEqual(spoilt([("put", 4, "wx"), ("copy", 0, 2, 4)]), (1, 4))

    def test_against_the_words_of_the_document(self):
        for some in SMALL:
            faults = [
                (number, cell)
                for number, move in enumerate(some)
                for cell in sorted(read(move))
                if any(cell in written(other) for other in some[:number])
            ]
            self.assertEqual(spoilt(some), faults[0] if faults else None)

    def test_rooms_where_they_end_unlike(self):
        for some in SMALL:
            size = max([cell + 1 for move in some for cell in read(move) | written(move)], default=0)
            if spoilt(some) is None:
                self.assertIsNone(spoilt_room(some, size))
                self.assertIsNone(spoilt_room(some, size + 2))
                for room in (["p", "q", "r", "s"], ["a", "b", None, "a"]):
                    self.assertEqual(at_once(room, some), one_by_one(room, some))
            else:
                self.check_unlike(some, size)
                self.check_unlike(some, size + 1)

    def test_rooms_where_every_sign_is_put(self):
        for sign in ALL_SIGNS:
            self.check_unlike([("put", 0, sign), ("copy", 1, 0, 1)], 2)
            self.check_unlike([("put", 0, sign), ("copy", 1, 0, 1)], 9)

    def test_big_rooms(self):
        self.check_unlike([("put", 0, "a" * 399), ("copy", 399, 398, 1)], 400)
        self.check_unlike([("copy", to, 399 - to, 1) for to in range(400)], 400)
        self.check_unlike([("copy", 0, 200, 200), ("copy", 200, 0, 200)], 400)
        self.check_unlike([("copy", 0, 1, 1), ("copy", 1, 0, 1)], 400)

    def test_what_is_handed_in_stays(self):
        some = [("copy", 0, 1, 1), ("copy", 1, 0, 1)]
        spoilt(some), spoilt_room(some, 2)
        self.assertEqual(some, [("copy", 0, 1, 1), ("copy", 1, 0, 1)])


class Ordered(unittest.TestCase):
    """Point 11."""

    def wanted_order(self, some):
        """The order by the document's words, or None."""
        left, order = list(range(len(some))), []
        while left:
            free = [
                number for number in left
                if not any(must_go_ahead(some[other], some[number]) for other in left if other != number)
            ]
            if not free:
                return None
            left.remove(free[0])
            order.append(some[free[0]])
        return order

    def check_ring(self, some):
        told = ordered(some)
        self.assertIsInstance(told, tuple)
        word, ring = told
        self.assertEqual(word, "ring")
        self.assertIsInstance(ring, list)
        self.assertGreaterEqual(len(ring), 2)
        self.assertEqual(len(set(ring)), len(ring))
        self.assertTrue(set(ring) <= set(range(len(some))))
        for number, follower in zip(ring, ring[1:] + ring[:1]):
            self.assertTrue(must_go_ahead(some[number], some[follower]))
        return ring

    def test_no_moves_and_one(self):
        self.assertEqual(ordered([]), ("order", []))
        for move in (("put", 0, "ab"), ("copy", 0, 1, 1)):
            self.assertEqual(ordered([move]), ("order", [move]))

    def test_a_move_that_reads_what_it_writes_is_no_ring(self):
        for move in (("copy", 1, 0, 5), ("copy", 0, 1, 5), ("copy", 2, 0, 3)):
            self.assertEqual(ordered([move]), ("order", [move]))
            self.assertEqual(ordered([("put", 9, "x"), move]), ("order", [("put", 9, "x"), move]))
        # It still goes ahead of others: of one that writes what it reads.
        some = [("put", 0, "x"), ("copy", 1, 0, 5)]
        self.assertEqual(ordered(some), ("order", some[::-1]))

    def test_an_order(self):
        some = [("put", 3, "xy"), ("copy", 0, 3, 2)]
        self.assertEqual(ordered(some), ("order", some[::-1]))
        chain = [("copy", 1, 0, 1), ("copy", 2, 1, 1), ("copy", 3, 2, 1)]
        self.assertEqual(ordered(chain), ("order", chain[::-1]))
        self.assertEqual(ordered(chain[::-1]), ("order", chain[::-1]))

    def test_of_several_that_may_go_the_first_one_is_next(self):
        free = [("put", 4, "a"), ("put", 0, "b"), ("copy", 2, 9, 1), ("put", 7, "c")]
        for some in permutations(free):
            self.assertEqual(ordered(list(some)), ("order", list(some)))
        # The first one waits for the last; as soon as it may go it is next.
        waits, ahead = ("put", 0, "a"), ("copy", 9, 0, 1)
        put, other = ("put", 5, "x"), ("put", 6, "y")
        self.assertEqual(ordered([waits, put, ahead, other]), ("order", [put, ahead, waits, other]))
        self.assertEqual(ordered([put, waits, other, ahead]), ("order", [put, other, ahead, waits]))
        self.assertEqual(ordered([waits, ahead, put, other]), ("order", [ahead, waits, put, other]))

    def test_rings(self):
        swap = [("copy", 0, 1, 1), ("copy", 1, 0, 1)]
        self.assertEqual(sorted(self.check_ring(swap)), [0, 1])
        three = [("copy", 0, 1, 1), ("copy", 1, 2, 1), ("copy", 2, 0, 1)]
        for some in permutations(three):
            self.assertEqual(sorted(self.check_ring(list(some))), [0, 1, 2])
        blocks = moves_of(blocks_change([2, 3, 1, 4, 2], [1, 2, 3, 4, 0]))
        self.check_ring(blocks)

    def test_a_ring_behind_and_ahead_of_others(self):
        # Move 0 waits for the ring, the last one goes ahead of it; neither is in it.
        some = [("put", 5, "x"), ("copy", 0, 1, 1), ("copy", 1, 4, 2), ("copy", 4, 0, 1), ("copy", 8, 0, 1)]
        self.assertEqual(sorted(self.check_ring(some)), [1, 2, 3])
        waiting = [("copy", 3, 7, 1), ("copy", 0, 3, 1), ("copy", 1, 2, 1), ("copy", 2, 1, 1), ("put", 7, "x")]
        self.assertEqual(sorted(self.check_ring(waiting)), [2, 3])

    def test_moves_that_wait_for_a_ring_are_not_in_it(self):
        # 3 waits for 2, which waits for the ring of 0 and 1, but none of these waits for them.
        some = [("copy", 0, 2, 2), ("copy", 2, 0, 1), ("copy", 3, 5, 1), ("put", 5, "x")]
        for order in permutations(some):
            ring = self.check_ring(list(order))
            self.assertEqual(sorted([order[number] for number in ring]), sorted(some[:2]))

    def test_two_rings(self):
        some = [("copy", 0, 1, 1), ("copy", 4, 5, 1), ("copy", 1, 0, 1), ("copy", 5, 4, 1)]
        self.assertIn(sorted(self.check_ring(some)), [[0, 2], [1, 3]])
        # Two rings with one move of both.
        both = [("copy", 0, 2, 2), ("copy", 2, 0, 1), ("copy", 3, 1, 1)]
        self.assertIn(sorted(self.check_ring(both)), [[0, 1], [0, 2]])

    def test_four_hundred_moves(self):
        turned = [("copy", to, 399 - to, 1) for to in range(400)]
        self.assertEqual(len(self.check_ring(turned)), 2)
        round_about = [("copy", to, (to + 1) % 400, 1) for to in range(400)]
        self.assertEqual(len(self.check_ring(round_about)), 400)
        down = [("copy", to, to + 1, 1) for to in range(399)]
        self.assertEqual(ordered(down), ("order", down))
        self.assertEqual(ordered(down[::-1]), ("order", down))

    def test_against_the_words_of_the_document(self):
        for some in SMALL:
            wanted = self.wanted_order(some)
            if wanted is None:
                self.check_ring(some)
            else:
                self.assertEqual(ordered(some), ("order", wanted))
                self.assertIsNone(spoilt(wanted))

    def test_an_order_is_told_just_where_one_is_safe(self):
        for some in SMALL + [moves_of(cells_change(4, cells)) for cells in cells_of(4, 4)]:
            safe = any(spoilt(list(other)) is None for other in permutations(some))
            self.assertEqual(ordered(some)[0] == "order", safe)

    def test_what_is_handed_in_stays(self):
        some = [("put", 3, "xy"), ("copy", 0, 3, 2)]
        told = ordered(some)
        told[1].append("!")
        told[1][0] = "!"
        self.assertEqual(some, [("put", 3, "xy"), ("copy", 0, 3, 2)])
        lying = [("put", 3, "xy")]
        self.assertIsNot(ordered(lying)[1], lying)
        self.assertIsNot(ordered([])[1], ordered([])[1])
        ring = [("copy", 0, 1, 1), ("copy", 1, 0, 1)]
        ordered(ring)[1].append(7)
        self.assertEqual(len(ordered(ring)[1]), 2)
        self.assertEqual(ring, [("copy", 0, 1, 1), ("copy", 1, 0, 1)])


class Kept(unittest.TestCase):
    """Point 12."""

    def wanted(self, some):
        """The least of all choices by their signs, then as lists are compared."""
        copies = [number for number, move in enumerate(some) if move[0] == "copy"]
        choices = [list(kept) for many in range(len(copies) + 1) for kept in combinations(copies, many)]
        good = [kept for kept in choices if self.has_order(some, kept)]
        return min(good, key=lambda kept: (sum(some[number][3] for number in kept), kept))

    def has_order(self, some, kept):
        left = [number for number in range(len(some)) if number not in kept]
        while left:
            # A move that none must go ahead of is in no ring.
            free = [
                number for number in left
                if not any(must_go_ahead(some[other], some[number]) for other in left if other != number)
            ]
            if not free:
                return False
            left = [number for number in left if number not in free]
        return True

    def check_kept(self, some):
        told = fewest_kept(some)
        self.assertIsInstance(told, list)
        self.assertEqual(told, self.wanted(some))
        return told

    def test_none_to_be_kept(self):
        for some in ([], [("put", 0, "x")], [("copy", 1, 0, 5)], [("copy", 0, 1, 1), ("copy", 1, 2, 1)]):
            self.assertEqual(self.check_kept(some), [])
        self.assertEqual(fewest_kept([("put", to, "x") for to in range(400)]), [])

    def test_one(self):
        self.assertEqual(self.check_kept([("copy", 0, 1, 1), ("copy", 1, 0, 1)]), [0])
        self.assertEqual(self.check_kept([("copy", 0, 1, 3), ("copy", 3, 0, 1)]), [1])
        self.assertEqual(self.check_kept([("copy", 0, 2, 3), ("copy", 3, 0, 2)]), [1])
        self.assertEqual(self.check_kept([("put", 9, "x"), ("copy", 0, 2, 3), ("put", 8, "y"), ("copy", 3, 0, 2)]), [3])

    def test_fewest_signs_not_fewest_copies(self):
        # One copy of five signs is in both rings; two of one sign each break them as well.
        some = [("copy", 0, 5, 5), ("copy", 5, 0, 1), ("copy", 6, 1, 1)]
        self.assertEqual(self.check_kept(some), [1, 2])
        # Here the one of both rings has no more signs than the two.
        self.assertEqual(self.check_kept([("copy", 0, 2, 2), ("copy", 2, 0, 1), ("copy", 3, 1, 1)]), [0])
        self.assertEqual(self.check_kept([("copy", 2, 0, 1), ("copy", 0, 2, 2), ("copy", 3, 1, 1)]), [0, 2])
        self.assertEqual(self.check_kept([("copy", 2, 0, 1), ("copy", 3, 1, 1), ("copy", 0, 2, 2)]), [0, 1])

    def test_several_rings(self):
        some = [("copy", to, to ^ 1, 1) for to in range(10)]
        self.assertEqual(self.check_kept(some), [0, 2, 4, 6, 8])
        self.assertEqual(self.check_kept(some[::-1]), [0, 2, 4, 6, 8])
        self.assertEqual(self.check_kept(some[:4] + [("put", 10, "x")] + some[4:6]), [0, 2, 5])

    def test_the_first_choice_as_lists_are_compared(self):
        ring = [("copy", 0, 1, 1), ("copy", 1, 2, 1), ("copy", 2, 0, 1)]
        for some in permutations(ring):
            self.assertEqual(self.check_kept(list(some)), [0])
        self.assertEqual(self.check_kept([("put", 7, "x")] + ring), [1])

    def test_ten_copies(self):
        for sizes in ([1] * 10, [3, 1, 4, 1, 5, 9, 2, 6, 5, 3], [40] * 10, [2, 1] * 5):
            for order in (
                [9, 8, 7, 6, 5, 4, 3, 2, 1, 0], [1, 2, 3, 4, 5, 6, 7, 8, 9, 0], [9, 0, 1, 2, 3, 4, 5, 6, 7, 8],
                [5, 6, 7, 8, 9, 0, 1, 2, 3, 4], [1, 0, 3, 2, 5, 4, 7, 6, 9, 8], [3, 7, 1, 9, 5, 0, 8, 2, 6, 4],
            ):
                some = moves_of(blocks_change(sizes, order))
                self.assertLessEqual(len(some), 10)
                self.check_kept(some)

    def test_ten_copies_among_puts(self):
        made = Change(100, [
            row for block in (9, 5, 8, 0, 7, 1, 3, 2, 6, 4) for row in (("copy", 10 * block, 9), ("put", "x"))
        ])
        some = moves_of(made)
        self.assertEqual(len(some), 20)
        self.check_kept(some)

    def test_somewhat_more_than_ten_copies(self):
        some = [("copy", to, to ^ 1, 1) for to in range(12)]
        self.assertEqual(fewest_kept(some), [0, 2, 4, 6, 8, 10])

    def test_small_lists_of_moves(self):
        for some in SMALL:
            self.check_kept(some)

    def test_small_changes(self):
        for cells in cells_of(4, 5):
            self.check_kept(moves_of(cells_change(4, cells)))
        for order in permutations(range(5)):
            for sizes in ([1, 2, 3, 2, 1], [3, 1, 1, 2, 2], [2, 2, 1, 4, 1]):
                self.check_kept(moves_of(blocks_change(sizes, order)))

    def test_what_is_handed_in_stays(self):
        some = [("copy", 0, 1, 1), ("copy", 1, 0, 1)]
        fewest_kept(some).append(7)
        self.assertEqual(fewest_kept(some), [0])
        self.assertEqual(some, [("copy", 0, 1, 1), ("copy", 1, 0, 1)])
        self.assertIsNot(fewest_kept([]), fewest_kept([]))


class Handing(unittest.TestCase):
    """Point 2 for this module."""

    def test_the_interface(self):
        for name, parameters in (
            ("moves_of", ["change"]), ("at_once", ["room", "moves"]), ("one_by_one", ["room", "moves"]),
            ("spoilt", ["moves"]), ("spoilt_room", ["moves", "size"]), ("ordered", ["moves"]),
            ("fewest_kept", ["moves"]),
        ):
            function = vars(moves_module)[name]
            self.assertTrue(inspect.isfunction(function))
            self.assertEqual(list(inspect.signature(function).parameters), parameters)

    def test_arguments_by_name(self):
        swap = [("copy", 0, 1, 1), ("copy", 1, 0, 1)]
        self.assertEqual(moves_of(change=Change(2, [("copy", 1, 1), ("copy", 0, 1)])), swap)
        self.assertEqual(at_once(moves=swap, room=["a", "b"]), ["b", "a"])
        self.assertEqual(one_by_one(moves=swap, room=["a", "b"]), ["b", "b"])
        self.assertEqual(spoilt(moves=swap), (1, 0))
        self.assertEqual(len(spoilt_room(size=3, moves=swap)), 3)
        self.assertEqual(ordered(moves=swap)[0], "ring")
        self.assertEqual(fewest_kept(moves=swap), [0])

    def test_a_change_stays_and_told_moves_are_the_askers_own(self):
        made = Change(3, [("copy", 2, 1), ("put", "x"), ("copy", 0, 1)])
        told = moves_of(made)
        told[0] = "!"
        told.append("!")
        self.assertEqual(made, Change(3, [("copy", 2, 1), ("put", "x"), ("copy", 0, 1)]))
        self.assertEqual(moves_of(made), [("copy", 0, 2, 1), ("put", 1, "x"), ("copy", 2, 0, 1)])

    def test_longer_texts(self):
        for old in some_texts(300):
            made = Change(300, [("copy", 200, 100), ("put", "xyz"), ("copy", 50, 150), ("copy", 0, 60)])
            room = list(old) + [None] * 13
            self.assertEqual("".join(at_once(room, moves_of(made))), made.done(old))


if __name__ == "__main__":
    unittest.main()
