"""Point 8 of the document."""

import inspect
import unittest
from itertools import product

from remadehere import finding
from remadehere.changes import Change
from remadehere.finding import cost, found_change

PRICES = (1, 2, 3, 4, 5, 20)


def texts_up_to(most, signs):
    return ["".join(text) for size in range(most + 1) for text in product(signs, repeat=size)]


def all_rows(old, new):
    """Every list of rows that makes the new text of the old one."""
    if not new:
        return [[]]
    found = []
    for many in range(1, len(new) + 1):
        starts = [("put", new[:many])]
        starts += [("copy", at, many) for at in range(len(old) - many + 1) if old[at:at + many] == new[:many]]
        found += [[start] + rest for start in starts for rest in all_rows(old, new[many:])]
    return found


def counted(rows, price):
    total = 0
    for row in rows:
        total += price
        if row[0] == "put":
            total += len(row[1])
    return total


def least_cost(old, new, price):
    """The least cost, counted sign by sign: to have come so far by a put, or by a copy of each old place."""
    least, put, copies = 0, None, {}
    for sign in new:
        fresh = least + price
        put = fresh + 1 if put is None else min(put + 1, fresh + 1)
        copies = {
            at: min(fresh, copies[at - 1]) if at - 1 in copies else fresh
            for at in range(len(old)) if old[at] == sign
        }
        least = min([put] + list(copies.values()))
    return least


def grown_word(rule, size):
    """A word without plain repeats: its signs are replaced over and over by a rule."""
    word = "a"
    while len(word) < size:
        word = "".join([rule[sign] for sign in word])
    return word[:size]


class Cost(unittest.TestCase):
    def test_costs(self):
        for size, rows, price, wanted in (
            (0, [], 1, 0),
            (7, [], 20, 0),
            (7, [("copy", 0, 7)], 1, 1),
            (7, [("copy", 0, 7)], 20, 20),
            (0, [("put", "abc")], 1, 4),
            (0, [("put", "abc")], 20, 23),
            (7, [("copy", 0, 7), ("put", "ab"), ("copy", 1, 1), ("put", "c")], 5, 23),
            (7, [("put", "a"), ("put", "b")], 3, 8),
            (400, [("copy", 399, 1)] * 400, 20, 8000),
            (0, [("put", "x" * 400)], 20, 420),
            (0, [("put", "x")] * 400, 1, 800),
        ):
            self.assertEqual(cost(Change(size, rows), price), wanted)

    def test_the_price_is_four_where_it_is_left_out(self):
        made = Change(7, [("copy", 0, 7), ("put", "ab"), ("copy", 1, 1)])
        self.assertEqual(cost(made), 14)
        self.assertEqual(cost(made), cost(made, 4))

    def test_arguments_by_name(self):
        made = Change(7, [("copy", 0, 7), ("put", "ab")])
        self.assertEqual(cost(price=2, change=made), 6)
        self.assertEqual(cost(change=made), 10)
        self.assertEqual(made.rows, [("copy", 0, 7), ("put", "ab")])


class Found(unittest.TestCase):
    def check_found(self, old, new, price):
        told = found_change(old, new, price)
        self.assertIsInstance(told, Change)
        self.assertEqual(told.size, len(old))
        self.assertEqual(told.done(old), new)
        self.assertEqual(cost(told, price), least_cost(old, new, price))
        return told

    def test_the_count_in_this_test_is_right(self):
        for old in texts_up_to(3, "ab"):
            for new in texts_up_to(5, "abc"):
                rows = all_rows(old, new)
                for price in (1, 2, 4):
                    self.assertEqual(least_cost(old, new, price), min([counted(some, price) for some in rows]))

    def test_small_texts(self):
        for old in texts_up_to(4, "ab"):
            for new in texts_up_to(5, "abc"):
                for price in PRICES:
                    self.check_found(old, new, price)

    def test_longer_texts_of_two_signs(self):
        for old in ("abba", "aabab", "abaabb", "bbbbbbbb"):
            for new in product("ab", repeat=9):
                for price in (1, 4):
                    self.check_found(old, "".join(new), price)

    def test_the_price_is_four_where_it_is_left_out(self):
        for old, new in product(texts_up_to(4, "ab"), repeat=2):
            self.assertEqual(cost(found_change(old, new)), least_cost(old, new, 4))
        # Six signs put cost 10, copied by two rows 8, by three rows 12.
        self.assertEqual(found_change("abc!def", "abcdef").rows, [("copy", 0, 3), ("copy", 4, 3)])
        self.assertEqual(found_change("ab!cd!ef", "abcdef").rows, [("put", "abcdef")])

    def test_the_price_decides(self):
        # Three single copies, or one put of all: 3 rows against 1 row and 3 signs.
        self.assertEqual(found_change("acb", "abc", 1).done("acb"), "abc")
        self.assertEqual(cost(found_change("acb", "abc", 1), 1), 3)
        self.assertEqual(found_change("acb", "abc", 2).rows, [("put", "abc")])
        self.assertEqual(found_change("acb", "abc", 20).rows, [("put", "abc")])

    def test_texts_of_no_signs(self):
        for price in PRICES:
            self.assertEqual(found_change("", "", price), Change(0, []))
            self.assertEqual(found_change("abc", "", price), Change(3, []))
            self.assertEqual(found_change("", "abc", price), Change(0, [("put", "abc")]))
        self.assertEqual(found_change("x" * 400, ""), Change(400, []))
        self.assertEqual(found_change("", "x" * 400), Change(0, [("put", "x" * 400)]))

    def test_texts_that_are_the_same(self):
        for text in ("a", "abc", "aaaa", "~!~!", "x" * 400):
            self.assertEqual(found_change(text, text), Change(len(text), [("copy", 0, len(text))]))

    def test_four_hundred_signs(self):
        thue = grown_word({"a": "ab", "b": "ba"}, 400)
        fibonacci = grown_word({"a": "ab", "b": "a"}, 400)
        three = grown_word({"a": "abc", "b": "ac", "c": "b"}, 400)
        halves = "a" * 199 + "b" + "a" * 200
        texts = ["a" * 400, "ab" * 200, thue, fibonacci, three, halves, thue[::-1]]
        for old, new in product(texts, repeat=2):
            self.assertEqual((len(old), len(new)), (400, 400))
            self.check_found(old, new, 4)
        for price in (1, 20):
            self.check_found(thue, three, price)
            self.check_found(three, thue, price)

    def test_four_hundred_signs_with_nothing_in_common(self):
        self.assertEqual(self.check_found("a" * 400, "b" * 400, 1).rows, [("put", "b" * 400)])

    def test_four_hundred_rows(self):
        # The old text has no two signs beside one another that the new one has; a put of n signs costs 1 + n.
        old = "".join([chr(code) for code in range(126, 37, -1)])
        new = (old[::-1] * 5)[:400]
        self.assertEqual(len(self.check_found(old, new, 1)), 400)

    def test_arguments_by_name(self):
        told = found_change(new="cab", old="abc", price=1)
        self.assertEqual(told.done(old="abc"), "cab")
        self.assertEqual(cost(told, price=1), 2)
        self.assertEqual(found_change(new="ab", old="ab"), Change(2, [("copy", 0, 2)]))

    def test_each_told_change_is_a_new_one(self):
        one, two = found_change("abc", "bca"), found_change("abc", "bca")
        self.assertEqual(one, two)
        self.assertIsNot(one, two)
        self.assertIsNot(one.rows, two.rows)

    def test_the_interface(self):
        for name in ("cost", "found_change"):
            self.assertTrue(inspect.isfunction(vars(finding)[name]))
            self.assertEqual(inspect.signature(vars(finding)[name]).parameters["price"].default, 4)


if __name__ == "__main__":
    unittest.main()
