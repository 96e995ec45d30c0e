"""Points 20 and 21 of the document, with 2 and 3 for what they tell."""

import inspect
import unittest
from itertools import product

from remadehere.changes import Change, behind, plainest, undone
from remadehere.cuts import Runner, fewest_marks, writes
from remadehere.errors import BadSize, Busy, NoSpare, NoVersion
from remadehere.finding import found_change
from remadehere.plans import planned
from remadehere.shelf import Shelf
from walking import BIG, ALL_SIGNS, cells_change, cells_of, some_texts

TEXTS = ("abcde", "deabc", "", "xxabcdexx", "edcba", "abcde")


def filled(texts, spare=1):
    """A shelf with these texts as its versions, each by a found change of the one ahead."""
    shelf = Shelf(texts[0], spare)
    for old, new in zip(texts, texts[1:]):
        shelf.take(found_change(old, new))
    return shelf


def arrive(shelf):
    """Steps until one does nothing; how many did something."""
    many = 0
    while shelf.step():
        many += 1
    return many


def state(shelf):
    """All that a shelf that stands tells of itself."""
    many = shelf.versions()
    return (shelf.at(), shelf.text(), many, [str(shelf.between(first, last)) for first, last in
                                             product(range(many), repeat=2)])


class Taking(unittest.TestCase):
    """Point 20."""

    def test_a_new_shelf(self):
        for text in ("", "a", "abc", "x" * 400, ALL_SIGNS):
            shelf = Shelf(text)
            self.assertEqual((shelf.at(), shelf.text(), shelf.versions()), (0, text, 1))

    def test_versions_are_numbered_as_they_are_taken(self):
        shelf = Shelf("abc")
        self.assertEqual(shelf.take(Change(3, [("copy", 1, 2)])), 1)
        self.assertEqual(shelf.take(Change(2, [("put", "xyz")])), 2)
        self.assertEqual(shelf.take(Change(3, [])), 3)
        self.assertEqual(shelf.take(Change(0, [])), 4)
        self.assertEqual(shelf.versions(), 5)
        self.assertEqual((shelf.at(), shelf.text()), (0, "abc"))

    def test_a_change_of_another_size_is_refused(self):
        shelf = Shelf("abc")
        for size in (0, 2, 4, 400):
            with self.assertRaises(BadSize):
                shelf.take(Change(size, []))
        self.assertEqual(shelf.versions(), 1)
        self.assertEqual(shelf.take(Change(3, [("copy", 0, 1)])), 1)
        # It is the last version whose size counts, not the one where it stands.
        for size in (0, 2, 3):
            with self.assertRaises(BadSize):
                shelf.take(Change(size, []))
        self.assertEqual((shelf.versions(), shelf.at(), shelf.text()), (2, 0, "abc"))
        self.assertEqual(shelf.take(Change(1, [])), 2)

    def test_between_forward(self):
        shelf = Shelf("abcde")
        first = Change(5, [("copy", 0, 1), ("copy", 1, 1), ("put", "x"), ("put", "y")])
        second = Change(4, [("copy", 3, 1), ("copy", 0, 2)])
        third = Change(3, [("copy", 1, 2), ("copy", 0, 1)])
        for change in (first, second, third):
            shelf.take(change)
        self.assertEqual(shelf.between(0, 1), Change(5, [("copy", 0, 2), ("put", "xy")]))
        self.assertEqual(shelf.between(1, 2), second)
        self.assertEqual(shelf.between(0, 2), Change(5, [("put", "y"), ("copy", 0, 2)]))
        self.assertEqual(shelf.between(0, 3), Change(5, [("copy", 0, 2), ("put", "y")]))
        self.assertEqual(shelf.between(1, 3), Change(4, [("copy", 0, 2), ("copy", 3, 1)]))

    def test_between_back(self):
        shelf = Shelf("abcde")
        shelf.take(Change(5, [("copy", 3, 2), ("copy", 3, 2), ("copy", 0, 1)]))
        shelf.take(Change(5, [("put", "z"), ("copy", 2, 3)]))
        self.assertEqual(shelf.between(1, 0), Change(5, [("copy", 4, 1), ("put", "bc"), ("copy", 0, 2)]))
        self.assertEqual(shelf.between(2, 1), Change(4, [("put", "de"), ("copy", 1, 3)]))
        self.assertEqual(shelf.between(2, 0), Change(4, [("copy", 3, 1), ("put", "bc"), ("copy", 1, 2)]))

    def test_back_over_several_is_undone_at_once(self):
        # Undone one behind the other, the sign would be put: version 2 has not the first one of version 1.
        shelf = Shelf("a")
        shelf.take(Change(1, [("copy", 0, 1), ("copy", 0, 1)]))
        shelf.take(Change(2, [("copy", 1, 1)]))
        self.assertEqual(shelf.between(2, 0), Change(1, [("copy", 0, 1)]))
        for texts in (TEXTS, ("aab", "abab", "bb", "bab")):
            shelf = filled(texts)
            for last in range(len(texts)):
                for first in range(last):
                    self.assertEqual(shelf.between(last, first), undone(shelf.between(first, last), texts[first]))

    def test_of_a_version_to_itself(self):
        shelf = Shelf("abc")
        shelf.take(Change(3, []))
        shelf.take(Change(0, [("put", "x" * 400)]))
        self.assertEqual(shelf.between(0, 0), Change(3, [("copy", 0, 3)]))
        self.assertEqual(shelf.between(1, 1), Change(0, []))
        self.assertEqual(shelf.between(2, 2), Change(400, [("copy", 0, 400)]))

    def test_of_the_empty_text(self):
        shelf = Shelf("")
        self.assertEqual(shelf.between(0, 0), Change(0, []))
        shelf.take(Change(0, []))
        shelf.take(Change(0, [("put", "a"), ("put", "b")]))
        self.assertEqual(shelf.between(0, 1), Change(0, []))
        self.assertEqual(shelf.between(1, 0), Change(0, []))
        self.assertEqual(shelf.between(0, 2), Change(0, [("put", "ab")]))
        self.assertEqual(shelf.between(2, 0), Change(2, []))

    def test_what_is_between_makes_the_one_of_the_other(self):
        shelf = filled(TEXTS)
        for first, last in product(range(len(TEXTS)), repeat=2):
            told = shelf.between(first, last)
            self.assertEqual(told.done(TEXTS[first]), TEXTS[last])
            self.assertEqual(told, plainest(told))

    def test_against_the_words_of_the_document(self):
        changes = [cells_change(2, cells) for cells in cells_of(2, 2)]
        for one, two in product(changes, repeat=2):
            shelf = Shelf("ab")
            shelf.take(one), shelf.take(two)
            self.assertEqual(shelf.between(0, 1), plainest(one))
            self.assertEqual(shelf.between(0, 2), behind(one, two))
            self.assertEqual(shelf.between(2, 0), undone(behind(one, two), "ab"))
            self.assertEqual(shelf.between(2, 1), undone(two, one.done("ab")))

    def test_versions_that_are_not_there(self):
        shelf = filled(TEXTS[:3])
        for bad in (-1, -2, -3, 3, 4, BIG, -BIG):
            for first, last in ((bad, 0), (0, bad), (2, bad), (bad, 2), (bad, bad)):
                with self.assertRaises(NoVersion):
                    shelf.between(first, last)
        shelf.drop()
        for first, last in ((2, 0), (0, 2), (2, 2)):
            with self.assertRaises(NoVersion):
                shelf.between(first, last)

    def test_between_is_told_on_its_way_too(self):
        shelf = filled(TEXTS)
        shelf.go(1)
        shelf.step()
        self.assertEqual(shelf.between(0, 1).done(TEXTS[0]), TEXTS[1])
        self.assertEqual(shelf.between(4, 3).done(TEXTS[4]), TEXTS[3])

    def test_changes_are_kept_as_copies(self):
        rows = [("copy", 1, 2), ("put", "x")]
        change = Change(3, rows)
        shelf = Shelf("abc")
        shelf.take(change)
        told = shelf.between(0, 1)
        self.assertIsNot(told, change)
        self.assertIsNot(told, shelf.between(0, 1))
        self.assertIsNot(told.rows, shelf.between(0, 1).rows)
        told.rows.clear()
        change.rows.clear()
        self.assertEqual(shelf.between(0, 1), Change(3, rows))
        shelf.between(0, 0).rows.clear()
        self.assertEqual(shelf.between(0, 0), Change(3, [("copy", 0, 3)]))

    def test_many_versions(self):
        shelf = Shelf(ALL_SIGNS)
        texts = [ALL_SIGNS]
        for number in range(1, 200):
            change = Change(93, [("copy", number % 92 + 1, 92 - number % 92), ("copy", 0, number % 92 + 1)])
            self.assertEqual(shelf.take(change), number)
            texts.append(change.done(texts[-1]))
        for first, last in ((0, 199), (199, 0), (150, 3), (7, 8)):
            self.assertEqual(shelf.between(first, last).done(texts[first]), texts[last])


class Going(unittest.TestCase):
    """Point 21."""

    def test_to_and_fro(self):
        for spare in (1, 2, 5, 400):
            shelf = filled(TEXTS, spare)
            for version in (1, 0, 2, 3, 0, 5, 4, 4, 2, 2, 1, 3, 5, 0):
                self.assertIsNone(shelf.go(version))
                self.assertIsNone(shelf.at())
                arrive(shelf)
                self.assertEqual((shelf.at(), shelf.text()), (version, TEXTS[version]))

    def test_the_default_spare_is_one(self):
        shelf = Shelf("ab")
        shelf.take(Change(2, [("copy", 1, 1), ("copy", 0, 1)]))
        shelf.go(1)
        self.assertEqual(arrive(shelf), 5)
        self.assertEqual(shelf.text(), "ba")

    def test_plan_and_marks_are_those_that_are_told_elsewhere(self):
        for spare in (1, 2, 3):
            for first, last in product(range(len(TEXTS)), repeat=2):
                shelf = filled(TEXTS, spare)
                shelf.go(first)
                arrive(shelf)
                plan = planned(shelf.between(first, last), spare)
                marks = fewest_marks(writes(plan))[0]
                runner = Runner(TEXTS[first], plan, marks, spare, len(TEXTS[last]))
                shelf.go(last)
                for number in range(len(writes(plan)) + len(marks)):
                    # A cut now and then, no more than it can make up for.
                    if number % 7 == 3:
                        shelf.cut(), runner.cut()
                    self.assertEqual(shelf.step(), runner.step())
                while runner.step():
                    self.assertIs(shelf.step(), True)
                self.assertIsNone(shelf.at())
                self.assertIs(shelf.step(), False)
                self.assertEqual((shelf.at(), shelf.text()), (last, TEXTS[last]))

    def test_to_where_it_stands(self):
        for text in ("abc", ""):
            shelf = Shelf(text, 0)
            shelf.go(0)
            self.assertIsNone(shelf.at())
            for refused in (shelf.text, shelf.drop, lambda: shelf.go(0)):
                with self.assertRaises(Busy):
                    refused()
            shelf.cut()
            self.assertIsNone(shelf.at())
            self.assertIs(shelf.step(), False)
            self.assertEqual((shelf.at(), shelf.text()), (0, text))

    def test_a_way_ends_only_with_a_step_that_does_nothing(self):
        shelf = Shelf("ab")
        shelf.take(Change(2, [("copy", 0, 2), ("put", "c")]))
        shelf.go(1)
        self.assertIs(shelf.step(), True)
        self.assertIsNone(shelf.at())
        with self.assertRaises(Busy):
            shelf.text()
        # Cut off behind the last write, it is done once more.
        self.assertIsNone(shelf.cut())
        self.assertIs(shelf.step(), True)
        self.assertIs(shelf.step(), False)
        self.assertEqual((shelf.at(), shelf.text()), (1, "abc"))

    def test_where_it_stands_steps_and_cuts_do_nothing(self):
        shelf = filled(TEXTS)
        for version in (0, 1, 2):
            shelf.go(version)
            arrive(shelf)
            kept = state(shelf)
            for _ in range(3):
                self.assertIs(shelf.step(), False)
                self.assertIsNone(shelf.cut())
            self.assertEqual(state(shelf), kept)

    def test_cut_off_at_each_moment(self):
        for first, last in product(range(len(TEXTS)), repeat=2):
            shelf = filled(TEXTS, 2)
            shelf.go(last)
            whole = arrive(shelf)
            for moment in range(whole + 1):
                for again in (0, 1, moment, whole):
                    shelf = filled(TEXTS, 2)
                    shelf.go(last)
                    for many in (moment, again):
                        for _ in range(many):
                            shelf.step()
                        shelf.cut()
                    arrive(shelf)
                    self.assertEqual((shelf.at(), shelf.text()), (last, TEXTS[last]))
                    shelf.go(first)
                    arrive(shelf)
                    self.assertEqual((shelf.at(), shelf.text()), (first, TEXTS[first]))

    def test_the_longest(self):
        texts = some_texts(400) + ["", "x" * 400]
        shelf = Shelf(texts[0])
        shelf.take(Change(400, [("put", texts[1])]))
        shelf.take(Change(400, [("copy", place, 1) for place in range(399, -1, -1)]))
        shelf.take(Change(400, [("copy", 200, 200), ("copy", 0, 200)]))
        shelf.take(Change(400, []))
        shelf.take(Change(0, [("put", "x" * 400)]))
        turned = texts[1][::-1]
        wanted = [texts[0], texts[1], turned, turned[200:] + turned[:200], "", "x" * 400]
        for version in (2, 3, 0, 1, 3, 5, 4, 2, 1):
            shelf.go(version)
            for many in (3, 150, 401):
                for _ in range(many):
                    shelf.step()
                shelf.cut()
            arrive(shelf)
            self.assertEqual((shelf.at(), shelf.text()), (version, wanted[version]))

    def test_busy_goes_first(self):
        shelf = filled(TEXTS)
        shelf.go(1)
        for version in (0, 1, 2, -1, 6, BIG):
            with self.assertRaises(Busy):
                shelf.go(version)
        with self.assertRaises(Busy):
            shelf.text()
        with self.assertRaises(Busy):
            shelf.drop()
        self.assertEqual(shelf.versions(), 6)
        arrive(shelf)
        self.assertEqual((shelf.at(), shelf.text()), (1, TEXTS[1]))

    def test_busy_goes_ahead_of_no_spare(self):
        shelf = Shelf("ab", 0)
        shelf.take(Change(2, [("copy", 1, 1), ("copy", 0, 1)]))
        shelf.go(0)
        with self.assertRaises(Busy):
            shelf.go(1)
        shelf.step()
        with self.assertRaises(NoSpare):
            shelf.go(1)

    def test_no_version(self):
        shelf = filled(TEXTS)
        kept = state(shelf)
        for version in (-1, -6, 6, 7, BIG, -BIG):
            with self.assertRaises(NoVersion):
                shelf.go(version)
            self.assertEqual(state(shelf), kept)
        shelf.drop()
        with self.assertRaises(NoVersion):
            shelf.go(5)
        self.assertEqual(shelf.at(), 0)

    def test_a_spare_of_none(self):
        shelf = Shelf("abc", 0)
        shelf.take(Change(3, [("copy", 1, 1), ("copy", 0, 1), ("copy", 2, 1)]))
        shelf.take(Change(3, [("copy", 1, 1), ("copy", 0, 1), ("put", "x")]))
        kept = state(shelf)
        with self.assertRaises(NoSpare) as caught:
            shelf.go(1)
        self.assertEqual(caught.exception.need, 1)
        self.assertEqual(state(shelf), kept)
        self.assertIs(shelf.step(), False)
        self.assertIsNone(shelf.cut())
        self.assertEqual(state(shelf), kept)
        # Version 2 is version 0 but for its last sign; the way back from 2 to 1 can spare that cell.
        shelf.go(2)
        arrive(shelf)
        self.assertEqual(shelf.text(), "abx")
        shelf.go(1)
        arrive(shelf)
        self.assertEqual((shelf.at(), shelf.text()), (1, "bac"))
        with self.assertRaises(NoSpare):
            shelf.go(0)
        self.assertEqual((shelf.at(), shelf.text()), (1, "bac"))

    def test_a_great_spare(self):
        for spare in (400, 10 ** 30):
            shelf = Shelf("abcd", spare)
            shelf.take(Change(4, [("copy", 2, 2), ("copy", 0, 2)]))
            shelf.go(1)
            arrive(shelf)
            self.assertEqual(shelf.text(), "cdab")


class Dropping(unittest.TestCase):
    """Point 21: versions taken and dropped, wherever it is."""

    def test_the_last_one_is_dropped(self):
        shelf = filled(TEXTS)
        for left in (5, 4, 3, 2, 1):
            self.assertIsNone(shelf.drop())
            self.assertEqual(shelf.versions(), left)
        with self.assertRaises(NoVersion):
            shelf.drop()
        self.assertEqual((shelf.versions(), shelf.at(), shelf.text()), (1, 0, TEXTS[0]))

    def test_not_where_it_stands_at_it(self):
        shelf = filled(TEXTS[:3])
        shelf.go(2)
        arrive(shelf)
        kept = state(shelf)
        with self.assertRaises(NoVersion):
            shelf.drop()
        self.assertEqual(state(shelf), kept)
        shelf.go(1)
        arrive(shelf)
        shelf.drop()
        with self.assertRaises(NoVersion):
            shelf.drop()
        self.assertEqual((shelf.versions(), shelf.at(), shelf.text()), (2, 1, TEXTS[1]))

    def test_not_version_0(self):
        for text in ("", "abc"):
            with self.assertRaises(NoVersion):
                Shelf(text).drop()

    def test_busy_goes_ahead_of_no_version(self):
        shelf = Shelf("abc")
        shelf.go(0)
        with self.assertRaises(Busy):
            shelf.drop()
        shelf.step()
        with self.assertRaises(NoVersion):
            shelf.drop()
        shelf = filled(TEXTS[:2])
        for version in (1, 0):
            shelf.go(version)
            with self.assertRaises(Busy):
                shelf.drop()
            arrive(shelf)

    def test_taken_anew_behind_a_drop(self):
        shelf = filled(TEXTS[:3])
        shelf.drop()
        with self.assertRaises(BadSize):
            shelf.take(Change(0, []))
        self.assertEqual(shelf.take(Change(5, [("put", "new")])), 2)
        shelf.go(2)
        arrive(shelf)
        self.assertEqual((shelf.at(), shelf.text()), (2, "new"))
        self.assertEqual(shelf.between(2, 0).done("new"), TEXTS[0])

    def test_taken_on_its_way(self):
        shelf = filled(TEXTS[:2])
        shelf.go(1)
        self.assertTrue(shelf.step())
        self.assertEqual(shelf.take(Change(5, [("copy", 4, 1), ("put", "!")])), 2)
        self.assertEqual(shelf.versions(), 3)
        with self.assertRaises(BadSize):
            shelf.take(Change(5, []))
        shelf.cut()
        self.assertEqual(shelf.take(Change(2, [])), 3)
        arrive(shelf)
        self.assertEqual((shelf.at(), shelf.text()), (1, TEXTS[1]))
        shelf.go(2)
        arrive(shelf)
        self.assertEqual(shelf.text(), "c!")
        shelf.drop()
        with self.assertRaises(NoVersion):
            shelf.drop()

    def test_shelves_share_nothing(self):
        one, two = filled(TEXTS), filled(TEXTS)
        one.go(3)
        arrive(one)
        one.drop()
        self.assertEqual((two.at(), two.text(), two.versions()), (0, TEXTS[0], 6))

    def test_arguments_by_name(self):
        shelf = Shelf(spare=2, text="abcd")
        self.assertEqual(shelf.take(change=Change(4, [("copy", 2, 2), ("copy", 0, 2)])), 1)
        self.assertEqual(shelf.between(last=0, first=1).done("cdab"), "abcd")
        self.assertIsNone(shelf.go(version=1))
        arrive(shelf)
        self.assertEqual(shelf.text(), "cdab")

    def test_the_interface(self):
        for name in ("__init__", "take", "between", "go", "step", "cut", "at", "text", "drop", "versions"):
            self.assertTrue(inspect.isfunction(vars(Shelf)[name]))
        told = inspect.signature(Shelf).parameters
        self.assertEqual(list(told), ["text", "spare"])
        self.assertEqual(told["spare"].default, 1)


class Whole(unittest.TestCase):
    """Point 3: each version is as it was taken, whatever ways it went."""

    def test_all_ways_of_small_shelves(self):
        for cells in cells_of(3, 3):
            one, two = cells_change(3, cells), cells_change(3, [2, 0, 1])
            texts = ["abc", one.done("abc"), two.done(one.done("abc"))]
            shelf = Shelf("abc")
            shelf.take(one), shelf.take(two)
            number = 0
            for version in (1, 2, 0, 2, 1, 0, 0):
                shelf.go(version)
                for many in range(6):
                    for _ in range((number * 5 + many) % 4):
                        shelf.step()
                    shelf.cut()
                    number += 1
                arrive(shelf)
                self.assertEqual((shelf.at(), shelf.text()), (version, texts[version]))


if __name__ == "__main__":
    unittest.main()
