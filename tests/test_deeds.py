"""Promises 4 and 5 of books: several changes or none, and trials."""

import unittest

from hueturns.books import Book
from hueturns.errors import (Broken, InUse, InvalidDeeds, InvalidIndex, InvalidName, InvalidWish, NotANet,
                             NothingToUndo, UnknownName)
from tests.samples import (DULL, FULL, KITE, LONE, NO_HUES, PATH, SQUARE, THREE, check_given, check_index, raised)
from tests.test_books import look, with_nets

NO_DEEDS = (
    True, False, None, 0, 1, "", "put", "drop", "drop main", b"drop", [], ["drop", "main"], {}, {"drop": "main"}, set(),
    object(), THREE, len, str, range(2), (), ("put",), ("put", "main"), ("put", "main", SQUARE, SQUARE), ("drop",),
    ("drop", "main", "main"), ("wish",), ("wish", ("round", "main"), 0), ("wish", "round", "main"), ("round", "main"),
    ("lift",), ("lift", 0, 1), ("lift", 0, 0, 0), ("undo",), ("undo", 0), ("trial",), ("Put", "main", SQUARE),
    ("PUT", "main", SQUARE), ("put ", "main", SQUARE), (" drop", "main"), ("", "main"), (b"drop", "main"),
    (None, "main"), (True, "main"), (0, 0), (["drop"], "main"), (("drop",), "main"), ({"drop"}, "main"),
    ({}, "main"), ("main", "drop"), (("drop", "main"),), ("do_all", ("drop", "main")),
)


class Stopped(Exception):
    """What is raised within trials and by what watches here."""


def begun():
    """A book with two nets and two wishes."""
    book = with_nets(main=SQUARE, other=PATH)
    book.wish(("round", "main"))
    book.wish(("no round", "other"))
    return book


def unwound(book):
    """What a book tells of itself, each time that a change is taken back."""
    looks = [look(book)]
    while book.changes:
        book.undo()
        looks.append(look(book))
    return looks


class TestDoAll(unittest.TestCase):
    def test_all(self):
        book = begun()
        deeds = (("put", "main", KITE), ("lift", 1), ("drop", "other"), ("wish", ("plain", "main", 4)),
                 ("put", "main", KITE))
        self.assertEqual(book.do_all(*deeds), 5)
        self.assertEqual(look(book), ([("main", str(KITE))], (("round", "main"), ("plain", "main", 4)), 9, 1))

    def test_each_can_be_taken_back_by_itself(self):
        book, other = begun(), begun()
        book.do_all(("put", "third", LONE), ("wish", ("plain", "third", 0)), ("lift", 0), ("drop", "main"))
        other["third"] = LONE
        other.wish(("plain", "third", 0))
        other.lift(0)
        other.drop("main")
        self.assertEqual(unwound(book), unwound(other))

    def test_no_deeds(self):
        for book in (Book(), begun()):
            before = look(book)
            self.assertEqual([book.do_all(), book.do_all(watch=None), book.do_all(watch=Stopped)], [0, 0, 0])
            self.assertEqual(look(book), before)

    def test_what_the_first_ones_do_is_there_for_the_next_ones(self):
        book = Book()
        self.assertEqual(book.do_all(("put", "a", THREE), ("wish", ("round", "a")), ("lift", 0), ("put", "a", DULL),
                                     ("drop", "a")), 5)
        self.assertEqual([book.names, book.wishes, book.changes], [(), (), 5])

    def test_one_may_fail_for_a_while_only_if_none_does(self):
        # All together they would hold, but each deed has to be right when it is done.
        book = begun()
        before = look(book)
        check_index(self, Broken, 0, book.do_all, ("put", "main", PATH), ("lift", 0))
        self.assertEqual(look(book), before)
        self.assertEqual(book.do_all(("lift", 0), ("put", "main", PATH)), 2)


class TestErrors(unittest.TestCase):
    def unchanged(self, check, *args, **named):
        book = begun()
        before, steps = look(book), unwound(begun())
        check(self, *args[:2], book.do_all, *args[2:], **named)
        self.assertEqual(look(book), before)
        self.assertEqual(unwound(book), steps)

    def test_no_deeds_at_all(self):
        for deed in NO_DEEDS:
            with self.subTest(deed=deed):
                self.unchanged(check_index, InvalidDeeds, 0, deed)
                self.unchanged(check_index, InvalidDeeds, 0, deed, deed)
                self.unchanged(check_index, InvalidDeeds, 1, ("drop", "main"), deed, None)
                self.unchanged(check_index, InvalidDeeds, 2, ("lift", 0), ("drop", "main"), deed, watch=None)

    def test_before_any_deed_is_done(self):
        heard = []
        self.unchanged(check_index, InvalidDeeds, 2, ("lift", 0), ("lift", 99), ("lift",), watch=heard.append)
        self.assertEqual(heard, [])

    def test_the_error_of_the_first_one_that_fails(self):
        for error, value, deed in (
                (InvalidName, "Main", ("put", "Main", SQUARE)), (InvalidName, None, ("put", None, None)),
                (InvalidName, "", ("put", "", [])), (NotANet, "3:", ("put", "a", "3:")),
                (UnknownName, "third", ("drop", "third")), (UnknownName, None, ("drop", None)),
                (InvalidWish, ("round",), ("wish", ("round",))), (InvalidWish, None, ("wish", None)),
                (InvalidIndex, 2, ("lift", 2)), (InvalidIndex, True, ("lift", True)), (InvalidIndex, -1, ("lift", -1))):
            with self.subTest(deed=deed):
                self.unchanged(check_given, error, value, deed)
                self.unchanged(check_given, error, value, ("put", "a", LONE), deed, ("lift", 77))
                self.unchanged(check_given, error, value, ("put", "a", LONE), deed, ("drop", "b"), watch=len)
        for error, index, deed in ((Broken, 0, ("put", "main", PATH)), (Broken, 2, ("wish", ("round", "other"))),
                                   (InUse, 0, ("drop", "main")), (InUse, 1, ("drop", "other"))):
            with self.subTest(deed=deed):
                self.unchanged(check_index, error, index, deed)
                self.unchanged(check_index, error, index, ("put", "a", LONE), ("put", "main", FULL), deed, ("lift", 77))

    def test_anything_may_stand_behind_the_word(self):
        for value in NO_HUES:
            if value.__class__ is not str:
                self.unchanged(check_given, InvalidName, value, ("put", value, SQUARE))
                self.unchanged(check_given, InvalidWish, value, ("wish", value))
                self.unchanged(check_given, UnknownName, value, ("drop", value))


class TestWatch(unittest.TestCase):
    def test_called_right_behind_each_deed(self):
        book = begun()
        heard = []

        def watch(same):
            heard.append((same is book, look(same)))
            return True

        deeds = (("put", "third", LONE), ("lift", 0), ("drop", "main"))
        self.assertEqual(book.do_all(*deeds, watch=watch), 3)
        steps = unwound(book)
        self.assertEqual(heard, [(True, step) for step in steps[2::-1]])

    def test_not_called_behind_what_fails(self):
        book = begun()
        heard = []
        check_index(self, InUse, 1, book.do_all, ("lift", 0), ("put", "a", LONE), ("wish", ("plain", "a", 0)),
                    ("drop", "a"), ("drop", "main"), watch=heard.append)
        self.assertEqual(heard, [book, book, book])
        self.assertEqual(look(book), look(begun()))

    def test_its_errors(self):
        what = Stopped(3)
        for error in (what, KeyError("x"), Broken(5), KeyboardInterrupt()):
            for many in (1, 2, 3):
                book = begun()
                left = [None] * (many - 1)

                def watch(same):
                    if not left:
                        raise error
                    left.pop()

                with self.subTest(error=error, many=many):
                    with self.assertRaises(error.__class__) as caught:
                        book.do_all(("lift", 0), ("drop", "main"), ("put", "a", LONE), watch=watch)
                    self.assertIs(caught.exception, error)
                    self.assertEqual(unwound(book), unwound(begun()))

    def test_its_answers_do_not_matter(self):
        book = begun()
        for answer in (None, False, True, 0, [], Stopped):
            self.assertEqual(book.do_all(("put", "a", LONE), ("drop", "a"), watch=lambda same: answer), 2)
        self.assertEqual(book.changes, 16)


class TestTrials(unittest.TestCase):
    def check_as_begun(self, book):
        self.assertEqual(look(book), look(begun()))
        self.assertEqual(unwound(book), unwound(begun()))

    def test_as_it_was(self):
        book = begun()
        with book.trial() as same:
            self.assertIs(same, book)
            book.lift(0)
            book.drop("main")
            book["third"] = FULL
            self.assertEqual([book.names, book.changes], [("other", "third"), 7])
        self.check_as_begun(book)

    def test_more_taken_back_than_was_done(self):
        book = begun()
        with book.trial():
            book.lift(0)
            while book.changes:
                book.undo()
            raised(self, NothingToUndo, book.undo)
            self.assertEqual([book.names, book.wishes], [(), ()])
            book["other"] = FULL
        self.check_as_begun(book)

    def test_ended_by_an_exception(self):
        book = begun()
        for error in (Stopped, KeyError, KeyboardInterrupt):
            with self.assertRaises(error):
                with book.trial():
                    book.undo()
                    book.do_all(("put", "a", LONE), ("drop", "other"))
                    raise error
        with self.assertRaises(InUse):
            with book.trial():
                book.undo()
                book.drop("other")
                book.drop("main")
        self.check_as_begun(book)

    def test_ended_by_a_return(self):
        book = begun()

        def returned():
            with book.trial():
                book.lift(0)
                return book.changes

        self.assertEqual(returned(), 5)
        self.check_as_begun(book)

    def test_one_trial_entered_several_times_and_within_itself(self):
        book = begun()
        trial = book.trial()
        for _ in range(3):
            with trial:
                book.undo()
                inner = look(book)
                with trial as same:
                    self.assertIs(same, book)
                    same.lift(0)
                    same.drop("main")
                    with trial:
                        while same.changes:
                            same.undo()
                    self.assertEqual(same.names, ("other",))
                self.assertEqual(look(book), inner)
                with self.assertRaises(Stopped):
                    with trial:
                        same.undo()
                        raise Stopped
                self.assertEqual(look(book), inner)
        book["third"] = LONE
        with trial:
            book.drop("third")
        self.assertEqual([book["third"], book.changes], [LONE, 5])
        book.undo()
        self.check_as_begun(book)

    def test_two_books(self):
        book, other = begun(), begun()
        with book.trial(), other.trial():
            book.undo()
            other["a"] = KITE
            self.assertEqual([book.changes, other.changes], [3, 5])
        self.check_as_begun(book)
        self.check_as_begun(other)

    def test_within_do_all_and_around_it(self):
        book = begun()
        heard = []

        def watch(same):
            with same.trial():
                same.undo()
                heard.append(same.changes)

        self.assertEqual(book.do_all(("lift", 0), ("put", "main", PATH), watch=watch), 2)
        self.assertEqual([heard, book.changes, book["main"]], [[4, 5], 6, PATH])
        with book.trial():
            check_given(self, InvalidIndex, 9, book.do_all, ("lift", 0), ("lift", 9))
            self.assertEqual(book.changes, 6)

    def test_tried(self):
        book = begun()
        heard = []
        found = book.tried(lambda same: heard.append(same) or (same.lift(0), same.changes, same.tried(Book.undo)))
        self.assertEqual([found, len(heard), heard[0] is book], [(None, 5, None), 1, True])
        self.assertIs(book.tried(action=lambda same: heard), heard)
        what = Stopped(4)

        def action(same):
            same.drop("other") if same.lift(1) else same.lift(0)
            raise what

        with self.assertRaises(Stopped) as caught:
            book.tried(action)
        self.assertIs(caught.exception, what)
        check_index(self, InUse, 0, book.tried, lambda same: same.drop("main"))
        self.check_as_begun(book)

    def test_trials_equal_themselves_alone(self):
        book = begun()
        trial = book.trial()
        self.assertEqual([trial == trial, trial != trial, trial == book.trial(), trial != book.trial(), bool(trial)],
                         [True, False, False, True, True])
        self.assertNotIn(trial, (book, None, 0, (), ""))


if __name__ == "__main__":
    unittest.main()
