"""Promises 1 to 3 of books: nets under names, wishes, and that all wishes hold after each change."""

import itertools
import random
import unittest

from hueturns.books import Book
from hueturns.errors import (Broken, InUse, InvalidIndex, InvalidName, InvalidWish, NotANet, NothingToUndo,
                             UnknownName)
from hueturns.nets import Net
from tests.plain_search import all_nets, all_ways, has_ring, is_plain_in, stands_after
from tests.samples import (DULL, EMPTY_NINE, FULL, KITE, LONE, NO_INTEGERS, NO_NETS, PATH, SQUARE, THREE, check_given,
                           check_index, raised, some_net)

NAMES = ("a", "z", "main", "abcdefgh", "zzzzzzzz", "qwertyui")
NO_NAMES = (True, False, None, 0, 1, 10 ** 30, "", " ", "A", "Main", "maiN", "abcdefghi", "a" * 4000, "a b", " a", "a ",
            "a\n", "\n", "a1", "1", "a_", "a-b", ".", b"", b"a", (), ("a",), ["a"], [], {"a"}, {"a": 1}, {}, object(),
            THREE, str, len)
OTHER_WORDS = (True, None, 0, "", "Round", "round ", " round", "no  round", "noround", "no_round", "plains", "ways",
               "no plain", "no walk", "core", "turn", "a", b"round", ("round",), ["round"], {"round"}, object(), str)
NUMBERS = (0, 1, 2, 3, 7, 100, 10 ** 30 - 1, 10 ** 30)


def look(book):
    """All that a book tells of itself."""
    return ([(name, str(book[name])) for name in book.names], book.wishes, book.changes, len(book))


def all_wishes(name, places=range(9), numbers=NUMBERS):
    """All wishes about a name, with some numbers of roads."""
    pairs = list(itertools.product(places, repeat=2))
    return [("round", name), ("no round", name), *(("plain", name, place) for place in places),
            *((word, name, *pair) for word in ("way", "no way") for pair in pairs),
            *(("walk", name, *pair, many) for pair in pairs for many in numbers)]


def is_so(net, wish):
    """Whether what a wish says is so in a net."""
    word, _, *about = wish
    if not all(place < net.size for place in about[:2]):
        return False
    if word in ("round", "no round"):
        return has_ring(net) is (word == "round")
    if word == "plain":
        return is_plain_in(net, about[0], range(net.size))
    if word == "walk":
        return about[1] in [place for place, _ in stands_after(net, [(about[0], None)], about[2])]
    return about[0] != about[1] and bool(all_ways(net, *about)) is (word == "way")


def with_nets(**nets):
    """A book with these nets under their names."""
    book = Book()
    for name, net in nets.items():
        book[name] = net
    return book


class TestNets(unittest.TestCase):
    def test_at_first(self):
        book = Book()
        self.assertEqual([len(book), bool(book), book.names, book.wishes, book.changes], [0, False, (), (), 0])
        self.assertNotIn("main", book)
        raised(self, NothingToUndo, book.undo)

    def test_put_and_taken(self):
        book = Book()
        for many, name in enumerate(NAMES, 1):
            book[name] = KITE
            self.assertIs(book[name], KITE)
            self.assertIn(name, book)
            self.assertEqual([len(book), bool(book), book.changes], [many, True, many])
            self.assertEqual(book.names, tuple(sorted(NAMES[:many])))
        self.assertEqual(repr(book.names), "('a', 'abcdefgh', 'main', 'qwertyui', 'z', 'zzzzzzzz')")

    def test_put_in_the_place_of_another_one(self):
        book = with_nets(main=SQUARE, other=LONE)
        book["main"] = PATH
        self.assertEqual([book["main"], book["other"], len(book), book.changes], [PATH, LONE, 2, 3])
        book["main"] = PATH
        self.assertEqual(book.changes, 4)
        book.undo()
        book.undo()
        self.assertEqual([book["main"], book.changes], [SQUARE, 2])

    def test_in(self):
        book = with_nets(main=SQUARE)
        for value in (*NO_NAMES, *NO_NETS, "other", "mai", "mainx", "ma in"):
            with self.subTest(value=value):
                self.assertIs(value in book, False)
                self.assertIs(value not in book, True)
        self.assertIs("main" in book, True)

    def test_dropped(self):
        book = with_nets(main=SQUARE, other=LONE)
        self.assertIsNone(book.drop("main"))
        self.assertEqual([book.names, len(book), "main" in book, book.changes], [("other",), 1, False, 3])
        self.assertIsNone(book.drop(name="other"))
        self.assertEqual([book.names, bool(book), book.changes], [(), False, 4])
        check_given(self, UnknownName, "main", book.drop, "main")
        book.undo()
        book.undo()
        self.assertEqual([book.names, book["main"], book["other"]], [("main", "other"), SQUARE, LONE])

    def test_unknown_names(self):
        book = with_nets(main=SQUARE)
        before = look(book)
        for value in (*NO_NAMES, *NO_NETS, "other", "mai", "mainx"):
            with self.subTest(value=value):
                check_given(self, UnknownName, value, lambda: book[value])
                check_given(self, UnknownName, value, book.drop, value)
                check_given(self, UnknownName, value, book.drop, name=value)
        self.assertEqual(look(book), before)

    def test_wrong_names_and_nets(self):
        book = with_nets(main=SQUARE)
        book.wish(("round", "main"))
        before = look(book)

        def put(name, net):
            book[name] = net

        for name in NO_NAMES:
            with self.subTest(name=name):
                check_given(self, InvalidName, name, put, name, SQUARE)
                check_given(self, InvalidName, name, put, name, None)
        for net in NO_NETS:
            with self.subTest(net=net):
                check_given(self, NotANet, net, put, "main", net)
                check_given(self, NotANet, net, put, "other", net)
        check_index(self, Broken, 0, put, "main", PATH)
        self.assertEqual(look(book), before)


class TestWishes(unittest.TestCase):
    def check(self, net, wishes):
        for wish in wishes:
            book = with_nets(a=LONE, main=net)
            with self.subTest(net=str(net), wish=wish):
                if is_so(net, wish):
                    self.assertIsNone(book.wish(wish))
                    self.assertEqual([book.wishes, book.changes], [(wish,), 3])
                    self.assertIs(book.wishes[0], wish)
                else:
                    check_index(self, Broken, 0, book.wish, wish)
                    self.assertEqual([book.wishes, book.changes], [(), 2])

    def test_all_wishes_about_small_nets(self):
        wishes = all_wishes("main", range(4), (0, 1, 2, 3, 10 ** 30))
        for net in (*all_nets(1, "a"), *all_nets(2, "ab"), *all_nets(3, "ab")):
            self.check(net, wishes)

    def test_all_wishes_about_the_documents_nets(self):
        for net in (THREE, DULL, SQUARE, KITE, PATH, FULL):
            self.check(net, all_wishes("main"))

    def test_nine_places(self):
        source = random.Random(111)
        wishes = all_wishes("main", (0, 4, 8), (2, 5, 10 ** 30))
        for net in (EMPTY_NINE, some_net(source, 9, "ab", 0.2), some_net(source, 8, "abc", 0.2)):
            self.check(net, wishes)

    def test_nets_that_are_not_there(self):
        book = with_nets(main=SQUARE)
        book.wish(("round", "main"))
        for name in (*NO_NAMES, *NO_NETS, "other", "mai"):
            for wish in all_wishes(name, (0, 8), (0,)):
                with self.subTest(wish=wish):
                    check_index(self, Broken, 1, book.wish, wish)
        self.assertEqual([book.wishes, book.changes], [(("round", "main"),), 2])

    def test_places_that_the_net_does_not_have(self):
        book = with_nets(main=SQUARE)
        for wish in (("plain", "main", 4), ("plain", "main", 8), ("way", "main", 0, 4), ("way", "main", 8, 0),
                     ("no way", "main", 0, 4), ("no way", "main", 4, 0), ("no way", "main", 7, 8),
                     ("walk", "main", 4, 4, 0), ("walk", "main", 0, 4, 1), ("walk", "main", 8, 0, 10 ** 30)):
            with self.subTest(wish=wish):
                check_index(self, Broken, 0, book.wish, wish)

    def test_ways_from_a_place_to_itself(self):
        book = with_nets(main=SQUARE, dull=DULL)
        for name, word, place in itertools.product(("main", "dull"), ("way", "no way"), range(4)):
            check_index(self, Broken, 0, book.wish, (word, name, place, place))
        book.wish(("walk", "main", 2, 2, 0))

    def test_in_their_order(self):
        book = with_nets(main=SQUARE, b=PATH)
        wishes = (("walk", "main", 0, 0, 10 ** 30), ("round", "main"), ("no round", "b"), ("round", "main"),
                  ("no way", "b", 0, 3), ("way", "main", 0, 2), ("plain", "b", 1))
        for many, wish in enumerate(wishes):
            check_index(self, Broken, many, book.wish, ("round", "b"))
            book.wish(wish=wish)
            self.assertEqual(book.wishes, wishes[:many + 1])
        self.assertEqual([book.lift(3), book.lift(index=0), book.lift(4)], [None] * 3)
        self.assertEqual(book.wishes, (wishes[1], wishes[2], wishes[4], wishes[5]))
        for _ in range(3):
            book.undo()
        self.assertEqual(book.wishes, wishes)


class TestForms(unittest.TestCase):
    def check(self, wish):
        book = with_nets(main=SQUARE)
        book.wish(("round", "main"))
        with self.subTest(wish=wish):
            check_given(self, InvalidWish, wish, book.wish, wish)
            check_given(self, InvalidWish, wish, book.wish, wish=wish)
            self.assertEqual([book.wishes, book.changes], [(("round", "main"),), 2])

    def test_no_tuples(self):
        for wish in (True, False, None, 0, "", "round", "round main", b"", [], ["round", "main"], {}, {"round": "main"},
                     set(), object(), THREE, SQUARE, str, len, range(2)):
            self.check(wish)

    def test_words(self):
        for word in OTHER_WORDS:
            for about in ((), ("main",), ("main", 0), ("main", 0, 1), ("main", 0, 1, 2)):
                self.check((word, *about))

    def test_numbers_of_elements(self):
        for wish in (("round", "main"), ("no round", "main"), ("plain", "main", 0), ("way", "main", 0, 1),
                     ("no way", "main", 0, 1), ("walk", "main", 0, 1, 2)):
            for many in range(len(wish)):
                self.check(wish[:many])
            for more in (0, "main", None, ()):
                self.check((*wish, more))
            self.check(wish[::-1])
            self.check((wish,))
            self.check(list(wish))
            self.check((wish[:1], *wish[1:]))

    def test_numbers(self):
        for name in ("main", "other", None, []):
            for value in (*NO_INTEGERS, -1, 9, 10, 10 ** 30, -(10 ** 30)):
                for wish in (("plain", name, value), ("way", name, value, 0), ("way", name, 0, value),
                             ("no way", name, value, 1), ("no way", name, 1, value), ("walk", name, value, 0, 0),
                             ("walk", name, 0, value, 0)):
                    self.check(wish)
            for value in (*NO_INTEGERS, -1, -(10 ** 30), 10 ** 30 + 1, 10 ** 31, 10 ** 79):
                self.check(("walk", name, 0, 0, value))


class TestHeld(unittest.TestCase):
    def test_put(self):
        book = with_nets(main=SQUARE, other=PATH)
        book.do_all(("wish", ("no round", "other")), ("wish", ("way", "main", 0, 2)), ("wish", ("round", "main")),
                    ("wish", ("walk", "main", 0, 0, 4)))
        before = look(book)

        def put(net):
            book["main"] = net

        for index, net in ((1, Net(4, ())), (1, LONE), (2, PATH.painted(1, 2, "c").closed(2, 3)), (3, Net(4, THREE.roads)),
                           (1, THREE.closed(0, 2).closed(1, 2))):
            with self.subTest(net=str(net)):
                check_index(self, Broken, index, put, net)
                self.assertEqual(look(book), before)
        put(SQUARE.painted(0, 2, "c"))
        self.assertEqual([book.changes, len(book["main"])], [7, 5])

    def test_all_small_nets_in_the_place_of_another_one(self):
        wishes = [wish for wish in all_wishes("main", range(3), (2, 3, 6)) if is_so(THREE, wish)]
        book = with_nets(main=THREE)
        for wish in wishes:
            book.wish(wish)
        for net in all_nets(3, "abc"):
            wrong = [at for at, wish in enumerate(wishes) if not is_so(net, wish)]
            with self.subTest(net=str(net)):
                if wrong:
                    check_index(self, Broken, wrong[0], book.__setitem__, "main", net)
                    self.assertEqual(book["main"], THREE)
                else:
                    book["main"] = net
                    self.assertEqual(book["main"], net)
                    book.undo()
        self.assertEqual(book.wishes, tuple(wishes))

    def test_in_use(self):
        book = with_nets(main=SQUARE, other=PATH, third=LONE)
        book.do_all(("wish", ("no round", "other")), ("wish", ("round", "main")), ("wish", ("way", "main", 0, 2)))
        before = look(book)
        check_index(self, InUse, 1, book.drop, "main")
        check_index(self, InUse, 0, book.drop, name="other")
        self.assertEqual(look(book), before)
        book.lift(1)
        check_index(self, InUse, 1, book.drop, "main")
        book.lift(1)
        book.drop("main")
        book.drop("third")
        self.assertEqual(book.names, ("other",))
        check_given(self, UnknownName, "main", book.drop, "main")

    def test_lift(self):
        book = with_nets(main=SQUARE)
        for index in (0, -1, 1):
            check_given(self, InvalidIndex, index, book.lift, index)
        book.wish(("round", "main"))
        book.wish(("way", "main", 0, 1))
        before = look(book)
        for index in (*NO_INTEGERS, -1, -2, 2, 3, 10 ** 30, -(10 ** 30)):
            with self.subTest(index=index):
                check_given(self, InvalidIndex, index, book.lift, index)
                check_given(self, InvalidIndex, index, book.lift, index=index)
        self.assertEqual(look(book), before)

    def test_taken_back(self):
        book = Book()
        looks = [look(book)]
        for deed in (("put", "a", SQUARE), ("put", "a", SQUARE), ("wish", ("round", "a")), ("put", "b", PATH),
                     ("wish", ("round", "a")), ("lift", 0), ("put", "a", FULL), ("drop", "b"), ("lift", 0),
                     ("put", "a", DULL), ("drop", "a")):
            book.do_all(deed)
            looks.append(look(book))
            self.assertEqual(book.changes, len(looks) - 1)
        while book.changes:
            self.assertEqual(look(book), looks.pop())
            self.assertIsNone(book.undo())
        self.assertEqual([look(book), len(looks)], [looks[0], 1])
        self.assertEqual(vars(raised(self, NothingToUndo, book.undo)), {})

    def test_long_ways(self):
        source = random.Random(112)
        for _ in range(8):
            self.check_long_way(source, Book(), [({}, ())])

    def check_long_way(self, source, book, known):
        for _ in range(80):
            nets, wishes = known[-1]
            word = source.choice(("put", "put", "drop", "wish", "wish", "wish", "lift", "undo"))
            name = source.choice("abc")
            if word == "undo":
                known[1:] and (known.pop(), book.undo())
            elif word == "put":
                net = some_net(source, source.randrange(2, 5), "ab", 0.7)
                behind = ({**nets, name: net}, wishes)
                self.do(book, known, ("put", name, net), behind)
            elif word == "drop":
                behind = ({each: net for each, net in nets.items() if each != name}, wishes)
                self.do(book, known, ("drop", name), behind if name in nets else None)
            elif word == "wish":
                wish = source.choice(all_wishes(name, range(4), (2, 3)))
                self.do(book, known, ("wish", wish), (nets, (*wishes, wish)))
            else:
                at = source.randrange(3)
                self.do(book, known, ("lift", at), (nets, wishes[:at] + wishes[at + 1:]) if at < len(wishes) else None)
            nets, wishes = known[-1]
            told = [(each, str(nets[each])) for each in sorted(nets)]
            self.assertEqual(look(book), (told, wishes, len(known) - 1, len(nets)))

    def do(self, book, known, deed, behind):
        holds = behind and all(wish[1] in behind[0] and is_so(behind[0][wish[1]], wish) for wish in behind[1])
        if holds:
            known.append(behind)
            book.do_all(deed)
        else:
            self.assertRaises((Broken, InUse, UnknownName, InvalidIndex), book.do_all, deed)


class TestAlone(unittest.TestCase):
    def test_a_book_equals_itself_alone(self):
        book, other = Book(), Book()
        self.assertEqual([book == book, book != book, book == other, book != other], [True, False, False, True])
        self.assertNotIn(book, (None, 0, (), [], {}, "", THREE))

    def test_two_books_do_not_know_of_one_another(self):
        book, other = Book(), Book()
        book["main"] = SQUARE
        self.assertEqual([len(book), len(other), "main" in other, other.changes], [1, 0, False, 0])


if __name__ == "__main__":
    unittest.main()
