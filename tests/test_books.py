"""Books, promise [11]."""

import itertools
import unittest

from soleinstances.books import SWITCHES, Book, all_books
from soleinstances.errors import InvalidBook
from tests.helping import NO_NAMES, Agreeing, raised

TABLE = {
    "owner": ("early", "first", "any", "anybody"),
    "look": ("apart", "ladder", "same", "nothing"),
    "choose": ("sole", "special", "first"),
    "wants": ("behind", "ahead"),
    "early": ("refused", "wait", "once"),
}
PLAIN = ("early", "apart", "sole", "behind", "refused")
NO_PARTS = NO_NAMES + ["", "Owner", "owner ", "apart", "words", "chosen", ("owner",), Agreeing()]


def wrong_words(part):
    """Values that are no words of a switch."""
    words = [word for words in TABLE.values() for word in words if word not in TABLE[part]]
    return NO_NAMES + ["", "Apart", TABLE[part][0] + " ", part.upper(), (TABLE[part][0],), Agreeing(), *words]


class SwitchesTest(unittest.TestCase):

    def test_the_table(self):
        self.assertEqual(list(SWITCHES.items()), list(TABLE.items()))
        self.assertEqual([type(words) for words in SWITCHES.values()], [tuple] * 5)

    def test_the_plain_book(self):
        self.assertEqual(Book().words(), PLAIN)
        self.assertIs(type(Book().words()), tuple)

    def test_each_word(self):
        for at, part in enumerate(TABLE):
            for word in TABLE[part]:
                words = [*PLAIN[:at], word, *PLAIN[at + 1:]]
                book = Book(**{part: word})
                self.assertEqual(list(book.words()), words)
                self.assertEqual([book.owner, book.look, book.choose, book.wants, book.early], words)
                self.assertEqual([book[name] for name in TABLE], words)

    def test_wrong_words(self):
        for part in TABLE:
            for word in wrong_words(part):
                self.assertEqual(raised(Book, **{part: word}), (InvalidBook, {"part": part}), (part, word))

    def test_the_first_wrong_switch(self):
        for one, other in itertools.combinations(TABLE, 2):
            self.assertEqual(raised(Book, **{other: 5, one: "no"}), (InvalidBook, {"part": one}))
        self.assertEqual(raised(Book, early=1, wants=2, choose=3, look=4, owner=5), (InvalidBook, {"part": "owner"}))

    def test_by_name_only(self):
        self.assertRaises(TypeError, Book, "early")
        self.assertRaises(TypeError, Book, other="early")

    def test_static_methods(self):
        self.assertEqual(Book.plain().words(), PLAIN)
        self.assertEqual(Book.ladder().words(), ("early", "ladder", "special", "behind", "refused"))
        self.assertEqual(Book.orphans().words(), ("anybody", "apart", "sole", "behind", "refused"))
        self.assertEqual(Book.firsts().words(), ("early", "apart", "first", "behind", "wait"))


class SettingTest(unittest.TestCase):

    def test_properties_items_and_the_method(self):
        for part in TABLE:
            for word in TABLE[part]:
                books = [Book() for _ in range(3)]
                setattr(books[0], part, word)
                books[1][part] = word
                self.assertIsNone(books[2].set_part(part=part, word=word))
                for book in books:
                    self.assertEqual(book, Book(**{part: word}))
                    self.assertEqual((getattr(book, part), book[part]), (word, word))

    def test_wrong_words_change_nothing(self):
        for part in TABLE:
            for word in wrong_words(part):
                book = Book.firsts()
                wrong = (InvalidBook, {"part": part})
                self.assertEqual(raised(setattr, book, part, word), wrong)
                self.assertEqual(raised(book.__setitem__, part, word), wrong)
                self.assertEqual(raised(book.set_part, part, word), wrong)
                self.assertEqual(book, Book.firsts())

    def test_values_that_are_no_switch(self):
        for part in NO_PARTS:
            book = Book()
            wrong = (InvalidBook, {"part": part})
            self.assertEqual(raised(lambda: book[part]), wrong)
            self.assertEqual(raised(book.__setitem__, part, "early"), wrong)
            self.assertEqual(raised(book.set_part, part, "early"), wrong)
            self.assertEqual(raised(book.set_part, part, 5), wrong)
            self.assertEqual(book, Book())


class CopiesTest(unittest.TestCase):

    def test_a_twin_is_apart(self):
        book = Book.ladder()
        twin = book.twin()
        self.assertEqual((twin, type(twin)), (book, Book))
        twin.owner = "any"
        self.assertEqual([book, twin.owner], [Book.ladder(), "any"])
        book["early"] = "once"
        self.assertEqual(twin.early, "refused")

    def test_changed(self):
        book = Book.ladder()
        found = book.changed([("early", "wait"), ("look", "same")])
        self.assertEqual(found.words(), ("early", "same", "special", "behind", "wait"))
        self.assertEqual(book, Book.ladder())
        self.assertEqual(book.changed([]), book)
        self.assertEqual(book.changed(changes=[("look", "ladder")]), book)
        same = book.changed([])
        same.look = "nothing"
        self.assertEqual(book, Book.ladder())

    def test_changes_that_are_no_list(self):
        for changes in NO_NAMES + [(), (("look", "same"),), "look", {"look": "same"}, Agreeing()]:
            if not isinstance(changes, list):
                self.assertEqual(raised(Book().changed, changes), (InvalidBook, {"part": None}))

    def test_entries_that_are_none(self):
        others = [(), ("look",), ("look", "same", "same"), ["look", "same"], "look", ("look", "no"), ("no", "same"),
                  ("look", "early"), ("same", "look"), ("look", None), (None, "same"), ([], "same"), ("look", [])]
        for entry in NO_NAMES + others + [(Agreeing(), "same"), ("look", Agreeing()), Agreeing()]:
            for changes in [[entry], [("early", "once"), entry], [entry, 5, ("early", "once")]]:
                book = Book()
                self.assertEqual(raised(book.changed, changes), (InvalidBook, {"part": entry}))
                self.assertEqual(book, Book())

    def test_a_switch_twice(self):
        book = Book()
        changes = [("look", "same"), ("early", "once"), ("look", "ladder"), 5]
        self.assertEqual(raised(book.changed, changes), (InvalidBook, {"part": ("look", "ladder")}))
        self.assertEqual(raised(book.changed, [("look", "same")] * 2), (InvalidBook, {"part": ("look", "same")}))
        self.assertEqual(changes, [("look", "same"), ("early", "once"), ("look", "ladder"), 5])

    def test_difference(self):
        self.assertEqual(Book().difference(Book.ladder()), [("look", "ladder"), ("choose", "special")])
        self.assertEqual(Book.ladder().difference(Book()), [("look", "apart"), ("choose", "sole")])
        self.assertEqual(Book().difference(other=Book()), [])
        books = list(all_books())
        for one, other in itertools.product(books[::37], books[::17]):
            self.assertEqual(one.changed(one.difference(other)), other)
            self.assertEqual([part for part, _ in one.difference(other)],
                             [part for part in TABLE if one[part] != other[part]])


class AllBooksTest(unittest.TestCase):

    def test_all_in_order(self):
        books = list(all_books())
        self.assertEqual([book.words() for book in books], list(itertools.product(*TABLE.values())))
        self.assertEqual(len(books), 288)
        self.assertEqual(books[0], Book())
        self.assertEqual(books[1], Book(early="wait"))

    def test_they_are_unlike_and_apart(self):
        books = list(all_books())
        for at, one in enumerate(books):
            self.assertEqual([index for index, other in enumerate(books) if one == other], [at])
        books[0].owner = "any"
        self.assertEqual(next(iter(all_books())), Book())

    def test_equal_if_all_words_are(self):
        self.assertIs(Book() == Book.plain(), True)
        self.assertIs(Book() != Book.plain(), False)
        self.assertIs(Book() == Book(early="once"), False)
        for value in NO_NAMES + [PLAIN, list(PLAIN), dict(zip(TABLE, PLAIN))]:
            self.assertIs(Book() == value, False)


class InterfaceTest(unittest.TestCase):

    def test_all_is_defined_in_the_class(self):
        found = ["set_part", "words", "twin", "changed", "difference", "plain", "ladder", "orphans", "firsts"]
        for name in [*found, *TABLE, "__getitem__", "__setitem__", "__eq__"]:
            self.assertIn(name, vars(Book))
        for part in TABLE:
            self.assertIsInstance(vars(Book)[part], property)
        for name in found[5:]:
            self.assertIsInstance(vars(Book)[name], staticmethod)
        self.assertEqual((Book.__module__, all_books.__module__), ("soleinstances.books",) * 2)


if __name__ == "__main__":
    unittest.main()
