"""Changes that make a book sound, promise [23], and [3] (h)."""

import itertools
import unittest

from soleinstances import changes as module
from soleinstances.books import SWITCHES, Book, all_books
from soleinstances.changes import floor, is_good, least_changes, sound_books
from soleinstances.errors import InvalidBook, InvalidPlaces
from soleinstances.faults import is_fault
from soleinstances.least import least_program
from soleinstances.tables import sound_paper
from tests.helping import NO_NAMES, NO_PLACES, Agreeing, Odd, base, raised

PARTS = list(SWITCHES)
NO_BOOKS = NO_NAMES + [base(), ("early", "apart"), Agreeing()]
SOUND = {places: {book.words() for book in all_books() if sound_paper(book, places) is not None} for places in [1, 2, 3]}


def sets_of(words):
    """All sets of changes of the book with these words, as dicts, in the order of the table and its words."""
    choices = [[None, *[word for word in SWITCHES[part] if word != own]] for part, own in zip(PARTS, words)]
    for row in itertools.product(*choices):
        yield {part: word for part, word in zip(PARTS, row) if word is not None}


def with_changes(words, changes):
    """The words of the book with some changes."""
    return tuple([changes.get(part, word) for part, word in zip(PARTS, words)])


def plain_least(words, sound):
    """[23]: the least sets, by gone through all sets and all their parts."""
    found = []
    for changes in sets_of(words):
        parts = [dict(some) for many in range(len(changes)) for some in itertools.combinations(changes.items(), many)]
        if with_changes(words, changes) in sound:
            if not [part for part in parts if with_changes(words, part) in sound]:
                found.append(list(changes.items()))
    ranks = {(part, word): at for part in PARTS for at, word in enumerate(SWITCHES[part])}
    return sorted(found, key=lambda changes: (len(changes), [PARTS.index(part) for part, _ in changes],
                                              [ranks[change] for change in changes]))


class GoodTest(unittest.TestCase):

    def test_all_sets_of_some_books(self):
        for book in list(all_books())[::23]:
            for changes, places in itertools.product(sets_of(book.words()), [1, 2, 3]):
                expected = with_changes(book.words(), changes) in SOUND[places]
                self.assertIs(is_good(book, list(changes.items()), places), expected, (book, changes, places))

    def test_the_order_of_the_changes(self):
        book = Book(owner="any", look="ladder", early="once")
        changes = [("owner", "first"), ("choose", "special"), ("early", "refused")]
        for row in itertools.permutations(changes):
            self.assertIs(is_good(book, list(row)), True)
            self.assertIs(is_good(book, list(row)[:2]), False)
        self.assertIs(is_good(book=book, changes=changes, places=3), True)

    def test_no_changes(self):
        for book in all_books():
            self.assertIs(is_good(book, []), book.words() in SOUND[3])

    def test_values_of_other_kinds(self):
        for book in [Book(), Book(look="ladder")]:
            good = [("look", "apart")] if book.look == "ladder" else [("owner", "first")]
            self.assertIs(is_good(book, good), True)
            for value in NO_NAMES + [tuple(good), dict(good), "look", "", (), Agreeing(), Odd(), book]:
                if value != []:
                    self.assertIs(is_good(book, value), False, value)
                self.assertIs(is_good(book, [value]), False, value)
                self.assertIs(is_good(book, good + [value]), False, value)
                self.assertIs(is_good(book, good + [("choose", value)]), False, value)
                self.assertIs(is_good(book, good + [(value, "special")]), False, value)
            for entry in [["choose", "special"], ("choose",), ("choose", "special", "special"), ("choose", "Special"),
                          ("choose", "apart"), ("no", "special"), ("special", "choose"), ("early", "early"), (1, "special")]:
                self.assertIs(is_good(book, good + [entry]), False, entry)

    def test_a_switch_twice_and_a_word_that_the_book_has(self):
        book = Book(look="ladder")
        self.assertIs(is_good(book, [("look", "apart"), ("look", "apart")]), False)
        self.assertIs(is_good(book, [("look", "same"), ("look", "apart")]), False)
        self.assertIs(is_good(book, [("look", "apart"), ("choose", "special"), ("look", "same")]), False)
        for part in PARTS:
            self.assertIs(is_good(book, [("look", "apart"), (part, book[part])]), False)
            self.assertIs(is_good(Book(), [(part, Book()[part])]), False)

    def test_the_value_is_not_changed(self):
        changes = [("look", "apart")]
        is_good(Book(look="ladder"), changes)
        self.assertEqual(changes, [("look", "apart")])


class LeastTest(unittest.TestCase):

    def test_examples(self):
        self.assertEqual(least_changes(Book(look="ladder")), [[("look", "apart")], [("choose", "special")]])
        self.assertEqual(least_changes(book=Book(), places=3), [[]])

    def test_all_books(self):
        for book, places in itertools.product(all_books(), [1, 2, 3]):
            found = least_changes(book, places)
            self.assertEqual(found, plain_least(book.words(), SOUND[places]), (book, places))
            self.assertEqual([type(changes) for changes in found], [list] * len(found))
            if book.words() in SOUND[places]:
                self.assertEqual(found, [[]])
            for changes in found:
                self.assertIs(is_good(book, changes, places), True)

    def test_fewer_first_then_switches_then_words(self):
        found = least_changes(Book(owner="any", look="nothing", early="once"))
        self.assertEqual(found, [
            [("owner", "early"), ("look", "apart")], [("owner", "first"), ("look", "apart")],
            [("owner", "early"), ("look", "ladder"), ("choose", "special"), ("early", "refused")],
            [("owner", "first"), ("look", "ladder"), ("choose", "special"), ("early", "refused")]])
        self.assertEqual(least_changes(Book(choose="first", early="once")), [
            [("choose", "sole")], [("choose", "special")], [("early", "refused")], [("early", "wait")]])
        self.assertEqual(least_changes(Book(owner="anybody"), 1), [[("owner", "early")], [("owner", "first")], [("owner", "any")]])

    def test_returned_lists_are_new(self):
        book = Book(look="ladder")
        found = least_changes(book)
        found[0].clear()
        found.clear()
        self.assertEqual(len(least_changes(book)[0]), 1)
        self.assertEqual(book, Book(look="ladder"))


class SoundBooksTest(unittest.TestCase):

    def test_in_the_order_of_all_books(self):
        for places in [1, 2, 3]:
            found = list(sound_books(places))
            self.assertEqual(found, [book for book in all_books() if sound_paper(book, places) is not None])
            self.assertEqual(len(found), {1: 54, 2: 36, 3: 36}[places])
        self.assertEqual(list(sound_books()), list(sound_books(places=3)))
        self.assertEqual(next(sound_books()), Book())

    def test_they_are_new(self):
        first = next(sound_books())
        first.look = "nothing"
        self.assertEqual(next(sound_books()), Book())

    def test_errors(self):
        for value in NO_PLACES:
            found = sound_books(value)
            self.assertEqual(raised(next, found), (InvalidPlaces, {"value": value}))


class FloorTest(unittest.TestCase):

    def test_each_least_set(self):
        for book, places in itertools.product(list(all_books())[::5], [1, 2, 3]):
            for changes in least_changes(book, places):
                found = floor(book, changes, places)
                self.assertEqual((type(found), len(found)), (list, len(changes)))
                for at, row in enumerate(found):
                    rest, program, fault = row
                    self.assertEqual((type(row), rest), (tuple, changes[:at] + changes[at + 1:]))
                    self.assertEqual((program, fault), least_program(book.changed(rest), places))
                    self.assertEqual(program.book, book.changed(rest))
                    self.assertIs(is_fault(program, fault), True)

    def test_a_sound_book(self):
        for book in [Book(), Book.ladder(), Book.firsts()]:
            self.assertEqual(floor(book, []), [])
            self.assertEqual(raised(floor, book, [("owner", "first")]), (InvalidBook, {"part": [("owner", "first")]}))

    def test_some(self):
        (rest, program, fault), = floor(book=Book(look="ladder"), changes=[("choose", "special")], places=1)
        self.assertEqual((rest, program, fault), ([], *least_program(Book(look="ladder"), 1)))
        self.assertEqual(len(floor(Book(owner="any"), [("owner", "early")])), 1)

    def test_other_values(self):
        book = Book(owner="any", look="nothing", early="once")
        least = [("owner", "early"), ("look", "apart")]
        self.assertEqual(len(floor(book, least)), 2)
        for value in NO_NAMES + [
                least[::-1], least[:1], least[1:], [], least + [("choose", "special")], tuple(least), dict(least),
                [least], [list(entry) for entry in least], least + least, [("owner", "first"), ("look", "same")],
                [("owner", "early"), ("look", Agreeing())], [Agreeing(), Agreeing()], Agreeing(), [Agreeing(), ("look", "apart")],
                [("owner", "early"), ("look", "ladder"), ("choose", "special")], [("owner", "any"), ("look", "apart")],
                [("early", "refused"), *least], [Odd(), Odd()]]:
            error, found = raised(floor, book, value)
            self.assertIs(error, InvalidBook)
            self.assertIs(found["part"], value)
        for book in [book for book in all_books() if book.words() in SOUND[1] and book.words() not in SOUND[2]]:
            self.assertEqual(floor(book, [], 1), [])
            self.assertEqual(raised(floor, book, [], 2), (InvalidBook, {"part": []}))
            self.assertEqual(len(floor(book, [("owner", "first")], 2)), 1)
            self.assertEqual(raised(floor, book, [("owner", "first")], 1)[0], InvalidBook)

    def test_returned_lists_are_new(self):
        book, changes = Book(look="ladder", early="wait"), [("choose", "special"), ("early", "refused")]
        self.assertIn(changes, least_changes(book))
        found = floor(book, changes)
        found[0][0].clear()
        found.clear()
        self.assertEqual(changes, [("choose", "special"), ("early", "refused")])
        self.assertEqual([row[0] for row in floor(book, changes)], [changes[1:], changes[:1]])


class ErrorsTest(unittest.TestCase):

    def test_no_book(self):
        for value in NO_BOOKS:
            for call, args in [(is_good, ([],)), (is_good, (None, 0)), (least_changes, ()), (least_changes, (0,)),
                               (floor, ([],)), (floor, (None, 0))]:
                self.assertEqual(raised(call, value, *args), (InvalidBook, {"part": None}))

    def test_no_places(self):
        for value in NO_PLACES:
            for book in [Book(), Book(look="ladder")]:
                for call, args in [(is_good, ([],)), (is_good, (None,)), (least_changes, ()), (floor, ([],)), (floor, (None,))]:
                    self.assertEqual(raised(call, book, *args, value), (InvalidPlaces, {"value": value}))


class InterfaceTest(unittest.TestCase):

    def test_all_is_defined_here(self):
        for call in [is_good, least_changes, sound_books, floor]:
            self.assertEqual(call.__module__, module.__name__)


if __name__ == "__main__":
    unittest.main()
