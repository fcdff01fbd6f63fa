"""Shapes, papers and verdicts, promises [18] and [19], and [3] (d)."""

import itertools
import unittest

from soleinstances import tables as module
from soleinstances.books import SWITCHES, Book, all_books
from soleinstances.errors import InvalidBook, InvalidPlaces, TooMany
from soleinstances.faults import faults, is_fault
from soleinstances.heads import Head
from soleinstances.least import least_program
from soleinstances.packages import Package
from soleinstances.programs import Program
from soleinstances.tables import Verdict, apart_at, is_sound_paper, judge, reason_of, shapes, sound_paper
from soleinstances.terms import Term
from tests.helping import NO_NAMES, NO_PLACES, Agreeing, Odd, base, raised
from tests.making import Maker
from tests.plain import plain_may_tell

WORDS = ("own", "seen", "any")
TASKS = {1: "show", 2: "join", 3: "link"}
class Sly(str):
    """A text that says to be equal to everything."""

    __hash__ = str.__hash__

    def __eq__(self, other):
        return True

    def __ne__(self, other):
        return False


NO_BOOKS = NO_NAMES + [base(), ("early", "apart"), Agreeing()]
ALL = [(book, places) for book in all_books() for places in [1, 2, 3]]


def kinds():
    """A package with a task of each number of places."""
    return Package("kinds", constructors={"Int": 0, "List": 1}, tasks={"show": 1, "join": 2, "link": 3})


def shapes_of(places):
    """All shapes of so many places, the last place changes first."""
    return list(itertools.product(WORDS, repeat=places))


def heads_of(shape, own):
    """Some heads of a shape, told by a package that owns this constructor."""
    choices = {"own": [own], "seen": ["Int", "List(x)"], "any": ["x", "y", "z"]}
    return [Head(TASKS[len(shape)], *row) for row in itertools.product(*[choices[word] for word in shape])]


def plain_shapes(owner, places):
    """[18]: the shapes of heads that may be told by a package that does not own the task."""
    found = []
    for shape in shapes_of(places):
        package = Package("teller", kinds(), constructors={"Own": 0}, instances=[str(heads_of(shape, "Own")[0])])
        if plain_may_tell(Book(owner=owner), package, 0):
            found.append(shape)
    return found


def plain_apart(one, other, index):
    """[18]: whether two shapes are surely apart at a place."""
    return {one[index], other[index]} in [{"own"}, {"own", "seen"}]


def plain_is_paper(book, places, reason, rows):
    """[19], for values of the right kinds."""
    if reason != reason_of(book):
        return False
    let = [shape for many in range(1, places + 1) for shape in plain_shapes(book.owner, many)]
    for one, other, index in rows:
        if one not in let or other not in let or len(one) != len(other) or not plain_apart(one, other, index):
            return False
    told = [{one, other} for one, other, _ in rows]
    return all([{one, other} in told for one in let for other in let if len(one) == len(other)])


class ShapesTest(unittest.TestCase):

    def test_all_by_the_owner(self):
        for owner, places in itertools.product(SWITCHES["owner"], [1, 2, 3]):
            expected = plain_shapes(owner, places)
            for book in [Book(owner=owner), Book(owner=owner, look="nothing", choose="first", wants="ahead", early="once")]:
                self.assertEqual(shapes(book, places), expected, (owner, places))
        self.assertEqual([[len(shapes(Book(owner=owner), places)) for places in [1, 2, 3]] for owner in SWITCHES["owner"]],
                         [[1, 4, 13], [1, 3, 9], [1, 5, 19], [3, 9, 27]])

    def test_their_order(self):
        self.assertEqual(shapes(Book(), 1), [("own",)])
        self.assertEqual(shapes(Book(), 2), [("own", "own"), ("own", "seen"), ("own", "any"), ("seen", "own")])
        self.assertEqual(shapes(Book(owner="first"), 2), [("own", "own"), ("own", "seen"), ("own", "any")])
        self.assertEqual(shapes(Book(owner="any"), 2),
                         [("own", "own"), ("own", "seen"), ("own", "any"), ("seen", "own"), ("any", "own")])
        self.assertEqual(shapes(Book(owner="anybody"), 1), [("own",), ("seen",), ("any",)])
        self.assertEqual(shapes(book=Book(owner="anybody"), places=3), shapes_of(3))

    def test_returned_lists_are_new(self):
        shapes(Book(), 2).clear()
        self.assertEqual(len(shapes(Book(), 2)), 4)

    def test_errors(self):
        for value in NO_BOOKS:
            for places in [1, 0, None]:
                self.assertEqual(raised(shapes, value, places), (InvalidBook, {"part": None}))
        for value in NO_PLACES:
            self.assertEqual(raised(shapes, Book(), value), (InvalidPlaces, {"value": value}))


class ApartTest(unittest.TestCase):

    def test_all_pairs(self):
        for places in [1, 2, 3]:
            for one, other in itertools.product(shapes_of(places), repeat=2):
                found = [index for index in range(places) if plain_apart(one, other, index)]
                self.assertEqual(apart_at(one, other), found[0] if found else None, (one, other))

    def test_heads_of_them(self):
        """Surely apart are just those of which no two heads can become one."""
        for places in [1, 2]:
            for one, other in itertools.product(shapes_of(places), repeat=2):
                found = [left & right for left in heads_of(one, "Left") for right in heads_of(other, "Right")]
                self.assertEqual(apart_at(one=one, other=other) is None, any([head is not None for head in found]))


class ReasonTest(unittest.TestCase):

    def test_all_books(self):
        for book in all_books():
            expected = None
            if book.look == "apart" and book.choose in ("sole", "special"):
                expected = "apart"
            if book.look == "apart" and book.choose == "first" and book.early in ("refused", "wait"):
                expected = "first"
            if book.look == "ladder" and book.choose == "special" and book.early == "refused":
                expected = "ladder"
            self.assertEqual(reason_of(book), expected)

    def test_some(self):
        self.assertEqual([reason_of(book) for book in [Book.plain(), Book.ladder(), Book.orphans(), Book.firsts()]],
                         ["apart", "ladder", "apart", "first"])
        self.assertIsNone(reason_of(book=Book(look="ladder")))

    def test_errors(self):
        for value in NO_BOOKS:
            self.assertEqual(raised(reason_of, value), (InvalidBook, {"part": None}))


class PaperTest(unittest.TestCase):

    def check(self, expected, book, places, *values):
        for value in values:
            self.assertIs(is_sound_paper(book, places, value), expected, (places, value))

    def test_all_books(self):
        many = 0
        for book, places in ALL:
            paper = sound_paper(book, places)
            expected = reason_of(book) is not None
            for count in range(1, places + 1):
                let = plain_shapes(book.owner, count)
                expected = expected and None not in [apart_at(one, other) for one in let for other in let]
            self.assertIs(paper is not None, expected, (book, places))
            if paper is None:
                continue
            many += 1
            self.assertEqual((type(paper), type(paper[1])), (tuple, list))
            self.assertEqual([[type(part) for part in row] for row in paper[1]], [[tuple, tuple, int]] * len(paper[1]))
            self.assertIs(plain_is_paper(book, places, *paper), True)
            self.check(True, book, places, paper)
        self.assertEqual(many, 126)

    def test_places_left_out_and_names(self):
        self.assertEqual(sound_paper(Book()), sound_paper(book=Book(), places=3))
        self.assertIs(is_sound_paper(book=Book(), places=3, value=sound_paper(Book())), True)
        self.assertEqual(sound_paper(Book(owner="first"), 1), ("apart", [(("own",), ("own",), 0)]))

    def test_a_returned_paper_can_be_changed(self):
        paper = sound_paper(Book(), 2)
        paper[1].clear()
        self.assertEqual(len(sound_paper(Book(), 2)[1]), 11)

    def test_papers_for_more_places_and_for_fewer(self):
        for owner in ["early", "first"]:
            book = Book(owner=owner)
            for one, other in itertools.product([1, 2, 3], repeat=2):
                self.check(one == other, book, one, sound_paper(book, other))

    def test_papers_of_other_books(self):
        for one, other in itertools.product([Book(), Book.ladder(), Book.firsts(), Book(wants="ahead")], repeat=2):
            self.check(reason_of(one) == reason_of(other), one, 3, sound_paper(other))
        self.check(False, Book(owner="first"), 2, sound_paper(Book()))
        self.check(False, Book(), 2, sound_paper(Book(owner="first"), 2))
        self.check(True, Book(owner="any"), 1, sound_paper(Book(), 1))

    def test_no_paper_of_a_book_that_is_not_sound(self):
        for book in [book for book in all_books() if least_program(book, 2) is not None]:
            let = [shape for places in [1, 2] for shape in plain_shapes(book.owner, places)]
            rows = [(one, other, index) for one in let for other in let for index in range(len(one))
                    if len(one) == len(other) and plain_apart(one, other, index)]
            every = [(one, other, index) for one in let for other in let for index in range(len(one))
                     if len(one) == len(other)]
            for reason in ["apart", "first", "ladder", None, ""]:
                self.check(False, book, 2, (reason, rows), (reason, every), (reason, []))
            self.check(False, book, 2, sound_paper(Book(), 2))

    def test_sly_texts(self):
        """Whoever wrote a paper, it is accepted for sound books alone."""
        sly = Sly("own")
        for book in [book for book in all_books() if least_program(book, 2) is not None]:
            every = [((sly,) * many, (word,) * many, index) for many in [1, 2] for word in [*WORDS, sly] for index in range(many)]
            let = [(one, other, 0) for many in [1, 2] for one in shapes(book, many) for other in shapes(book, many)]
            for rows in [every, let, every + let, [], [(("own", sly), (sly, "own"), index) for index in [0, 1]] + let]:
                self.check(False, book, 2, (Sly("apart"), rows), ("apart", rows))

    def test_rows_left_out_twice_and_turned(self):
        for book in [Book(), Book(owner="first", choose="first"), Book.ladder()]:
            reason, rows = sound_paper(book, 2)
            for at, (one, other, index) in enumerate(rows):
                self.check(False, book, 2, (reason, rows[:at] + rows[at + 1:]))
                turned = (other, one, index)
                self.check(True, book, 2, (reason, rows[:at] + [turned] + rows[at + 1:]), (reason, rows + [turned]),
                           (reason, [turned] + rows), (reason, rows[at:] + rows[:at]), (reason, rows + rows[at:]))

    def test_each_place_at_which_they_are_apart(self):
        for book in [Book(), Book(owner="first")]:
            reason, rows = sound_paper(book, 3)
            for at, (one, other, _) in enumerate(rows):
                for index in [-1, 0, 1, 2, 3]:
                    fine = 0 <= index < len(one) and plain_apart(one, other, index)
                    self.check(fine, book, 3, (reason, rows[:at] + [(one, other, index)] + rows[at + 1:]),
                               (reason, rows + [(one, other, index)]))

    def test_indexes_that_are_none(self):
        reason, rows = sound_paper(Book(), 2)
        for value in [True, False, None, "0", 0.0, 1.0, -1, 2, 10 ** 30, [0], (0,), Odd(), Agreeing()]:
            for at, (one, other, _) in enumerate(rows):
                self.check(False, Book(), 2, (reason, rows[:at] + [(one, other, value)] + rows[at + 1:]))

    def test_shapes_that_the_owner_does_not_let(self):
        for owner in ["early", "first"]:
            book = Book(owner=owner)
            reason, rows = sound_paper(book, 2)
            for one in shapes_of(2):
                index = apart_at(one, ("own", "own"))
                for row in [(one, ("own", "own"), index), (("own", "own"), one, index)]:
                    self.check(one in shapes(book, 2) and index is not None, book, 2, (reason, rows + [row]))
            for row in [(("own",), ("own", "own"), 0), (("own", "own", "own"), ("own", "own", "own"), 0), ((), (), 0),
                        (("own", "own"), ("own",), 0), (("own", "odd"), ("own", "own"), 0), (("Own",), ("Own",), 0)]:
                self.check(False, book, 2, (reason, rows + [row]))

    def test_lists_in_the_place_of_tuples(self):
        reason, rows = sound_paper(Book(), 2)
        one, other, index = rows[0]
        self.check(False, Book(), 2, [reason, rows], (reason, tuple(rows)), (reason, [list(row) for row in rows]),
                   (reason, [[one, other, index]] + rows[1:]), (reason, [(list(one), other, index)] + rows[1:]),
                   (reason, [(one, list(other), index)] + rows[1:]), (reason, rows + [(one, list(other), index)]))

    def test_values_of_other_kinds(self):
        reason, rows = sound_paper(Book(), 2)
        odd = NO_NAMES + [Agreeing(), "", (), [], "apart", ("own", "Own"), Book()]
        self.check(False, Book(), 2, *odd, (reason,), (reason, rows, None), (rows, reason), (reason, rows, reason))
        for value in odd:
            if value != []:
                self.check(False, Book(), 2, (reason, value))
            self.check(False, Book(), 2, (reason, rows + [value]), (reason, [value]))
            for at in [0, 1]:
                row = rows[0][:at] + (value,) + rows[0][at + 1:]
                self.check(False, Book(), 2, (reason, [row] + rows[1:]), (reason, rows + [row]))
            self.check(False, Book(), 2, (reason, [((value, "own"), ("own", value), 0)] + rows))
            if value != "apart":
                self.check(False, Book(), 2, (value, rows))
        for value in ["first", "ladder", "Apart", "apart ", Agreeing()]:
            self.check(False, Book(), 2, (value, rows))
        self.check(False, Book(), 2, (reason, [rows[0][:2]] + rows), (reason, [(*rows[0], 0)] + rows), (reason, []))

    def test_errors(self):
        for value in NO_BOOKS:
            for call, args in [(sound_paper, ()), (sound_paper, (0,)), (is_sound_paper, (0, None)), (judge, (None,)), (judge, ())]:
                self.assertEqual(raised(call, value, *args), (InvalidBook, {"part": None}))
        for value in NO_PLACES:
            for book in [Book(), Book(look="same")]:
                self.assertEqual(raised(sound_paper, book, value), (InvalidPlaces, {"value": value}))
                self.assertEqual(raised(judge, book, value), (InvalidPlaces, {"value": value}))
                self.assertEqual(raised(is_sound_paper, book, value, None), (InvalidPlaces, {"value": value}))


class SoundTest(unittest.TestCase):
    """[3] (c) and (e): under a book that is told to be sound no program has a fault."""

    def test_by_chance(self):
        looked_at = 0
        for number, (book, places) in enumerate(ALL):
            if sound_paper(book, places) is None:
                continue
            for deep in [1, 2]:
                program = Maker(11000 + 2 * number + deep, book, places).program(6 - 2 * deep, 5)
                try:
                    self.assertEqual(list(faults(program, deep)), [], (book, places))
                except TooMany:
                    continue
                looked_at += program.many_instances() > 5
        self.assertGreater(looked_at, 60)

    def test_early_faults_with_told_wants(self):
        asked = 0
        for number, book in enumerate([book for book in all_books() if judge(book) and book.early != "refused"] * 3):
            maker = Maker(12000 + number, book)
            program = maker.program(3, 6)
            for _ in range(15):
                name, other = [maker.chance.choice(program.names()) for _ in range(2)]
                question, told = maker.head(program[name], 2), tuple([Head.read(text) for text in maker.told(program[name], 3)])
                heads = [Head.read(question), *told]
                names = list(dict.fromkeys([x for head in heads for x in head.variables()]))
                closing = tuple([(x, Term.read(maker.term(program[other], 2, "") or "Int")) for x in names])
                self.assertIs(is_fault(program, ("early", name, heads[0], told, other, closing)), False)
                asked += heads[0].size > 0 and not heads[0].is_closed
        self.assertGreater(asked, 500)


class VerdictTest(unittest.TestCase):

    def test_all_books(self):
        for book, places in ALL:
            verdict = judge(book, places)
            self.assertEqual(type(verdict), Verdict)
            sound = sound_paper(book, places) is not None
            self.assertIs(verdict.is_sound, sound)
            self.assertIs(bool(verdict), sound)
            self.assertEqual(verdict.paper, sound_paper(book, places))
            if sound:
                self.assertEqual((verdict.program, verdict.fault), (None, None))
                continue
            self.assertEqual((verdict.program, verdict.fault), least_program(book, places))
            self.assertEqual(type(verdict.program), Program)
            self.assertIs(is_fault(verdict.program, verdict.fault), True)

    def test_example(self):
        self.assertIs(bool(judge(Book(owner="any"), 1)), True)
        self.assertIs(bool(judge(book=Book(owner="any"))), False)
        self.assertEqual(judge(Book()).paper, sound_paper(Book(), 3))

    def test_a_verdict_does_not_change(self):
        book = Book()
        verdict = judge(book, 1)
        verdict.paper[1].clear()
        book.look = "nothing"
        self.assertEqual(verdict.paper, ("apart", [(("own",), ("own",), 0)]))
        self.assertIs(verdict.is_sound, True)


class InterfaceTest(unittest.TestCase):

    def test_all_is_defined_here(self):
        for call in [shapes, apart_at, reason_of, sound_paper, is_sound_paper, judge, Verdict]:
            self.assertEqual(call.__module__, module.__name__)
        for name in ["is_sound", "paper", "program", "fault"]:
            self.assertIsInstance(vars(Verdict)[name], property)
        self.assertIn("__bool__", vars(Verdict))


if __name__ == "__main__":
    unittest.main()
