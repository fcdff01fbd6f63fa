"""Programs and answers as texts, promise [24] and [3] (i)."""

import itertools
import unittest

from soleinstances import notes as module
from soleinstances.books import Book, all_books
from soleinstances.errors import (Clash, InvalidBook, InvalidProgram, InvalidQuestion, InvalidText, NameTaken, NotOwner,
                                  NotSeen, Refused, WrongPlaces)
from soleinstances.notes import read_answer, read_program, write_answer, write_program
from soleinstances.packages import Package
from soleinstances.programs import Program
from tests.helping import NO_NAMES, Agreeing, base, lists, raised
from tests.making import Maker

NO_BOOKS = NO_NAMES + [base(), ("early", "apart"), Agreeing()]
NO_TEXTS = [value for value in NO_NAMES + [base(), Agreeing(), b"package a"] if not isinstance(value, str)]

LINES = [
    "package base", "constructor Int 0", "constructor List 1", "task show 1", "task join 2", "instance show(Int)",
    "instance show(List(x)) if show(x)", "package other", "package pairs uses base other", "constructor Pair 2",
    "instance show(Pair(x,y)) if show(x) show(y)", "instance join(Pair(x,y),Int)", "package empty uses pairs",
]


def program():
    """The program of the lines above, under the plain book."""
    owned = {"Int": 0, "List": 1}
    first = Package("base", constructors=owned, tasks={"show": 1, "join": 2},
                    instances=["show(Int)", "show(List(x)) if show(x)"])
    other = Package("other")
    pairs = Package("pairs", first, other, constructors={"Pair": 2},
                    instances=["show(Pair(x,y)) if show(x) show(y)", "join(Pair(x,y),Int)"])
    return Program(Book(), Package("empty", pairs))


def text_of(*lines):
    return "\n".join(lines)


class WriteTest(unittest.TestCase):

    def test_the_lines(self):
        self.assertEqual(write_program(program=program()), text_of(*LINES))

    def test_programs_of_none_and_one(self):
        self.assertEqual(write_program(Program(Book())), "")
        self.assertEqual(write_program(Program(Book(), Package("a"))), "package a")
        self.assertEqual(write_program(Program(Book(), lists())), text_of(
            "package base", "constructor Int 0", "task show 1", "instance show(Int)", "package lists uses base",
            "constructor List 1", "instance show(List(x)) if show(x)"))

    def test_the_order_of_the_dicts_and_the_list(self):
        one = Package("one", constructors={"B": 1, "A": 0}, tasks={"z": 1, "y": 3}, instances=["z(B(x))", "y(A,A,A)", "z(A)"])
        self.assertEqual(write_program(Program(Book(), one)).split("\n")[1:], [
            "constructor B 1", "constructor A 0", "task z 1", "task y 3", "instance z(B(x))", "instance y(A,A,A)", "instance z(A)"])


class ReadTest(unittest.TestCase):

    def check(self, expected, *lines):
        """The lines are refused with the index of this line."""
        self.assertEqual(raised(read_program, Book(), text_of(*lines)), (InvalidText, {"line": expected}), lines)

    def fine(self, *lines):
        """The lines are those of a program, and it is written so again."""
        found = read_program(Book(), text_of(*lines))
        self.assertEqual(write_program(found), text_of(*lines))
        return found

    def test_programs_read_back(self):
        self.assertEqual(self.fine(*LINES), program())
        self.assertEqual(read_program(book=Book(), text=""), Program(Book()))
        self.assertEqual(self.fine("package a"), Program(Book(), Package("a")))
        self.assertEqual(self.fine("package uses", "package a uses uses"), Program(Book(), Package("a", Package("uses"))))
        self.assertEqual(read_program(Book.ladder(), text_of(*LINES)), program().under(Book.ladder()))
        self.assertEqual(self.fine("package package", "task task 1", "task package 2", "instance task(x)").names(), ["package"])

    def test_no_book_and_no_text(self):
        for value in NO_BOOKS:
            for text in ["", "x", None]:
                self.assertEqual(raised(read_program, value, text), (InvalidBook, {"part": None}))
        for value in NO_TEXTS:
            self.assertEqual(raised(read_program, Book(), value), (InvalidText, {"line": None}))

    def test_the_book_is_copied(self):
        book = Book()
        found = read_program(book, text_of(*LINES))
        book.look = "nothing"
        self.assertEqual(found.book, Book())

    def test_each_line_left_out(self):
        # Without its first line, the lines of a package are those of the one ahead.
        expected = [0, 0, 0, 0, 7, None, None, 7, 7, 8, None, None, None]
        self.assertEqual(len(expected), len(LINES))
        for at, line in enumerate(expected):
            lines = LINES[:at] + LINES[at + 1:]
            if line is None:
                self.fine(*lines)
            else:
                self.check(line, *lines)

    def test_each_line_put_twice(self):
        # The first one of two packages with one name is used; two that are equal count as one.
        expected = [9, 2, 3, 4, 5, Refused, Refused, None, NameTaken, 10, Refused, Refused, None]
        self.assertEqual(len(expected), len(LINES))
        for at, line in enumerate(expected):
            lines = LINES[:at + 1] + LINES[at:]
            if isinstance(line, int):
                self.check(line, *lines)
            elif line is None:
                self.assertEqual(read_program(Book(), text_of(*lines)), program())
            else:
                self.assertIs(raised(read_program, Book(), text_of(*lines))[0], line)

    def test_each_line_moved_to_the_front(self):
        for at, line in enumerate(LINES[1:], start=1):
            lines = [line] + LINES[:at] + LINES[at + 1:]
            if line == "package other":
                self.assertEqual(read_program(Book(), text_of(*lines)).names(), ["other", "base", "pairs", "empty"])
            else:
                self.check(0, *lines)

    def test_lines_of_another_order(self):
        head = ["package a", "constructor A 0", "task t 1", "instance t(A)"]
        self.fine(*head)
        for row in itertools.permutations(head[1:]):
            if list(row) != head[1:]:
                ranks = [head.index(line) for line in row]
                wrong = [at for at in range(1, 3) if ranks[at] < max(ranks[:at])][0]
                self.check(1 + wrong, head[0], *row)
        self.check(3, "package a", "constructor A 0", "task t 1", "constructor B 0", "package b")
        self.check(4, *head, "task u 1")
        self.check(0, "package a", "instance t(A)")

    def test_each_line_spoilt(self):
        for at, line in enumerate(LINES):
            for spoilt in [line + " ", " " + line, line.replace(" ", "  ", 1), line.upper(), line[1:], line.replace(" ", "\t", 1),
                           line + "\r", "", line.split(" ")[0], line.split(" ")[0] + " ", line + ";", line.replace(" ", "", 1)]:
                self.check(at, *LINES[:at], spoilt, *LINES[at + 1:])

    def test_lines_of_no_form(self):
        rows = ["package", "package ", "package A", "package abcdefghi", "package a uses", "package a uses ", "package a b",
                "package a use b", "package a uses B", "package a uses b  c", "package a uses b,c", "package a  uses b",
                "package a uses b uses C", "package a1", "constructor int 0", "constructor Int", "constructor Int ", "constructor Int x",
                "constructor Int 00", "constructor Int 10", "constructor Int -1", "constructor Int +1", "constructor Int 0 0",
                "constructor  Int 0", "constructor Int  0", "constructor INT 0", "constructor Int(x) 1", "task Show 1", "task show",
                "task show 11", "task show 1.", "task show 1 ", "task show one", "task show \u0661", "task show \u00b2", "instance",
                "instance ", "instance show", "instance show(x", "instance show(x) if", "instance show(x) if show(x)",
                "instance  show(x)", "instance show(x);", "instance Int", "instance show(x) show(x)", "instances show(x)",
                "Package a", "tasks show 1", "", " ", "#", "show(x)", "none", "a.0"]
        for line in rows:
            self.check(0, line, "package last")
            self.check(1, "package first", line)
            self.check(2, "package first", "constructor First 0", line, "package first")
            self.check(1, "package first", line, "junk")

    def test_lines_ahead_of_all_packages(self):
        for line in ["constructor Int 0", "task show 1", "instance show(Int)"]:
            self.check(0, line)
            self.check(0, line, "package a")

    def test_empty_lines(self):
        self.check(0, "", "")
        self.check(1, "package a", "")
        self.check(1, "package a", "", "package b")
        self.check(0, "", "package a")

    def test_a_name_twice(self):
        self.check(2, "package a", "constructor Int 0", "constructor Int 0")
        self.check(3, "package a", "constructor Int 0", "constructor Set 0", "constructor Int 1")
        self.check(2, "package a", "task show 1", "task show 2")
        self.check(4, "package a", "constructor Int 0", "task show 1", "task join 1", "task show 1")
        self.check(2, "package a", "task show 1", "task show 1", "junk")
        self.check(1, "package a", "junk", "task show 1", "task show 1")
        found = read_program(Book(), text_of("package a", "task a 1", "package b", "task b 1"))
        self.assertEqual(found.names(), ["a", "b"])

    def test_packages_that_cannot_be_made(self):
        self.check(0, "package a uses b", "package b")
        self.check(0, "package a uses a")
        self.check(1, "package b", "package a uses b b")
        self.check(1, "package b", "package a uses c", "package c")
        self.check(5, *[f"package {name}" for name in "abcde"], "package f uses a b c d e")
        self.check(0, "package a", "constructor Int 3")
        self.check(0, "package a", "task show 0")
        self.check(0, "package a", "task show 4")
        self.check(0, "package a", *[f"constructor {name} 0" for name in "ABCDEFG"])
        self.check(0, "package a", *[f"task {name} 1" for name in "abcde"])
        self.check(0, "package a", "task show 1", *["instance show(x)"] * 9)
        self.check(0, "package a", "task show 1", "instance show(Int)")
        self.check(0, "package a", "task show 1", "instance show(x,y)")
        self.check(2, "package a", "constructor Int 0", "package b uses a", "constructor Int 0")
        self.check(1, "package b", "package a", "task show 1", "instance show(Int)", "package c uses d")
        chain = ["package a"] + [f"package {name} uses {last}" for last, name in zip("abcdefgh", "bcdefghi")]
        self.check(8, *chain)
        self.fine(*chain[:8])

    def test_which_line_is_told(self):
        """A line of no form comes ahead of all packages that cannot be made, and these ahead of the program."""
        self.check(3, "package a uses b", "constructor Int 9", "package b uses c", "junk")
        self.check(2, "package a uses b", "constructor Int 9", "junk", "junk")
        self.check(2, "package a", "task show 1", "package b uses a", "instance no(x)", "package c uses d")
        self.check(4, "package a", "package a", "constructor Int 0", "package b", "package c uses d")
        self.check(4, "package a", "constructor A 0", "task t 1", "instance t(x)", "package c uses d")
        self.check(5, "package a", "constructor A 0", "task t 1", "instance t(x)", "instance t(A)", "package c uses d")

    def test_of_several_with_one_name_the_first_is_used(self):
        lines = ["package a", "constructor A 0", "package a", "constructor B 0", "package b uses a", "task t 1"]
        self.check(4, *lines, "instance t(B)")
        self.assertEqual(raised(read_program, Book(), text_of(*lines, "instance t(A)")), (NameTaken, {"name": "a"}))
        equal = ["package a", "constructor A 0", "package a", "constructor A 0", "package b uses a", "task t 1", "instance t(A)"]
        self.assertEqual(read_program(Book(), text_of(*equal)).names(), ["a", "b"])

    def test_as_the_program_raises(self):
        self.assertEqual(raised(read_program, Book(), text_of("package a", "task t 1", "package b", "task t 1")),
                         (NameTaken, {"name": "t"}))
        self.assertEqual(raised(read_program, Book(), text_of(*[f"package {name}" for name in "abcdefghi"])),
                         (InvalidProgram, {"number": None}))
        lines = ["package a", "constructor A 0", "task t 1", "instance t(A)", "package b uses a", "instance t(x)"]
        error, found = raised(read_program, Book(), text_of(*lines))
        self.assertEqual((error, found["package"], found["number"], type(found["reason"])), (Refused, "b", 0, NotOwner))
        self.assertEqual(read_program(Book(owner="anybody", look="ladder"), text_of(*lines)).names(), ["a", "b"])

    def test_by_chance(self):
        for number, book in enumerate(list(all_books())[::3]):
            maker = Maker(9000 + number, book)
            program = maker.program(maker.chance.choice([1, 2, 3, 5]), 5)
            text = write_program(program)
            self.assertEqual(read_program(book, text), program)
            self.assertEqual(write_program(read_program(book, text)), text)
            lines = text.split("\n")
            at = maker.chance.randrange(len(lines))
            self.assertEqual(raised(read_program, book, text_of(*lines[:at], lines[at] + ".", *lines[at + 1:])),
                             (InvalidText, {"line": at}))


def nested(many):
    """The answer, and its text, with so many brackets in one another."""
    answer, text = ("z", 0, ()), "z.0"
    for number in range(many):
        answer, text = ("a", number, (answer,)), f"a.{number}({text})"
    return answer, text


class AnswersTest(unittest.TestCase):

    PAIRS = [
        (None, "none"), (("a", 0, ()), "a.0"), (("base", 7, ()), "base.7"), (("", 0, ()), "?0"), (("", 3, ()), "?3"),
        (("lists", 0, (("base", 0, ()),)), "lists.0(base.0)"), (("a", 1, (("", 2, ()), ("b", 0, ()))), "a.1(?2,b.0)"),
        (("a", 1, (("b", 0, (("c", 2, ()), ("", 0, ()))), ("d", 0, (("", 1, ()),)))), "a.1(b.0(c.2,?0),d.0(?1))"),
        (("none", 0, ()), "none.0"), (("abcdefgh", 999, ()), "abcdefgh.999"), (("", 100, ()), "?100"),
        (("a", 10, (("b", 11, ()), ("b", 11, ()))), "a.10(b.11,b.11)"),
    ]

    def test_written_and_read(self):
        for answer, text in self.PAIRS:
            self.assertEqual(write_answer(answer=answer), text)
            self.assertEqual(read_answer(text=text), answer)
        found = read_answer("a.1(?2,b.0)")
        self.assertEqual([type(part) for part in found], [str, int, tuple])
        self.assertEqual([type(part) for part in found[2]], [tuple, tuple])

    def test_any_nesting_and_any_integers_are_written(self):
        for many in [60, 61, 500, 20000]:
            answer, text = nested(many)
            self.assertEqual(write_answer(answer) == text, True)
        self.assertEqual(write_answer(("a", 10 ** 30, (("", 1000, ()),))), f"a.{10 ** 30}(?1000)")

    def test_60_brackets_within_one_another_and_61(self):
        for many in [59, 60]:
            answer, text = nested(many)
            self.assertEqual(read_answer(text), answer)
        for many in [61, 62, 5000]:
            self.assertEqual(raised(read_answer, nested(many)[1]), (InvalidText, {"line": None}))
        side = nested(59)[1]
        self.assertEqual(read_answer(f"b.0({side},{side})"), ("b", 0, (nested(59)[0],) * 2))
        self.assertEqual(raised(read_answer, f"b.0(a.0,{nested(60)[1]})"), (InvalidText, {"line": None}))

    def test_numbers(self):
        for number in [0, 1, 9, 10, 99, 100, 999]:
            self.assertEqual(read_answer(f"a.{number}"), ("a", number, ()))
            self.assertEqual(read_answer(f"?{number}"), ("", number, ()))
        for text in ["00", "01", "007", "000", "1000", "9999", "-1", "+1", "", "x", "1x", "1_0", "0x1", "1.0", "\u0661", "\u00b2",
                     " 1", "1 ", "1" * 5000]:
            for whole in [f"a.{text}", f"?{text}", f"a.0(b.{text})", f"a.0(?{text})", f"a.{text}(b.0)"]:
                self.assertEqual(raised(read_answer, whole), (InvalidText, {"line": None}), whole)

    def test_texts_that_are_none(self):
        for text in ["", "None", "none ", " none", "none\n", "a", "a.", ".0", "a0", "A.0", "Base.0", "abcdefghi.0", "a1.0", "a.0 ", " a.0",
                     "a.0\n", "\na.0", "a .0", "a. 0", "a.0()", "a.0(", "a.0)", "a.0(b.0", "a.0(b.0))", "a.0((b.0))", "a.0(b.0,)",
                     "a.0(,b.0)", "a.0(b.0,,c.0)", "a.0(b.0 ,c.0)", "a.0(b.0, c.0)", "a.0,b.0", "a.0b.0", "a.0(b.0)c.0", "a.0(b.0)(c.0)",
                     "(a.0)", "()", "(", ")", ",", "?", "?a", "??0", "?0()", "?0(a.0)", "a?0", "a.?0", "?.0", "a.0(none)", "a.0(None)",
                     "none(a.0)", "a.0[b.0]", "a.0.0", "a..0", "a.0(b.0);", "clash", "('a', 0, ())", "a.0(b.0(c.0)", "a.0(b)"]:
            self.assertEqual(raised(read_answer, text), (InvalidText, {"line": None}), text)

    def test_values_that_are_no_text(self):
        for value in NO_TEXTS + [("a", 0, ())]:
            self.assertEqual(raised(read_answer, value), (InvalidText, {"line": None}))

    def test_answers_of_programs(self):
        asked = 0
        for number, book in enumerate(list(all_books())[::7]):
            maker = Maker(9500 + number, book)
            program = maker.program(3, 5)
            for _ in range(15):
                package = maker.chance.choice(program.packages())
                question, told = maker.head(package, 3, "xy"), maker.told(package, 3)
                try:
                    answer = program(package.name, question, told)
                except (Clash, NotSeen, WrongPlaces, InvalidQuestion):
                    continue
                self.assertEqual(read_answer(write_answer(answer)), answer)
                asked += answer is not None
        self.assertGreater(asked, 50)


class InterfaceTest(unittest.TestCase):

    def test_all_is_defined_here(self):
        for call in [write_program, read_program, write_answer, read_answer]:
            self.assertEqual(call.__module__, module.__name__)


if __name__ == "__main__":
    unittest.main()
