"""The console, promise [24]."""

import itertools
import unittest

from soleinstances import console as module
from soleinstances.additions import addition
from soleinstances.books import SWITCHES, Book, all_books
from soleinstances.changes import least_changes
from soleinstances.console import Console
from soleinstances.errors import (BadCommand, InvalidBook, InvalidInstance, InvalidProgram, InvalidQuestion, InvalidText,
                                  InvalidTold, Meets, NameTaken, NothingToUndo, NotOwner, NotSeen, Refused, TooLarge,
                                  Undecided, UnknownName, WrongPlaces)
from soleinstances.later import meetings
from soleinstances.notes import write_answer, write_program
from soleinstances.programs import Program
from soleinstances.sessions import Session
from soleinstances.tables import judge
from tests.helping import NO_NAMES, Agreeing, base, raised
from tests.making import Maker

BASE = "add package base ; constructor Int 0 ; task show 1 ; instance show(Int)"
LISTS = "add package lists uses base ; constructor List 1 ; instance show(List(x)) if show(x)"
COMMANDS = ["switch look same", "show", BASE, "tell base show(Int)", "undo", "ask base show(Int)", "sound 3", "least 3", "lasts",
            "safe base show(x)"]


def console(*lines):
    """A console that was told some lines."""
    made = Console()
    for line in lines:
        made.enter(line)
    return made


class Checks(unittest.TestCase):
    """What the tests of all commands need."""

    def check(self, made, line, *lines):
        """The command returns these lines, a new list each time."""
        found = made.enter(line=line)
        self.assertEqual((type(found), found), (list, list(lines)))

    def fails(self, made, line, reason):
        """The command raises BadCommand with this reason, None or an error class and its attributes; nothing changes."""
        before = (made.session.program, made.session.book, len(made.session))
        error, found = raised(made.enter, line)
        self.assertIs(error, BadCommand)
        self.assertIs(found["line"], line)
        if reason is None:
            self.assertIsNone(found["reason"], line)
        else:
            self.assertIs(type(found["reason"]), reason[0], line)
            if reason[1] is not None:
                self.assertEqual(vars(found["reason"]), reason[1])
        self.assertEqual((made.session.program, made.session.book, len(made.session)), before)


class ConsoleTest(Checks):

    def test_example(self):
        made = Console()
        self.check(made, BASE, "base")
        found = [made.enter(line) for line in ["ask base show(Int)", "safe base show(x)", "sound 3", "undo", "lasts"]]
        self.assertEqual(found, [["base.0"], ["refused base.1"], ["sound apart"], [], ["yes"]])

    def test_a_new_console(self):
        made = Console()
        self.assertEqual((type(made.session), made.session.program, len(made.session)), (Session, Program(Book()), 0))
        self.assertIs(made.session, made.session)
        self.assertIsNot(Console().session, made.session)
        self.check(made, "show", "early apart sole behind refused")

    def test_values_that_are_no_command(self):
        for made in [Console(), console(BASE, LISTS)]:
            for value in NO_NAMES + [Agreeing(), b"show", ["show"], Book()]:
                self.fails(made, value, None)
            for line in ["", " ", "  ", "shows", "Show", "SHOW", "quit", "base", "show(Int)", "#", "none", "set look same", "package base"]:
                self.fails(made, line, None)

    def test_empty_words(self):
        made = console(BASE)
        for line in COMMANDS:
            for spoilt in [line + " ", " " + line, line + "  "]:
                self.fails(made, spoilt, None)
            if " " in line:
                self.fails(made, line.replace(" ", "  ", 1), None)
                self.fails(made, "  ".join(line.rsplit(" ", 1)), None)

    def test_words_too_few_and_too_many(self):
        made = console(BASE)
        for line in COMMANDS:
            words = line.split(" ")
            most = 2 if words[0] == "add" else 3 if words[0] in ("tell", "safe") else len(words)
            for many in range(1, most):
                self.fails(made, " ".join(words[:many]), None)
            if words[0] not in ("add", "tell", "safe"):
                self.fails(made, line + " more", None)
                self.fails(made, line + " 3", None)

    def test_other_signs_between_the_words(self):
        made = console(BASE)
        for line in COMMANDS:
            if " " in line:
                self.fails(made, line.replace(" ", "\t", 1), None)
                self.fails(made, line.replace(" ", "\n", 1), None)
        self.fails(made, "show\n", None)
        self.fails(made, "sound 3\n", None)


class SwitchTest(Checks):

    def test_switch_and_show(self):
        made = Console()
        expected = ["early", "apart", "sole", "behind", "refused"]
        for at, part in enumerate(SWITCHES):
            for word in SWITCHES[part][::-1]:
                expected[at] = word
                self.check(made, f"switch {part} {word}", " ".join(expected))
                self.check(made, "show", " ".join(expected))
        self.assertEqual((made.session.book, len(made.session)), (Book(), 16))

    def test_the_lines_of_the_program(self):
        made = console(BASE, LISTS)
        lines = ["package base", "constructor Int 0", "task show 1", "instance show(Int)", "package lists uses base",
                 "constructor List 1", "instance show(List(x)) if show(x)"]
        self.check(made, "show", "early apart sole behind refused", *lines)
        self.check(made, "switch choose special", "early apart special behind refused", *lines)
        self.check(made, "undo")
        self.check(made, "show", "early apart sole behind refused", *lines)
        self.check(made, "undo")
        self.check(made, "show", "early apart sole behind refused", *lines[:4])
        self.assertEqual(lines[:4], write_program(made.session.program).split("\n"))

    def test_wrong_ones(self):
        made = console(BASE)
        for line, part in [("switch look sole", "look"), ("switch Look same", "Look"), ("switch no same", "no"),
                           ("switch same look", "same"), ("switch early early", "early"), ("switch owner Any", "owner")]:
            self.fails(made, line, (InvalidBook, {"part": part}))
        made = console("switch owner anybody", "switch look nothing", BASE, LISTS,
                       "add package more uses lists ; instance show(List(Int))")
        self.fails(made, "switch owner early", (Refused, None))
        self.fails(made, "switch look apart", (Refused, None))


class AddTest(Checks):

    def test_packages(self):
        made = Console()
        self.check(made, BASE, "base")
        self.check(made, LISTS, "lists")
        self.check(made, "add package z", "z")
        self.check(made, "add package a uses z lists", "a")
        self.check(made, "add package all uses a z base ; task all 2 ; task some 1 ; instance all(x,y) if some(x) ; instance some(Int)",
                   "all")
        self.assertEqual((made.session.program.names(), len(made.session)), (["base", "lists", "z", "a", "all"], 5))
        self.assertEqual([use.name for use in made.session.program["all"].uses()], ["a", "z", "base"])
        self.assertEqual(made.session.program["base"], base())

    def test_a_package_told_again(self):
        made = console(BASE)
        self.check(made, BASE, "base")
        self.assertEqual((made.session.program.names(), len(made.session)), (["base"], 2))

    def test_lines_that_are_none(self):
        made = console(BASE)
        for line, index in [
                ("add base", 0), ("add package", 0), ("add package Base", 0), ("add package a uses", 0), ("add ;", 0), ("add ; package a", 0),
                ("add package a ;", 0), ("add package a; task t 1", 0), ("add package a ; ; task t 1", 1), ("add package a ; junk", 1),
                ("add constructor Int 0", 0), ("add task t 1 ; package a", 0), ("add package a ; task t 1 ; constructor A 0", 2),
                ("add package a ; task t 1 ; task t 1", 2), ("add package a ; task t 11", 1), ("add package a ; instance show(x", 1),
                ("add package a ; package b", 1), ("add package a ; package b ; junk", 1), ("add package a ; junk ; package b", 1),
                ("add package a\n ; task t 1", 0), ("add package a ; constructor A 0 ; instance t(x) if t(x)", 2)]:
            self.fails(made, line, (InvalidText, {"line": index}))

    def test_packages_that_cannot_be_made(self):
        made = console(BASE)
        for line in ["add package a uses b", "add package a uses a", "add package a uses base base", "add package a ; constructor A 3",
                     "add package a ; task t 0", "add package a ; task t 1 ; instance t(Int)", "add package a ; instance show(Int)",
                     "add package base uses base", "add package a uses base ; constructor Int 0"]:
            self.fails(made, line, (InvalidText, {"line": 0}))

    def test_packages_that_cannot_be_added(self):
        made = console(BASE)
        self.fails(made, "add package base", (NameTaken, {"name": "base"}))
        self.fails(made, "add package a ; task show 1", (NameTaken, {"name": "show"}))
        self.fails(made, "add package a uses base ; instance show(Int)", (Refused, None))
        for name in "abcdefg":
            made.enter(f"add package {name}")
        self.fails(made, "add package h", (InvalidProgram, {"number": None}))
        self.fails(made, "add package h uses base ; junk", (InvalidText, {"line": 1}))


class TellTest(Checks):

    def test_tell(self):
        made = console(BASE, LISTS, "switch choose first")
        self.check(made, "tell base show(Int)", "show(Int)")
        self.check(made, "tell lists show(List(List(x))) if show(x)", "show(List(List(x))) if show(x)")
        made.enter("add package two ; constructor Two 2 ; task one 1 ; task two 2")
        self.check(made, "tell two two(Two(x,y),z) if one(x) two(y,z)", "two(Two(x,y),z) if one(x) two(y,z)")
        self.assertEqual([str(told) for told in made.session.program["two"].instances()], ["two(Two(x,y),z) if one(x) two(y,z)"])
        self.assertEqual(len(made.session), 7)

    def test_wrong_ones(self):
        made = console(BASE)
        for name in ["no", "Base", "show"]:
            self.fails(made, f"tell {name} show(x)", (UnknownName, {"name": name}))
        for text in ["show", "show(x", "show(Int) more", "show(x) if", "show(x) if show(x)", "Int", ";"]:
            self.fails(made, f"tell base {text}", (InvalidTold, {"number": 1}))
        self.fails(made, "tell base show(No)", (NotSeen, {"name": "No"}))
        self.fails(made, "tell base show(Int,Int)", (WrongPlaces, {"name": "show"}))
        error, found = raised(made.enter, "tell base show(x)")
        refused = found["reason"]
        self.assertEqual((refused.package, refused.number, type(refused.reason), vars(refused.reason)),
                         ("base", 1, Meets, {"package": "base", "number": 0}))

    def test_undo(self):
        made = console(BASE, "switch choose first", "tell base show(x)")
        for _ in range(3):
            self.check(made, "undo")
        self.assertEqual(made.session.program, Program(Book()))
        self.fails(made, "undo", (NothingToUndo, {}))
        self.fails(Console(), "undo", (NothingToUndo, {}))

    def test_the_session_itself(self):
        made = console(BASE)
        made.session.undo()
        self.check(made, "show", "early apart sole behind refused")
        made.session.add(base())
        self.check(made, "ask base show(Int)", "base.0")


class AskTest(Checks):

    def test_answers(self):
        made = console(BASE, LISTS)
        self.check(made, "ask lists show(List(List(Int)))", "lists.0(lists.0(base.0))")
        self.check(made, "ask base show(Int)", "base.0")
        self.check(made, "ask lists show(x)", "none")
        made = console("switch early once", BASE, LISTS, "add package top uses lists ; task all 1 ; instance all(x)")
        self.check(made, "ask top all(x)", "top.0")
        self.check(made, "ask top show(x)", "none")

    def test_a_clash(self):
        made = console("switch owner anybody", "switch look nothing", BASE, LISTS,
                       "add package more uses lists ; instance show(List(Int)) ; instance show(List(x))")
        self.check(made, "ask more show(List(Int))", "clash lists.0 more.0 more.1")
        self.check(made, "ask more show(List(List(Int)))", "clash lists.0 more.1")
        self.check(made, "ask lists show(List(Int))", "lists.0(base.0)")

    def test_wrong_ones(self):
        made = console(BASE)
        self.fails(made, "ask no show(Int)", (UnknownName, {"name": "no"}))
        for text in ["show", "Int", "show(Int", "base.0", "show(int),"]:
            self.fails(made, f"ask base {text}", (InvalidQuestion, {"value": text}))
        self.fails(made, "ask base show(List(Int))", (NotSeen, {"name": "List"}))
        self.fails(made, "ask base show(Int,Int)", (WrongPlaces, {"name": "show"}))
        made.enter(LISTS)
        self.fails(made, "ask lists show(List(List(List(List(Int)))))", (TooLarge, {"amount": 5}))
        self.fails(made, "ask base show(Int) show(Int)", None)

    def test_by_chance(self):
        many = 0
        for number, book in enumerate(list(all_books())[::11]):
            maker = Maker(9900 + number, book)
            made = Console()
            program = maker.program(3, 4)
            made.session.do(("book", book), *[("add", package) for package in program.packages()])
            for _ in range(10):
                name = maker.chance.choice(program.names())
                question = maker.head(program[name], 2, "xy")
                found = raised(program, name, question)
                if found is None:
                    self.check(made, f"ask {name} {question}", write_answer(program(name, question)))
                    many += 1
                elif "found" in found[1]:
                    rows = [f"{package}.{index}" for package, index in found[1]["found"]]
                    self.check(made, f"ask {name} {question}", " ".join(["clash", *rows]))
                else:
                    self.fails(made, f"ask {name} {question}", found)
        self.assertGreater(many, 100)


class BooksTest(Checks):

    def made_with(self, book):
        made = Console()
        made.session.set_book(book)
        return made

    def test_sound(self):
        for book, places in itertools.product(list(all_books())[::7], [1, 2, 3]):
            verdict = judge(book, places)
            if verdict:
                self.check(self.made_with(book), f"sound {places}", f"sound {verdict.paper[0]}")
            else:
                self.check(self.made_with(book), f"sound {places}", f"unsound {verdict.fault[0]}",
                           *write_program(verdict.program).split("\n"))

    def test_each_reason_and_each_kind(self):
        rows = [(Book(), "sound apart"), (Book.firsts(), "sound first"), (Book.ladder(), "sound ladder"),
                (Book.orphans(), "unsound part"), (Book(look="same"), "unsound clash"), (Book(choose="first", early="once"), "unsound early")]
        for book, line in rows:
            self.assertEqual(self.made_with(book).enter("sound 3")[0], line)
        anyone = self.made_with(Book(owner="any"))
        self.assertEqual([anyone.enter(f"sound {places}")[0] for places in [1, 2, 3]], ["sound apart"] + ["unsound clash"] * 2)

    def test_the_program_of_the_session_does_not_matter(self):
        self.check(console(BASE, LISTS), "sound 3", "sound apart")
        self.check(console(BASE, LISTS), "least 3", "-")

    def test_least(self):
        self.check(Console(), "least 3", "-")
        self.check(self.made_with(Book(look="ladder")), "least 1", "look=apart", "choose=special")
        self.check(self.made_with(Book(owner="any", look="nothing", early="once")), "least 2",
                   "owner=early look=apart", "owner=first look=apart", "owner=early look=ladder choose=special early=refused",
                   "owner=first look=ladder choose=special early=refused")
        for book, places in itertools.product(list(all_books())[::13], [1, 2, 3]):
            lines = [" ".join([f"{part}={word}" for part, word in changes]) or "-" for changes in least_changes(book, places)]
            self.check(self.made_with(book), f"least {places}", *lines)

    def test_other_places(self):
        for word, places in itertools.product(["sound", "least"], ["0", "4", "03", "1.0", "x", "-1", "+1", "11", "\u0661", "one"]):
            self.fails(Console(), f"{word} {places}", None)
            self.fails(self.made_with(Book(look="same")), f"{word} {places}", None)


class LaterTest(Checks):

    LINES = ["switch look ladder", "switch choose special", "add package one ; constructor Int 0 ; task join 2 ; instance join(x,y)",
             "add package two uses one ; constructor Two 1 ; task is 1 ; instance is(Int) ; instance join(Two(x),x) ; instance is(x)"]

    def test_lasts(self):
        made = console(*self.LINES)
        self.check(made, "lasts", "one.0 join(N,Na)", "two.1 join(Two(N),N)", "two.2 is(N)")
        lines = [f"{name}.{number} {package[0].head}" for name, number, package in meetings(made.session.program)]
        self.check(made, "lasts", *lines)
        self.check(console(BASE, LISTS), "lasts", "yes")
        self.check(Console(), "lasts", "yes")
        self.check(console("switch look ladder", BASE), "lasts", "yes")

    def test_lasts_where_it_is_undecided(self):
        for behind in [[], ["add package z ; task all 1 ; instance all(x)"]]:
            made = console("switch owner any", "switch look ladder", *behind, self.LINES[2], "add package y ; task some 1 ; instance some(x)")
            self.fails(made, "lasts", (Undecided, {"part": "owner"}))
        made = console(*[f"add package {name}" for name in "abcdefgh"])
        self.fails(made, "lasts", (Undecided, {"part": "packages"}))
        self.fails(made, "safe a no(x)", (Undecided, {"part": "packages"}))

    def test_safe(self):
        made = console("add package two ; constructor Key 0 ; constructor Box 1 ; task join 2 ; instance join(Key,Key)")
        self.check(made, "safe two join(Key,Box(Key))", "safe")
        self.check(made, "safe two join(Box(x),y) if join(x,y)", "met join(Box(N),Na)")
        self.check(made, "safe two join(x,y)", "refused two.1")
        made.enter("add package user uses two ; constructor Own 0 ; instance join(Own,x)")
        self.check(made, "safe two join(x,Box(y))", "refused user.0")
        self.check(made, "safe user join(Key,Own)", "safe")
        self.assertEqual(len(made.session), 2)

    def test_safe_where_it_is_wrong_or_undecided(self):
        made = console(BASE)
        self.fails(made, "safe no show(x)", (UnknownName, {"name": "no"}))
        for text in ["show", "show(Int) more", "show(x) if"]:
            self.fails(made, f"safe base {text}", (InvalidInstance, {"number": None}))
        self.fails(made, "safe base show(No)", (NotSeen, {"name": "No"}))
        for line, part in [("switch look same", "look"), ("switch owner anybody", "owner")]:
            self.fails(console(BASE, line), "safe base show(x)", (Undecided, {"part": part}))
        self.fails(console(BASE, "switch choose first", "switch wants ahead"), "safe base show(x)", (Undecided, {"part": "wants"}))
        self.fails(console(BASE, "switch choose first", "switch early wait"), "safe base show(x)", (Undecided, {"part": "early"}))

    def test_safe_by_chance(self):
        words = {"safe": 0, "met": 0, "refused": 0}
        for number in range(60):
            maker = Maker(9990 + number, Book(choose=["sole", "special", "first"][number % 3]))
            program = maker.program(2, 3)
            made = Console()
            made.session.do(("book", program.book), *[("add", package) for package in program.packages()])
            for _ in range(5):
                name = maker.chance.choice(program.names())
                text = maker.instance(program[name])
                error = raised(addition, program, name, text)
                if error is not None:
                    self.fails(made, f"safe {name} {text}", error)
                    continue
                found = addition(program, name, text)
                words[found.word] += 1
                tail = {"safe": "", "met": found.user and f" {found.user[0].head}",
                        "refused": found.cause and f" {found.cause.package}.{found.cause.number}"}[found.word]
                self.check(made, f"safe {name} {text}", found.word + tail)
        self.assertGreater(min(words.values()), 10, words)


class ReasonsTest(Checks):

    def test_an_error_within_an_error(self):
        made = console(BASE)
        error, found = raised(made.enter, "add package more uses base ; instance show(Int)")
        refused = found["reason"]
        self.assertEqual((error, found["line"], type(refused)), (BadCommand, "add package more uses base ; instance show(Int)", Refused))
        self.assertEqual((refused.package, refused.number, type(refused.reason), refused.reason.task), ("more", 0, NotOwner, "show"))

    def test_all_is_defined_in_the_class(self):
        self.assertIn("enter", vars(Console))
        self.assertIsInstance(vars(Console)["session"], property)
        self.assertEqual(Console.__module__, module.__name__)


if __name__ == "__main__":
    unittest.main()
