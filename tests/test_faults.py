"""Faults, promise [17], and [3] (e) as far as it is told of faults."""

import itertools
import unittest

from soleinstances import faults as module
from soleinstances.books import Book, all_books
from soleinstances.errors import InvalidDepth, TooMany
from soleinstances.faults import closed_terms, faults, is_fault, open_questions, questions
from soleinstances.heads import Head
from soleinstances.packages import Package
from soleinstances.programs import Program
from soleinstances.terms import Term
from tests.helping import NO_NAMES, Agreeing, Odd, base, lists, raised, texts
from tests.making import Maker
from tests.plain import plain_faults, plain_is_early, plain_questions, plain_terms

NO_DEPTHS = [0, 4, -1, True, False, None, "1", 1.0, [1], (1, 2), 10 ** 30, Odd(), Agreeing()]


def kinds(nullary, unary=0, binary=0, tasks=None, name="kinds"):
    """A package that sees so many constructors of 0, 1 and 2 places, and owns some tasks."""
    wanted = [("A", 0)] * nullary + [("B", 1)] * unary + [("C", 2)] * binary
    words = [one + other for one in "abc" for other in "abcdefghijklmnopqrstuvwxyz"]
    named = {name[0].upper() + letter.lower() + words[at]: many for at, (letter, many) in enumerate(wanted)}
    rows = list(named.items())
    owned = list((tasks or {}).items())
    used = []
    while len(rows) > 6 or len(owned) > 4:
        used.append(Package(name + "abcdefg"[len(used)], *used[-1:], constructors=dict(rows[:6]), tasks=dict(owned[:4])))
        rows, owned = rows[6:], owned[4:]
    return Package(name, *used[-1:], constructors=dict(rows), tasks=dict(owned))


def tasks_of(*places):
    """The dict from some tasks to these numbers of places."""
    return {f"task{'abcdefghijklmnopqrstuvwxyz'[at]}": many for at, many in enumerate(places)}


def thirds():
    """A program with a fault of the kind clash: two packages do not know one another, a third one sees both."""
    show = Package("kinds", constructors={"Int": 0, "List": 1}, tasks={"show": 1, "is": 1})
    left = Package("left", show, instances=["show(Int)"])
    right = Package("right", show, instances=["show(x)"])
    return Program(Book.orphans(), Package("both", left, right, instances=["is(List(x)) if show(x)", "is(Int)"]))


def early():
    """A program with faults of the kind early: what a package takes as settled, another one tells otherwise."""
    show = Package("kinds", constructors={"Int": 0, "List": 1, "Pair": 2}, tasks={"show": 1, "is": 1},
                   instances=["show(x)", "is(List(x)) if show(x)", "is(Pair(x,y)) if is(x) is(y)"])
    user = Package("user", show, constructors={"Own": 0}, instances=["show(Own)", "is(Int)", "is(Own)"])
    return Program(Book(owner="anybody", look="ladder", choose="special", early="once"), user)


class TermsTest(unittest.TestCase):

    def test_their_order(self):
        package = Package("top", Package("left", constructors={"Wide": 2, "Int": 0}),
                          constructors={"List": 1, "Set": 0})
        self.assertEqual(texts(closed_terms(package, 1)), ["Int", "Set"])
        two = ["Int", "Set", "Wide(Int,Int)", "Wide(Int,Set)", "Wide(Set,Int)", "Wide(Set,Set)", "List(Int)", "List(Set)"]
        self.assertEqual(texts(closed_terms(package, 2)), two)
        three = texts(closed_terms(package, 3))
        self.assertEqual(three[:8], two)
        self.assertEqual(three[8:12], ["Wide(Int,Wide(Int,Int))", "Wide(Int,Wide(Int,Set))", "Wide(Int,Wide(Set,Int))",
                                       "Wide(Int,Wide(Set,Set))"])
        self.assertEqual(three[-6:-4], ["List(Wide(Int,Int))", "List(Wide(Int,Set))"])
        self.assertEqual(len(three), 2 + 64 + 8)

    def test_all_of_some_packages(self):
        rows = [(0, 0, 0), (1, 0, 0), (3, 2, 0), (0, 2, 2), (1, 1, 1), (2, 1, 1), (3, 0, 1), (2, 3, 0), (1, 7, 0), (9, 0, 1)]
        for many, deep in itertools.product(rows, [1, 2, 3]):
            if (many, deep) != (rows[-1], 3):
                package = kinds(*many)
                found = closed_terms(package, deep)
                self.assertEqual(found, plain_terms(package, deep), (many, deep))
                self.assertEqual([type(term) for term in found], [Term] * len(found))

    def test_the_order_of_the_seen_packages(self):
        left, right = Package("left", constructors={"B": 0, "A": 0}), Package("right", constructors={"D": 0, "C": 0})
        both = Package("both", right, left, constructors={"E": 0})
        self.assertEqual(texts(closed_terms(both, 1)), ["D", "C", "B", "A", "E"])

    def test_depths_that_are_none(self):
        package = kinds(2, tasks={"show": 1})
        for deep in NO_DEPTHS:
            for call in [closed_terms, questions, open_questions]:
                self.assertEqual(raised(call, package, deep), (InvalidDepth, {"value": deep}))
            self.assertEqual(raised(closed_terms, kinds(7, 7, 5), deep), (InvalidDepth, {"value": deep}))
            self.assertEqual(raised(lambda: list(faults(Program(Book(), package), deep))), (InvalidDepth, {"value": deep}))

    def test_300_terms_and_301(self):
        many = (TooMany, {"limit": 300})
        full, over = kinds(10, 9, 2, {"show": 1}), kinds(7, 7, 5, {"show": 1})
        self.assertEqual(len(closed_terms(full, 2)), 300)
        self.assertEqual(len(questions(full, 2)), 300)
        self.assertEqual(len(closed_terms(over, 1)), 7)
        for call in [closed_terms, questions]:
            self.assertEqual(raised(call, over, 2), many)
            self.assertEqual(raised(call, full, 3), many)
        self.assertEqual(raised(questions, kinds(7, 7, 5), 2), many)

    def test_300_terms_with_variables_and_301(self):
        full, over = kinds(8, 9, 2, {"show": 1}), kinds(5, 7, 5, {"show": 1})
        self.assertEqual(len(plain_terms(full, 2, ("x", "y"))), 300)
        self.assertEqual(len(plain_terms(over, 2, ("x", "y"))), 301)
        self.assertEqual(open_questions(full, 2), plain_questions(full, 2, ("x", "y")))
        self.assertEqual(raised(open_questions, over, 2), (TooMany, {"limit": 300}))
        self.assertEqual(len(closed_terms(over, 2)), 165)


class QuestionsTest(unittest.TestCase):

    def test_their_order(self):
        package = Package("top", Package("left", constructors={"Int": 0}, tasks={"show": 1, "join": 2}),
                          constructors={"Set": 0}, tasks={"is": 1})
        self.assertEqual(texts(questions(package, 1)), [
            "show(Int)", "show(Set)", "join(Int,Int)", "join(Int,Set)", "join(Set,Int)", "join(Set,Set)", "is(Int)", "is(Set)"])
        self.assertEqual(texts(open_questions(package, 1)), [
            "show(x)", "join(x,x)", "join(x,y)", "join(x,Int)", "join(x,Set)", "join(Int,x)", "join(Set,x)", "is(x)"])
        lists = Package("lists", constructors={"List": 1, "Int": 0}, tasks={"join": 2})
        self.assertEqual(texts(open_questions(lists, 2)), [
            "join(x,x)", "join(x,y)", "join(x,Int)", "join(x,List(x))", "join(x,List(y))", "join(x,List(Int))",
            "join(Int,x)", "join(Int,List(x))", "join(List(x),x)", "join(List(x),y)", "join(List(x),Int)",
            "join(List(x),List(x))", "join(List(x),List(y))", "join(List(x),List(Int))", "join(List(Int),x)",
            "join(List(Int),List(x))"])

    def test_all_of_some_packages(self):
        rows = [((1, 0, 0), {"show": 1, "link": 3}), ((2, 1, 0), {"join": 2, "show": 1}), ((1, 1, 1), {"show": 1}),
                ((0, 1, 0), {"link": 3}), ((0, 0, 1), {"show": 1}), ((2, 0, 0), {"link": 3, "all": 3}), ((3, 2, 0), {}),
                ((1, 0, 1), {"show": 1}), ((1, 1, 0), {"link": 3})]
        compared = 0
        for (many, tasks), deep in itertools.product(rows, [1, 2, 3]):
            package = kinds(*many, tasks)
            for call, variables in [(questions, ()), (open_questions, ("x", "y"))]:
                if len(plain_terms(package, deep, variables)) > 300:
                    continue
                expected = plain_questions(package, deep, variables)
                if len(expected) > 2000:
                    self.assertEqual(raised(call, package, deep), (TooMany, {"limit": 2000}))
                    continue
                found = call(package, deep)
                self.assertEqual(texts(found), texts(expected), (many, tasks, deep))
                self.assertEqual([type(head) for head in found], [Head] * len(found))
                compared += 1
        self.assertGreater(compared, 45)

    def test_questions_of_twelve_names_and_more(self):
        package = kinds(1, 0, 1, {"join": 2})
        found = questions(package, 3)
        self.assertEqual(found, plain_questions(package, 3))
        self.assertEqual(len(closed_terms(package, 3)), 5)
        self.assertEqual(max([head.size for head in found]), 12)
        self.assertEqual(len(found), 24)

    def test_2000_questions_and_2001(self):
        many = (TooMany, {"limit": 2000})
        self.assertEqual(len(questions(kinds(10, tasks=tasks_of(3, 3)), 1)), 2000)
        self.assertEqual(len(questions(kinds(25, tasks=tasks_of(2, 1, 2, 1, 2, 1, 1, 1)), 1)), 2000)
        over = kinds(23, tasks=tasks_of(*[2] * 3, *[1] * 18))
        self.assertEqual(len(plain_questions(over, 1)), 2001)
        self.assertEqual(raised(questions, over, 1), many)
        for places in [[3, 3, 1], [1, 3, 3], [3, 1, 3]]:
            self.assertEqual(raised(questions, kinds(10, tasks=tasks_of(*places)), 1), many)
        self.assertEqual(raised(questions, kinds(13, tasks=tasks_of(3)), 1), many)
        self.assertEqual(raised(questions, kinds(10, 9, 2, tasks_of(3)), 2), many)

    def test_2000_open_questions_and_2001(self):
        places = [3, 2, 1, 3, 2, 3, 2, 1, 2, 3, 2, 2, 1, 2, 3, 2]
        full, over = kinds(10, tasks=tasks_of(*places, 1)), kinds(10, tasks=tasks_of(*places, 1, 1))
        self.assertEqual(len(plain_questions(full, 1, ("x", "y"))), 2000)
        self.assertEqual(len(plain_questions(over, 1, ("x", "y"))), 2001)
        self.assertEqual(len(open_questions(full, 1)), 2000)
        self.assertEqual(raised(open_questions, over, 1), (TooMany, {"limit": 2000}))

    def test_returned_lists_are_new(self):
        package = kinds(2, tasks={"show": 1})
        for call in [closed_terms, questions, open_questions]:
            call(package, deep=1).clear()
            self.assertGreater(len(call(package=package, deep=1)), 0)


class FaultsTest(unittest.TestCase):

    def shown(self, program, deep):
        """The faults of a program with texts in the place of heads and terms."""
        found = []
        for fault in faults(program, deep):
            parts = [str(part) if isinstance(part, Head) else part for part in fault]
            if fault[0] == "early":
                parts[5] = tuple([(name, str(term)) for name, term in fault[5]])
            found.append(tuple(parts))
        return found

    def test_example(self):
        apart = Package("apart", Package("kinds", constructors={"Int": 0}, tasks={"show": 1}), instances=["show(Int)"])
        found = list(faults(Program(Book.orphans(), apart), 1))
        self.assertEqual(found, [("part", "kinds", "apart", Head.read("show(Int)"))])

    def test_clash_and_part(self):
        self.assertEqual(self.shown(thirds(), 1), [
            ("clash", "both", "show(Int)"),
            ("part", "kinds", "left", "show(Int)"), ("part", "kinds", "right", "show(Int)"),
            ("part", "kinds", "both", "is(Int)")])
        found = self.shown(thirds(), 2)
        self.assertEqual(found[:2], [("clash", "both", "show(Int)"), ("clash", "both", "is(List(Int))")])
        self.assertEqual(found[2:], [
            ("part", "kinds", "left", "show(Int)"), ("part", "kinds", "right", "show(Int)"),
            ("part", "kinds", "right", "show(List(Int))"), ("part", "kinds", "both", "show(List(Int))"),
            ("part", "kinds", "both", "is(Int)")])

    def test_early(self):
        self.assertEqual(self.shown(early(), 1), [
            ("part", "kinds", "user", "is(Int)"),
            ("early", "kinds", "show(x)", (), "user", (("x", "Own"),)),
            ("early", "user", "show(x)", (), "user", (("x", "Own"),))])
        waiting = early().under(early().book.changed([("early", "wait")]))
        self.assertEqual(self.shown(waiting, 1)[1:], [("early", "kinds", "show(x)", (), "user", (("x", "Own"),))])
        refusing = early().under(early().book.changed([("early", "refused")]))
        self.assertEqual(self.shown(refusing, 1), [("part", "kinds", "user", "is(Int)")])

    def test_the_closings_of_two_variables(self):
        kinds = Package("kinds", constructors={"Int": 0}, tasks={"join": 2}, instances=["join(x,y)"])
        user = Package("user", kinds, constructors={"Own": 0}, instances=["join(Own,x)", "join(x,Own)"])
        program = Program(Book(owner="anybody", look="nothing", choose="special", early="wait"), user)
        clashes = [("clash", "user", "join(Own,Own)")]
        found = [("early", "kinds", text, (), "user", closing) for text, closing in [
            ("join(x,x)", (("x", "Own"),)),
            ("join(x,y)", (("x", "Int"), ("y", "Own"))),
            ("join(x,y)", (("x", "Own"), ("y", "Int"))),
            ("join(x,y)", (("x", "Own"), ("y", "Own"))),
            ("join(x,Int)", (("x", "Own"),)),
            ("join(Int,x)", (("x", "Own"),)),
        ]]
        self.assertEqual(self.shown(program, 1), clashes + found)

    def test_closings_that_make_a_question_too_large(self):
        kinds = Package("kinds", constructors={"Int": 0, "List": 1}, tasks={"show": 1}, instances=["show(x)"])
        user = Package("user", kinds, instances=["show(List(List(x)))"])
        program = Program(Book(owner="anybody", look="nothing", choose="special", early="once"), user)
        found = list(faults(program, 3))
        self.assertEqual(found, plain_faults(program, 3))
        closed = [str(fault[2].put(dict(fault[5]))) for fault in found if fault[:2] == ("early", "kinds")]
        self.assertEqual(closed, ["show(List(List(Int)))", "show(List(List(Int)))", "show(List(List(List(Int))))",
                                  "show(List(List(Int)))", "show(List(List(List(Int))))"])

    def by_chance(self, books, deep, make):
        """Holds the faults of programs made by chance against those told once more; returns how many there are."""
        many = {"clash": 0, "part": 0, "early": 0}
        for number, book in enumerate(books):
            program = make(Maker(number, book))
            try:
                found = list(faults(program, deep))
            except TooMany:
                continue
            self.assertEqual(found, plain_faults(program, deep))
            for fault in found:
                many[fault[0]] += 1
            for fault in found[::9]:
                self.assertIs(is_fault(program, fault), True, fault)
        return many

    def test_by_chance_under_all_books(self):
        def make(maker):
            return maker.program(maker.chance.choice([1, 2, 3, 4]), 5)

        many = self.by_chance(list(all_books()), 1, make)
        self.assertGreater(min(many.values()), 50, many)

    def test_by_chance_of_deeper_terms(self):
        def make(maker):
            show = Package("show", constructors={"Int": 0, "List": 1}, tasks={"show": 1, "is": 1})
            left, right = [maker.package(name, [show], 4) for name in ["left", "right"]]
            return Program(maker.book, maker.package("both", [left, right], 3))

        many = self.by_chance([book for book in all_books() if book.look != "apart"][::2], 2, make)
        self.assertGreater(min(many.values()), 50, many)

    def test_no_faults_under_the_plain_book(self):
        """There is none under the books that keep instances apart, and none under the ladder."""
        for book in [Book(), Book.ladder(), Book.firsts(), Book(wants="ahead", choose="special"), Book(early="once")]:
            for number in range(25):
                maker = Maker(2000 + number, book)
                try:
                    found = list(faults(maker.program(4, 4), 2))
                except TooMany:
                    continue
                self.assertEqual(found, [], (book, number))

    def test_a_program_without_packages(self):
        for deep in [1, 2, 3] + NO_DEPTHS:
            self.assertEqual(list(faults(Program(Book()), deep)), [])

    def test_errors_when_the_iteration_begins(self):
        found = faults(Program(Book(), base()), 5)
        self.assertEqual(raised(next, found), (InvalidDepth, {"value": 5}))

    def test_which_error_comes_first(self):
        def error(*packages):
            return raised(lambda: list(faults(Program(Book(), *packages), 2)))

        terms, asked = (TooMany, {"limit": 300}), (TooMany, {"limit": 2000})
        few = kinds(1, 1, 0, {"one": 1}, name="few")
        closed = kinds(5, 0, 12, {"two": 1}, name="closed")
        opened = kinds(15, 0, 1, {"three": 1}, name="open")
        both = kinds(15, 0, 1, {"four": 3}, name="both")
        for package, call, expected in [(few, questions, None), (closed, questions, terms), (opened, questions, None),
                                        (opened, open_questions, terms), (both, questions, asked),
                                        (both, open_questions, terms)]:
            self.assertEqual(raised(call, package, 2), expected, (package, call))
        self.assertEqual([error(few), error(closed), error(opened), error(both)], [None, terms, terms, asked])
        self.assertEqual([error(few, both), error(few, opened)], [asked, terms])
        self.assertEqual([error(opened, both), error(both, opened)], [terms, asked])

    def test_names_of_arguments(self):
        self.assertEqual(list(faults(program=Program(Book(), base()), deep=1)), [])
        self.assertIs(is_fault(program=Program(Book(), base()), value=None), False)


class IsFaultTest(unittest.TestCase):

    def check(self, program, expected, *values):
        for value in values:
            self.assertIs(is_fault(program, value), expected, value)

    def wrong_parts(self, program, fault):
        """A fault with one part changed to a value that cannot stand there."""
        others = NO_NAMES + ["", "no", "show(Int)", Head.read("no(Int)"), Head.read("show(No)"), Head("show", "Int", "Int"),
                             Head.read("show(List(List(List(List(Int)))))"), Term("Int"), Agreeing(), (), [], Odd()]
        for at in range(len(fault)):
            for value in others:
                if not (at == 3 and fault[0] == "early" and value == ()):
                    self.check(program, False, (*fault[:at], value, *fault[at + 1:]))
        self.check(program, False, list(fault), fault[:-1], (*fault, None), fault[1:], (fault,), ((), *fault))

    def test_values_of_other_kinds(self):
        for program in [Program(Book()), thirds(), early()]:
            self.check(program, False, *NO_NAMES, (), "clash", ("clash",), ("part",), ("early",), [], Agreeing(), (Odd(),),
                       (Agreeing(), "both", Head.read("show(Int)")), ("no", "both", Head.read("show(Int)")))

    def test_clash(self):
        program = thirds()
        question = Head.read("show(Int)")
        self.check(program, True, ("clash", "both", question), ("clash", "both", Head.read("is(List(Int))")),
                   ("clash", "both", Head.read("is(List(Int))")))
        self.wrong_parts(program, ("clash", "both", question))
        self.check(program, False, ("clash", "left", question), ("clash", "both", Head.read("is(Int)")),
                   ("clash", "both", Head.read("show(x)")), ("clash", "both", Head.read("show(List(Int))")),
                   ("clash", "both", "show(Int)"), ("clash", "both", question, question), ("part", "both", question))
        once = program.under(Book(owner="anybody", early="once"))
        self.check(once, False, ("clash", "both", Head.read("is(List(x))")))

    def test_part(self):
        program = thirds()
        fault = ("part", "kinds", "both", Head.read("show(List(Int))"))
        self.check(program, True, fault, ("part", "both", "kinds", fault[3]), ("part", "left", "right", fault[3]),
                   ("part", "left", "right", Head.read("show(Int)")))
        self.wrong_parts(program, fault)
        self.check(program, False, ("part", "both", "both", fault[3]), ("part", "right", "both", fault[3]),
                   ("part", "kinds", "both", Head.read("show(Int)")), ("part", "kinds", "both", Head.read("show(x)")),
                   ("part", "both", "kinds", Head.read("is(List(Int))")))

    def test_a_question_that_cannot_be_asked_in_both(self):
        one = Package("one", constructors={"Int": 0}, tasks={"show": 1})
        two = Package("two", one, constructors={"Set": 0}, instances=["show(Set)"])
        program = Program(Book(), two)
        self.check(program, False, ("part", "one", "two", Head.read("show(Set)")))
        self.check(Program(Book.orphans(), two), False, ("part", "one", "two", Head.read("show(Set)")))

    def test_early(self):
        program = early()
        own = Term("Own")
        fault = ("early", "kinds", Head.read("show(x)"), (), "user", (("x", own),))
        self.check(program, True, fault, ("early", "kinds", Head.read("is(List(x))"), (), "user", (("x", own),)),
                   ("early", "kinds", Head.read("show(y)"), (), "user", (("y", own),)))
        self.wrong_parts(program, fault)
        self.check(program, False, ("early", "kinds", Head.read("show(x)"), (), "kinds", (("x", own),)),
                   ("early", "user", Head.read("show(x)"), (), "kinds", (("x", own),)),
                   ("early", "kinds", Head.read("show(x)"), (), "user", (("x", Term("Int")),)),
                   ("early", "kinds", Head.read("show(Int)"), (), "user", ()),
                   ("early", "kinds", Head.read("is(x)"), (), "user", (("x", own),)))

    def test_the_closing(self):
        program = early()
        own, text = Term("Own"), Head.read("is(Pair(x,y))")
        told = (Head.read("is(x)"), Head.read("is(y)"))
        wrong = Head.read("is(Pair(List(x),y))")
        pairs = (("x", own), ("y", Term("Int")))
        self.check(program, True, ("early", "kinds", wrong, (told[1],), "user", pairs),
                   ("early", "kinds", wrong, (told[1],), "user", pairs[::-1]),
                   ("early", "kinds", wrong, told[::-1], "user", pairs),
                   ("early", "kinds", wrong, (*told, *told), "user", pairs))
        self.check(program, False, ("early", "kinds", text, told, "user", pairs),
                   ("early", "kinds", wrong, (*told, *told, told[0]), "user", pairs),
                   ("early", "kinds", wrong, list(told), "user", pairs),
                   ("early", "kinds", wrong, ("is(y)",), "user", pairs),
                   ("early", "kinds", wrong, (told[0],), "user", pairs),
                   ("early", "kinds", wrong, (told[1], Head.read("is(Int)")), "user", pairs),
                   ("early", "kinds", wrong, (told[1], Head.read("is(Own)")), "user", pairs),
                   ("early", "kinds", wrong, (told[1], Head.read("is(Pair(z,Own))")), "user", pairs))
        closings = [
            (), pairs[:1], pairs[1:], (*pairs, pairs[0]), (*pairs, ("z", own)), list(pairs), (list(pairs[0]), pairs[1]),
            (("x", "Own"), pairs[1]), (("x", Term("z")), pairs[1]), (("x", own, own), pairs[1]), (("x",), pairs[1]),
            (("z", own), pairs[1]), (("X", own), pairs[1]), ((Agreeing(), own), pairs[1]), (([], own), pairs[1]),
            (("x", None), pairs[1]), (("x", Agreeing()), pairs[1]), (("x", Term("No")), pairs[1]), "xy", None, 5,
            {"x": own, "y": own}, (("x", Head.read("show(Own)")), pairs[1]), (("x", Term("Own", "Own")), pairs[1]),
            (("x", Term("List", Term("List", Term("List", own)))), pairs[1]), (pairs[0], pairs[0]), (pairs[1], pairs[1]),
        ]
        for closing in closings:
            self.check(program, False, ("early", "kinds", wrong, (told[1],), "user", closing))

    def test_told_wants_with_variables_of_their_own(self):
        program = early()
        question, told = Head.read("show(x)"), (Head.read("is(z)"),)
        own = Term("Own")
        self.check(program, True, ("early", "kinds", question, told, "user", (("x", own), ("z", own))),
                   ("early", "kinds", question, told, "user", (("z", Term("Int")), ("x", own))))
        self.check(program, False, ("early", "kinds", question, told, "user", (("x", own),)))

    def test_closed_told_wants_need_answers_in_the_other_package(self):
        program = early()
        question, told = Head.read("show(x)"), (Head.read("is(List(z))"), Head.read("is(w)"))
        own, deep = Term("Own"), Term("Pair", "Int", "Own")
        for term, expected in [(own, True), (deep, True), (Term("Pair", "Int", Term("Pair", "Int", "Int")), True)]:
            closing = (("x", own), ("z", own), ("w", term))
            self.check(program, expected, ("early", "kinds", question, told, "user", closing))
        missing = Package("user", early()["kinds"], constructors={"Own": 0}, instances=["show(Own)", "is(Own)"])
        program = Program(early().book, missing)
        for term, expected in [(own, True), (Term("Int"), False), (deep, False)]:
            closing = (("x", own), ("z", own), ("w", term))
            self.check(program, expected, ("early", "kinds", question, told, "user", closing))
        clashing = Package("user", early()["kinds"], constructors={"Own": 0},
                           instances=["show(Own)", "is(Own)", "is(Pair(Own,x))", "is(Pair(x,Own))"])
        program = Program(early().book.changed([("look", "nothing")]), clashing)
        for term, expected in [(own, True), (Term("Pair", "Own", "Own"), False), (Term("Pair", "Own", "Int"), True)]:
            closing = (("x", own), ("z", own), ("w", term))
            self.check(program, expected, ("early", "kinds", question, told, "user", closing))

    def test_an_early_answer_with_told_wants_in_it(self):
        """The answers of the closed told wants are put in their place."""
        kinds = Package("kinds", constructors={"Int": 0, "List": 1}, tasks={"show": 1, "is": 1},
                        instances=["show(List(x)) if is(x)", "is(Int)"])
        program = Program(Book(early="once"), kinds)
        question, told = Head.read("show(List(x))"), (Head.read("is(x)"),)
        self.check(program, False, ("early", "kinds", question, told, "kinds", (("x", Term("Int")),)),
                   ("early", "kinds", question, told, "kinds", (("x", Term("List", "Int")),)))
        user = Package("user", kinds, constructors={"Own": 0}, instances=["is(Own)", "show(List(Own))"])
        program = Program(Book(owner="anybody", early="once", look="ladder", choose="special"), user)
        self.check(program, True, ("early", "kinds", question, told, "user", (("x", Term("Own")),)))
        self.check(program, False, ("early", "kinds", question, told, "user", (("x", Term("Int")),)),
                   ("early", "kinds", question, (), "user", (("x", Term("Own")),)))

    def test_the_closed_question_may_clash_or_have_no_answer(self):
        kinds = Package("kinds", constructors={"Int": 0}, tasks={"show": 1, "is": 1}, instances=["show(x)"])
        user = Package("user", kinds, constructors={"Own": 0}, instances=["show(Own)"])
        fault = ("early", "kinds", Head.read("show(x)"), (), "user", (("x", Term("Own")),))
        clashing = Program(Book(owner="anybody", early="once", look="ladder"), user)
        self.check(clashing, True, fault, ("clash", "user", Head.read("show(Own)")))
        wants = Package("wants", constructors={"List": 1, "Int": 0}, tasks={"show": 1, "is": 1}, instances=["show(x)"])
        user = Package("user", wants, constructors={"Own": 0}, instances=["show(List(x)) if is(x)", "is(Int)"])
        program = Program(Book(owner="anybody", early="once", look="ladder", choose="special"), user)
        self.check(program, True, ("early", "wants", Head.read("show(x)"), (), "user", (("x", Term("List", "Own")),)))

    def test_what_would_be_a_fault_if_it_were_closed(self):
        kinds = Package("kinds", constructors={"Int": 0}, tasks={"show": 1, "join": 2},
                        instances=["show(x)", "join(x,y)"])
        user = Package("user", kinds, instances=["show(y)", "join(y,x)"])
        program = Program(Book(owner="anybody", early="once", look="nothing"), user)
        question, pair = Head.read("show(x)"), Head.read("join(x,y)")
        self.check(program, True, ("early", "kinds", pair, (), "user", (("x", Term("Int")), ("y", Term("Int")))))
        self.check(program, False, ("early", "kinds", pair, (), "user", (("x", Term("Int")), ("z", Term("Int")))),
                   ("early", "kinds", pair, (), "user", (("z", Term("Int")), ("y", Term("Int")))))
        self.check(program, True, ("early", "kinds", question, (), "user", (("x", Term("Int")),)),
                   ("clash", "user", Head.read("show(Int)")))
        self.check(program, False, ("early", "kinds", question, (), "user", (("x", Term("z")),)),
                   ("early", "kinds", question, (), "user", (("z", Term("Int")),)),
                   ("early", "kinds", question, (), "user", (("x", Term("x")),)),
                   ("early", "kinds", question, (), "user", ()),
                   ("early", "kinds", Head.read("show(Int)"), (), "user", ()),
                   ("clash", "user", question), ("part", "kinds", "user", question))

    def test_closed_questions_that_are_too_large(self):
        kinds = Package("kinds", constructors={"Int": 0, "Pair": 2}, tasks={"show": 1}, instances=["show(x)"])
        user = Package("user", kinds, instances=["show(Pair(x,y))"])
        program = Program(Book(owner="anybody", early="once", look="ladder", choose="special"), user)
        pair = Term("Pair", "Int", "Int")
        four = Term("Pair", pair, pair)
        large = Term("Pair", Term("Pair", pair, pair), Term("Pair", pair, "Int"))
        self.assertEqual((len(large), large.depth), (13, 4))
        question = Head.read("show(x)")
        self.check(program, True, ("early", "kinds", question, (), "user", (("x", four),)))
        self.check(program, False, ("early", "kinds", question, (), "user", (("x", large),)),
                   ("early", "kinds", question, (), "user", (("x", Term("Pair", Term("Pair", four, "Int"), "Int")),)))
        told = (Head.read("show(z)"),)
        self.check(program, True, ("early", "kinds", question, told, "user", (("x", four), ("z", four))))
        self.check(program, False, ("early", "kinds", question, told, "user", (("x", four), ("z", large))))

    def test_told_wants_by_chance(self):
        many = {True: 0, False: 0}
        for number, book in enumerate([book for book in all_books() if book.early != "refused"] * 2):
            maker = Maker(4000 + number, book)
            program = maker.program(3, 6)
            for _ in range(25):
                name, other = [maker.chance.choice(program.names()) for _ in range(2)]
                question = Head.read(maker.head(program[name], 3, "xyz"))
                told = tuple([Head.read(text) for text in maker.told(program[name], 4)])
                names = list(dict.fromkeys([x for head in [question, *told] for x in head.variables()]))
                if question.is_closed or question.size > 12 or max([head.size for head in told], default=0) > 12:
                    continue
                closing = [(x, Term.read(maker.term(program[other], 3, "") or "Int")) for x in names]
                maker.chance.shuffle(closing)
                values = (name, question, told, other, tuple(closing))
                expected = plain_is_early(program, *values)
                self.assertIs(is_fault(program, ("early", *values)), expected, texts(values))
                many[expected] += bool(told)
                if book.look == "apart" and book.choose != "first" and book.owner in ("early", "first"):
                    self.assertIs(expected, False)
        self.assertGreater(min(many.values()), 20, many)

    def test_one_part_changed_of_faults_by_chance(self):
        checked = {"clash": 0, "part": 0, "early": 0}
        for number, book in enumerate([book for book in all_books() if book.look != "apart"]):
            maker = Maker(3000 + number, book)
            program = maker.program(3, 4)
            shown = list(faults(program, 1))
            for fault in shown[:2] + shown[-2:]:
                checked[fault[0]] += 1
                self.wrong_parts(program, fault)
                for name in program.names():
                    other = (fault[0], name, *fault[2:])
                    if fault[0] != "part":
                        self.check(program, other in shown, other)
        self.assertGreater(min(checked.values()), 20, checked)


class InterfaceTest(unittest.TestCase):

    def test_all_is_defined_here(self):
        for call in [closed_terms, questions, open_questions, is_fault, faults]:
            self.assertEqual(call.__module__, module.__name__)

    def test_lists_of_the_example(self):
        self.assertEqual(texts(questions(lists(), 3)), ["show(Int)", "show(List(Int))", "show(List(List(Int)))"])
        self.assertEqual(list(itertools.islice(faults(Program(Book(), lists()), 3), 5)), [])


if __name__ == "__main__":
    unittest.main()
