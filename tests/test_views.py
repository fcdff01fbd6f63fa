"""Questions and their outcomes, promises [14] and [15], and [3] (b)."""

import itertools
import unittest

from soleinstances.books import SWITCHES, Book, all_books
from soleinstances.errors import (Clash, InvalidBook, InvalidQuestion, InvalidTold, InvalidUse, NotSeen, TooLarge,
                                  TooMany, WrongPlaces)
from soleinstances.heads import Head
from soleinstances.instances import Instance
from soleinstances.packages import Package
from soleinstances.terms import Term
from soleinstances.views import View
from tests.helping import NO_HEAD_TEXTS, NO_NAMES, Agreeing, Odd, base, lists, more, raised, texts
from tests.making import Maker
from tests.plain import outcome_of, plain_outcome, plain_trees

NO_HEADS = NO_NAMES + NO_HEAD_TEXTS + [Term("x"), Instance("show(x)"), Agreeing()]
BASE = ("base", 0, ())


def kinds(*told):
    """A package with all that the tests need, and some instances."""
    return Package("kinds", constructors={"Int": 0, "Set": 0, "List": 1, "Pair": 2},
                   tasks={"show": 1, "join": 2, "link": 3, "is": 1}, instances=told)


def asked(words, package, question, told=()):
    """What comes out of a question: a tree, None, or a tuple of the texts of a Clash."""
    view = View(Book(**words), package)
    try:
        return view(question, told)
    except Clash as error:
        return (str(error.question), error.found)


class MakingTest(unittest.TestCase):

    def test_values_of_other_kinds(self):
        for value in NO_NAMES + [("early", "apart"), base(), Agreeing()]:
            self.assertEqual(raised(View, value, base()), (InvalidBook, {"part": None}))
            self.assertEqual(raised(View, value, 5), (InvalidBook, {"part": None}))
        for value in NO_NAMES + ["base", Book(), Agreeing()]:
            self.assertEqual(raised(View, Book(), value), (InvalidUse, {"number": None}))

    def test_package_and_book(self):
        view = View(book=Book.ladder(), package=lists())
        self.assertEqual(vars(view)["package"], lists())
        self.assertEqual((view.book, type(view.book)), (Book.ladder(), Book))

    def test_the_book_is_copied(self):
        book = Book()
        view = View(book, more())
        book.choose = "special"
        self.assertEqual(view.book, Book())
        view.book.choose = "special"
        self.assertEqual(view.book, Book())
        self.assertEqual(raised(view, "show(List(Int))")[0], Clash)

    def test_a_package_that_is_not_let(self):
        self.assertEqual(View(Book(), more())("show(Int)"), BASE)


class OutcomeTest(unittest.TestCase):

    def test_example(self):
        view = View(Book(), lists())
        found = [view("show(List(List(Int)))"), view("show(List(x))"), view("show(x)", ["show(x)"])]
        self.assertEqual(found, [("lists", 0, (("lists", 0, (BASE,)),)), None, ("", 0, ())])
        self.assertEqual(View(Book(early="wait"), lists())("show(List(x))", ["show(x)"]), ("lists", 0, (("", 0, ()),)))

    def test_closed_questions(self):
        for words in [{}, {"wants": "ahead"}, {"early": "wait"}, {"choose": "first"}, {"choose": "special"}]:
            self.assertEqual(asked(words, lists(), "show(Int)"), BASE)
            self.assertEqual(asked(words, lists(), Head.read("show(List(Int))")), ("lists", 0, (BASE,)))
            self.assertIsNone(asked(words, kinds("show(Int)"), "show(Set)"))
            self.assertIsNone(asked(words, kinds("show(List(x)) if show(x)"), "show(List(Int))"))

    def test_two_wants_in_order(self):
        package = kinds("show(Int)", "show(Set)", "show(Pair(x,y)) if show(y) show(x)")
        self.assertEqual(asked({}, package, "show(Pair(Int,Set))"), ("kinds", 2, (("kinds", 1, ()), ("kinds", 0, ()))))
        self.assertIsNone(asked({}, kinds("show(Int)", "show(Pair(x,y)) if show(y) show(x)"), "show(Pair(Int,Set))"))

    def test_told_wants_that_are_equal_to_the_question(self):
        told = ["show(x)", Head.read("show(y)"), "show(x)"]
        for early in SWITCHES["early"]:
            self.assertEqual(asked({"early": early}, lists(), "show(y)", told), ("", 1, ()))
            self.assertEqual(asked({"early": early}, lists(), "show(x)", tuple(told)), ("", 0, ()))
            self.assertIsNone(asked({"early": early}, lists(), "show(z)", told))
        self.assertEqual(asked({}, kinds("show(x)"), "show(Int)", ["show(x)"]), ("kinds", 0, ()))
        self.assertEqual(asked({"early": "once"}, kinds("show(x)"), "show(x)", ["show(x)"]), ("", 0, ()))

    def test_a_told_want_ahead_of_a_clash(self):
        package = kinds("show(x)", "show(y)")
        self.assertEqual(asked({"early": "once"}, package, "show(x)"), ("show(x)", [("kinds", 0), ("kinds", 1)]))
        self.assertEqual(asked({"early": "once"}, package, "show(x)", ["show(x)"]), ("", 0, ()))

    def test_open_questions_by_the_words_of_early(self):
        package = kinds("show(Int)", "show(List(x)) if show(x)", "is(x)", "join(x,Int)", "join(Int,x)")
        rows = [
            ("show(List(Int))", ("kinds", 1, (("kinds", 0, ()),)), ("kinds", 1, (("kinds", 0, ()),))),
            ("is(x)", ("kinds", 2, ()), ("kinds", 2, ())),
            ("is(List(x))", ("kinds", 2, ()), ("kinds", 2, ())),
            ("show(x)", None, None),
            ("show(List(x))", None, None),
            ("join(x,Int)", None, ("kinds", 3, ())),
            ("join(x,List(y))", None, None),
            ("join(List(x),Int)", ("kinds", 3, ()), ("kinds", 3, ())),
        ]
        for question, wait, once in rows:
            is_open = "x" in question
            self.assertEqual(asked({}, package, question), None if is_open else once, question)
            self.assertEqual(asked({"early": "wait"}, package, question), wait, question)
            self.assertEqual(asked({"early": "once"}, package, question), once, question)

    def test_wait_where_nothing_else_could_match(self):
        package = kinds("show(List(List(Int)))", "show(List(x)) if is(x)", "is(Set)")
        self.assertIsNone(asked({"early": "wait"}, package, "show(List(x))", ["is(x)"]))
        self.assertEqual(asked({"early": "once"}, package, "show(List(x))", ["is(x)"]), ("kinds", 1, (("", 0, ()),)))
        clash = ("show(List(List(x)))", [("kinds", 0), ("kinds", 1)])
        package = kinds("show(List(List(x)))", "show(List(x))")
        self.assertEqual(asked({"early": "wait"}, package, "show(List(List(x)))"), clash)
        self.assertIsNone(asked({"early": "wait"}, package, "show(List(x))"))
        self.assertEqual(asked({"early": "wait", "choose": "special"}, package, "show(List(List(x)))"), ("kinds", 0, ()))

    def test_wait_for_a_seen_instance_of_another_package(self):
        package = Package("top", kinds("show(List(x))"), constructors={"Own": 0}, instances=["show(List(Own))"])
        for early, expected in [("refused", None), ("wait", None), ("once", ("kinds", 0, ()))]:
            self.assertEqual(asked({"early": early}, package, "show(List(x))"), expected)
            self.assertEqual(asked({"early": early}, kinds("show(List(x))"), "show(List(x))"),
                             None if early == "refused" else ("kinds", 0, ()))

    def test_wants_ahead_and_behind(self):
        package = kinds("show(List(x)) if is(x)", "show(List(x)) if show(x)", "show(Int)")
        clash = ("show(List(Int))", [("kinds", 0), ("kinds", 1)])
        for choose in ["sole", "special"]:
            self.assertEqual(asked({"choose": choose}, package, "show(List(Int))"), clash)
            self.assertEqual(asked({"choose": choose, "wants": "ahead"}, package, "show(List(Int))"),
                             ("kinds", 1, (("kinds", 2, ()),)))
        self.assertIsNone(asked({"choose": "first"}, package, "show(List(Int))"))
        self.assertEqual(asked({"choose": "first", "wants": "ahead"}, package, "show(List(Int))"),
                         ("kinds", 1, (("kinds", 2, ()),)))
        self.assertIsNone(asked({"wants": "ahead"}, package, "show(List(Set))"))

    def test_a_want_that_clashes(self):
        told = ["show(Int)", "show(Int)", "is(List(x)) if show(x)", "is(List(x))"]
        clash = ("show(Int)", [("kinds", 0), ("kinds", 1)])
        for choose in ["sole", "special"]:
            self.assertEqual(asked({"choose": choose, "wants": "ahead"}, kinds(*told), "is(List(Int))"), clash)
        self.assertEqual(asked({}, kinds(*told), "is(List(Int))"), ("is(List(Int))", [("kinds", 2), ("kinds", 3)]))
        self.assertEqual(asked({}, kinds(*told[:3]), "is(List(Int))"), clash)
        self.assertEqual(asked({}, kinds(*told[:3], "link(x,y,List(z)) if is(z)"), "link(Int,Int,List(List(Int)))"), clash)

    def test_a_clash_behind_a_want_without_an_answer(self):
        told = ["show(Int)", "show(Int)", "is(Pair(x,y)) if is(x) show(y)"]
        clash = ("show(Int)", [("kinds", 0), ("kinds", 1)])
        for wants in SWITCHES["wants"]:
            self.assertEqual(asked({"wants": wants}, kinds(*told), "is(Pair(Set,Int))"), clash)
            self.assertIsNone(asked({"wants": wants}, kinds(*told), "is(Pair(Int,Set))"))

    def test_the_first_want_that_clashes(self):
        told = ["show(Int)", "show(Int)", "show(Set)", "show(Set)", "is(Pair(x,y)) if show(x) show(y)"]
        self.assertEqual(asked({}, kinds(*told), "is(Pair(Set,Int))")[0], "show(Set)")
        self.assertEqual(asked({}, kinds(*told), "is(Pair(Int,Set))")[0], "show(Int)")

    def test_ahead_all_wants_of_all_matches_are_asked(self):
        told = ["show(Int)", "show(Int)", "is(List(x)) if is(x)", "is(List(y)) if show(y)"]
        clash = ("show(Int)", [("kinds", 0), ("kinds", 1)])
        self.assertEqual(asked({"wants": "ahead"}, kinds(*told), "is(List(Int))"), clash)
        self.assertEqual(asked({"wants": "ahead", "choose": "first"}, kinds(*told), "is(List(Int))")[0], "kinds")
        self.assertIsNone(asked({"choose": "first"}, kinds(*told), "is(List(Int))"))

    def test_ahead_and_wait(self):
        package = kinds("show(List(x)) if is(x)", "show(List(List(x)))", "show(Pair(x,y)) if is(x)", "show(Pair(x,y))")
        words = {"wants": "ahead", "early": "wait"}
        self.assertIsNone(asked(words, package, "show(List(List(x)))"))
        self.assertEqual(asked({"wants": "ahead", "early": "once"}, package, "show(List(List(x)))"), ("kinds", 1, ()))
        self.assertEqual(asked(words, package, "show(List(List(Int)))"), ("kinds", 1, ()))
        self.assertIsNone(asked(words, package, "show(Pair(x,Int))"))
        self.assertEqual(asked(words, package, "show(Pair(Int,x))"), ("kinds", 3, ()))
        self.assertEqual(asked(words, package, "show(Pair(x,Int))", ["is(x)"])[0], "show(Pair(x,Int))")

    def test_ahead_and_wait_where_a_later_want_clashes(self):
        told = ["is(Int)", "is(Int)", "join(x,List(y)) if show(x)", "join(x,List(y)) if is(y)"]
        words = {"wants": "ahead", "early": "wait"}
        clash = ("is(Int)", [("kinds", 0), ("kinds", 1)])
        self.assertEqual(asked(words, kinds(*told), "join(x,List(Int))"), clash)
        self.assertIsNone(asked(words, kinds(*told[1:]), "join(x,List(Int))"))

    def test_ahead_and_wait_where_one_want_is_open_and_another_is_closed(self):
        words = {"wants": "ahead", "early": "wait"}
        for told in ["join(x,List(y)) if show(x) is(y)", "join(x,List(y)) if is(y) show(x)"]:
            package = kinds(told, "join(x,List(y))")
            self.assertIsNone(asked(words, package, "join(x,List(Int))"))
            self.assertEqual(asked(words, package, "join(x,List(Int))", ["show(x)"]), ("kinds", 1, ()))
            self.assertEqual(asked(words, package, "join(Int,List(Int))"), ("kinds", 1, ()))
            self.assertIsNone(asked(words, package, "join(Int,List(x))"))

    def test_what_is_chosen(self):
        special = ["join(x,y)", "join(Int,y)", "join(Int,Int)", "join(x,Int)"]
        rows = [
            ("sole", special[:1], ("kinds", 0, ())),
            ("sole", special[:2], ("join(Int,Int)", [("kinds", 0), ("kinds", 1)])),
            ("sole", [], None),
            ("special", special[:1], ("kinds", 0, ())),
            ("special", special, ("kinds", 2, ())),
            ("special", special[::-1], ("kinds", 1, ())),
            ("special", [special[0], special[1], special[3]], ("join(Int,Int)", [("kinds", 0), ("kinds", 1), ("kinds", 2)])),
            ("special", ["join(x,y)", "join(y,x)"], ("join(Int,Int)", [("kinds", 0), ("kinds", 1)])),
            ("special", ["join(Int,Int)", "join(Int,Int)"], ("join(Int,Int)", [("kinds", 0), ("kinds", 1)])),
            ("special", [], None),
            ("first", special, ("kinds", 0, ())),
            ("first", special[1:2], ("kinds", 0, ())),
            ("first", ["join(Set,x)", *special[2:]], ("kinds", 1, ())),
            ("first", [], None),
        ]
        for choose, told, expected in rows:
            self.assertEqual(asked({"choose": choose}, kinds(*told), "join(Int,Int)"), expected, (choose, told))

    def test_candidates_of_several_packages(self):
        one = kinds("join(x,y)", "join(Set,x)")
        two = Package("two", one, instances=["join(Int,x)", "join(Int,Set)"])
        three = Package("three", kinds("join(x,y)", "join(Set,x)"), two, instances=["join(x,x)"])
        rows = [
            ("join(Int,Int)", ("join(Int,Int)", [("kinds", 0), ("two", 0), ("three", 0)]), None),
            ("join(Int,Set)", ("join(Int,Set)", [("kinds", 0), ("two", 0), ("two", 1)]), ("two", 1, ())),
            ("join(List(Int),Int)", ("kinds", 0, ()), ("kinds", 0, ())),
            ("join(Set,Int)", ("join(Set,Int)", [("kinds", 0), ("kinds", 1)]), ("kinds", 1, ())),
        ]
        for question, sole, special in rows:
            self.assertEqual(asked({}, three, question), sole)
            self.assertEqual(asked({"choose": "special"}, three, question), special or sole)
            first = ("kinds", 0, ()) if question in ["join(Set,Int)", "join(List(Int),Int)"] else sole
            self.assertEqual(asked({"choose": "first"}, three, question), first)

    def test_what_a_clash_tells(self):
        found = raised(View(Book(), kinds("show(x)", "show(Int)")), "show(Int)")
        self.assertEqual(found, (Clash, {"question": Head.read("show(Int)"), "found": [("kinds", 0), ("kinds", 1)]}))
        self.assertIs(type(found[1]["question"]), Head)
        self.assertEqual([type(found[1]["found"]), type(found[1]["found"][0])], [list, tuple])

    def test_many_wants(self):
        package = kinds("show(Int)", "show(Pair(x,y)) if show(x) show(y)")
        self.assertEqual(asked({}, package, "show(Pair(Pair(Pair(Int,Int),Int),Pair(Int,Int)))")[0], "kinds")
        part = "Pair(Int,Int)"
        self.assertIsNone(asked({}, kinds("show(Pair(x,y)) if show(x) is(y)"), f"show(Pair(Pair({part},Int),{part}))"))

    def test_by_chance_under_all_books(self):
        """Each question has just one outcome, the one of [15]."""
        maker = Maker(15)
        counts = {}
        for _ in range(260):
            package = maker.packages(maker.chance.choice([1, 2, 3]), 8)[-1]
            for _ in range(8):
                question = Head.read(maker.head(package, 4, maker.chance.choice(["x", "xy", ""])) or "show(Int)")
                told = [Head.read(text) for text in maker.told(package)]
                if question.size > 12:
                    continue
                for book in [maker.any_book() for _ in range(4)]:
                    found = outcome_of(View(book, package), question, told)
                    self.assertEqual(found, plain_outcome(book, package, question, told), (str(question), book))
                    kind = (found and found[0] == "clash" and "clash") or found and bool(found[2]), question.is_closed
                    counts[kind] = counts.get(kind, 0) + 1
        for kind in itertools.product([None, False, True, "clash"], [True, False]):
            self.assertGreater(counts.get(kind, 0), 20, counts)

    def test_every_book_gives_every_question_an_outcome(self):
        package = Package("top", kinds("show(x)", "show(List(x)) if show(x) is(x)", "is(Int)", "is(List(x)) if show(x)"),
                          instances=["show(Pair(x,y)) if show(x) is(y)", "is(Pair(x,y)) if is(x) is(y)", "is(Pair(x,x))"])
        heads = ["show(Int)", "show(List(Int))", "show(Pair(List(x),y))", "is(Pair(x,x))", "is(Pair(Int,Int))", "is(x)"]
        for book in all_books():
            for head in heads:
                found = outcome_of(View(book, package), head, ["is(x)"])
                self.assertEqual(found, plain_outcome(book, package, Head.read(head), [Head.read("is(x)")]))


class ErrorsTest(unittest.TestCase):

    def calls(self, package, question, *told):
        """The errors of all that takes a question."""
        view = View(Book(), package)
        found = [raised(view, question, *told), raised(view.is_tree, question, None, *told),
                 raised(lambda: list(view.trees(question, *told)))]
        if not told:
            found.append(raised(lambda: list(view.matches(question))))
            found.append(raised(lambda: list(view.could(question))))
        return found

    def check(self, error, package, question, *told):
        for found in self.calls(package, question, *told):
            self.assertEqual(found, error)

    def test_no_questions(self):
        for value in NO_HEADS:
            self.check((InvalidQuestion, {"value": value}), base(), value)
            self.check((InvalidQuestion, {"value": value}), base(), value, 5)

    def test_questions_that_are_too_large(self):
        twelve = "link(Pair(Pair(x,Int),Int),Pair(Int,List(Int)),List(Int))"
        self.assertEqual((Head.read(twelve).size, Head.read(twelve).depth), (11, 3))
        twelve = twelve.replace("List(Int))", "List(List(Int)))", 1)
        self.assertEqual(Head.read(twelve).size, 12)
        self.check(None, kinds(), twelve)
        thirteen = twelve.replace("x", "List(x)")
        self.check((TooLarge, {"amount": 13}), kinds(), thirteen)
        self.check((TooLarge, {"amount": 13}), kinds(), Head.read(thirteen), 5)
        self.check(None, kinds(), "join(Int,List(List(List(x))))")
        self.check((TooLarge, {"amount": 6}), kinds(), "join(Int,List(List(List(List(x)))))")
        self.check((TooLarge, {"amount": 14}), base(), "no(" + "No(" * 13 + "x" + ")" * 14)

    def test_names_that_are_not_seen_or_wrong(self):
        for question, name in [("no(Int)", "no"), ("show(No)", "No"), ("show(List(x))", "List"), ("no(No)", "no")]:
            self.check((NotSeen, {"name": name}), base(), question)
            self.check((NotSeen, {"name": name}), base(), question, 5)
        for question, name in [("show(x,No)", "show"), ("show(Int(x))", "Int"), ("show(Int(No))", "Int")]:
            self.check((WrongPlaces, {"name": name}), base(), question)
            self.check((WrongPlaces, {"name": name}), base(), question, [5])

    def test_told_that_is_no_list(self):
        for told in NO_NAMES[:8] + [{"show(x)"}, {"show(x)": 1}, "show(x)", Head("show", "x"), Odd(), Agreeing()]:
            self.check((InvalidTold, {"number": None}), base(), "show(Int)", told)

    def test_told_wants_that_are_none(self):
        for value in NO_HEADS + ["show(Int)", "show(List(Int))", "no(x)", "show(No(x))", "show(x,y)", "show(Int(x))"]:
            self.check((InvalidTold, {"number": 0}), lists(), "show(Int)", [value])
            self.check((InvalidTold, {"number": 1}), lists(), "show(Int)", ("show(x)", value, 5))

    def test_told_wants_that_are_too_large(self):
        self.check(None, lists(), "show(Int)", ["show(List(List(List(x))))"])
        self.check((InvalidTold, {"number": 0}), lists(), "show(Int)", ["show(List(List(List(List(x)))))"])
        large = "link(Pair(Pair(x,Int),Int),Pair(Int,List(Int)),List(List(x)))"
        self.check(None, kinds(), "show(Int)", [large])
        self.check((InvalidTold, {"number": 0}), kinds(), "show(Int)", [large.replace("x", "List(x)")])

    def test_four_told_wants_and_five(self):
        self.check(None, lists(), "show(Int)", ["show(x)"] * 4)
        self.check((InvalidTold, {"number": 4}), lists(), "show(Int)", ["show(x)"] * 5)
        self.check((InvalidTold, {"number": 4}), lists(), "show(Int)", [*["show(x)"] * 4, 5, 6])
        self.check((InvalidTold, {"number": 3}), lists(), "show(Int)", [*["show(x)"] * 3, 5, "show(x)"])

    def test_errors_when_the_iteration_begins(self):
        view = View(Book(), base())
        found = [view.matches("no"), view.could("no(x)"), view.trees("show(x)", 5)]
        self.assertEqual([raised(next, one)[0] for one in found], [InvalidQuestion, NotSeen, InvalidTold])

    def test_names_of_arguments(self):
        view = View(Book(), lists())
        self.assertEqual(view(question="show(x)", told=["show(x)"]), ("", 0, ()))
        self.assertEqual(list(view.matches(question="show(Int)")), [("base", 0)])
        self.assertEqual(list(view.could(question="show(Int)")), [])
        self.assertIs(view.is_tree(question="show(x)", value=("", 0, ()), told=["show(x)"]), True)
        self.assertEqual(list(view.trees(question="show(x)", told=["show(x)"])), [("", 0, ())])

    def test_what_is_handed_in_stays(self):
        told = ["show(x)", Head.read("show(y)")]
        View(Book(), lists())("show(List(Int))", told)
        self.assertEqual(told, ["show(x)", Head.read("show(y)")])


class MatchesTest(unittest.TestCase):

    def test_matches_and_could(self):
        package = Package("top", kinds("show(Int)", "show(List(x)) if is(x)", "show(x)"), constructors={"Own": 0},
                          instances=["show(Own)", "show(List(Own))", "show(y)"])
        rows = [
            ("show(Int)", [("kinds", 0), ("kinds", 2), ("top", 2)], []),
            ("show(x)", [("kinds", 2), ("top", 2)], [("kinds", 0), ("kinds", 1), ("top", 0), ("top", 1)]),
            ("show(List(x))", [("kinds", 1), ("kinds", 2), ("top", 2)], [("top", 1)]),
            ("show(List(Own))", [("kinds", 1), ("kinds", 2), ("top", 1), ("top", 2)], []),
            ("is(Int)", [], []),
        ]
        for question, matches, could in rows:
            for word in SWITCHES["early"]:
                view = View(Book(early=word), package)
                self.assertEqual(list(view.matches(question)), matches)
                self.assertEqual(list(view.could(Head.read(question))), could)

    def test_by_chance(self):
        maker = Maker(14)
        for _ in range(150):
            package = maker.packages(3, 8)[-1]
            question = Head.read(maker.head(package, 3))
            told = list(package.all_told())
            view = View(maker.any_book(), package)
            matches = [(name, number) for name, number, instance in told if question <= instance.head]
            both = [(name, number) for name, number, instance in told if (question & instance.head) is not None]
            if question.size <= 12:
                self.assertEqual(list(view.matches(question)), matches)
                self.assertEqual(list(view.could(question)), [entry for entry in both if entry not in matches])


class TreesTest(unittest.TestCase):

    def view(self, *told):
        return View(Book(), kinds(*told))

    def test_the_order_of_trees(self):
        view = self.view("show(Int)", "show(x)", "is(Pair(x,y)) if show(x) show(y)", "is(x)")
        one, two = ("kinds", 0, ()), ("kinds", 1, ())
        self.assertEqual(list(view.trees("is(Pair(Int,Int))")), [
            ("kinds", 2, (one, one)), ("kinds", 2, (one, two)), ("kinds", 2, (two, one)), ("kinds", 2, (two, two)),
            ("kinds", 3, ())])
        told = ["show(x)", "is(Pair(x,y))", "show(x)"]
        self.assertEqual(list(view.trees("is(Pair(x,y))", told)), [
            ("", 1, ()), ("kinds", 2, (("", 0, ()), two)), ("kinds", 2, (("", 2, ()), two)),
            ("kinds", 2, (two, two)), ("kinds", 3, ())])
        self.assertEqual(list(view.trees("show(Set)")), [two])
        self.assertEqual(list(self.view().trees("show(Set)")), [])

    def test_500_trees_and_more(self):
        eight = ["show(x)"] * 7
        view = self.view(*eight, "is(Pair(x,y)) if show(x) show(y)")
        self.assertEqual(len(list(view.trees("is(Pair(Int,Set))"))), 49)
        seen = Package("seen", kinds(*eight, "is(Pair(x,y)) if show(x) show(y)"), instances=["show(x)"] * 3)
        self.assertEqual(len(list(View(Book(), seen).trees("is(Pair(Int,Set))"))), 100)
        five = Package("five", seen, instances=[*["is(Pair(x,y)) if show(y) show(x)"] * 4])
        self.assertEqual(len(list(View(Book(), five).trees("is(Pair(Int,Set))"))), 500)
        view = View(Book(), five.with_instance("is(x)"))
        self.assertEqual(raised(lambda: list(view.trees("is(Pair(Int,Set))"))), (TooMany, {"limit": 500}))
        self.assertEqual(len(list(view.trees("is(Int)"))), 1)

    def test_500_trees_of_one_match_and_more(self):
        def stacked(shows, ones):
            """A view of packages on one another, with so many instances of the wants of one instance."""
            told = ["join(x,y) if show(x) is(y)", *["show(x)"] * shows, *["is(x)"] * ones]
            package = kinds(*told[:8])
            for at, letter in enumerate("abcdefg"):
                package = Package(letter, package, instances=told[8 + 8 * at:16 + 8 * at])
            return View(Book(), package)

        self.assertEqual(len(list(stacked(25, 20).trees("join(Int,Set)"))), 500)
        self.assertEqual(len(list(stacked(31, 16).trees("join(Int,Set)"))), 496)
        for shows, ones in [(25, 21), (26, 20), (31, 17)]:
            view = stacked(shows, ones)
            self.assertEqual(raised(lambda: list(view.trees("join(Int,Set)"))), (TooMany, {"limit": 500}))

    def test_too_many_of_a_want(self):
        told = ["show(x)"] * 5
        pairs = ["is(Pair(x,y)) if show(x) show(y)"]
        one = kinds(*told, *pairs)
        seen = Package("seen", one, instances=[*["show(x)"] * 7, "is(x)"])
        five = Package("five", seen, instances=["is(Pair(x,y)) if show(y) show(x)"] * 3)
        wrong = (TooMany, {"limit": 500})
        self.assertEqual(raised(lambda: list(View(Book(), five).trees("is(Pair(Int,Int))"))), wrong)
        for told in ["link(x,y,z) if none(x) is(z)", "link(x,y,z) if is(z) none(x)", "link(x,y,z) if none(y) is(z)"]:
            top = Package("top", five, tasks={"none": 1}, instances=[told])
            self.assertEqual(raised(lambda: list(View(Book(), top).trees("link(Int,Set,Pair(Int,Int))"))), wrong)
            self.assertEqual(list(View(Book(), top).trees("link(Int,Set,Int)")), [])
        top = Package("top", five, tasks={"none": 1}, instances=["link(x,y,List(z)) if none(x) link(x,y,z)",
                                                                 "link(x,y,Pair(z,z)) if none(x) is(z)"])
        self.assertEqual(raised(lambda: list(View(Book(), top).trees(
            "link(Int,Set,List(Pair(Pair(Int,Int),Pair(Int,Int))))"))), wrong)
        self.assertEqual(list(View(Book(), top).trees("link(Int,Set,List(List(Pair(Int,Int))))")), [])

    def test_trees_by_chance(self):
        maker = Maker(13)
        for _ in range(200):
            package = maker.packages(2, 5)[-1]
            question = Head.read(maker.head(package, 4) or "show(Int)")
            told = [Head.read(text) for text in maker.told(package, 4)]
            if question.size > 12:
                continue
            view = View(maker.any_book(), package)
            found = list(view.trees(question, told))
            self.assertEqual(found, plain_trees(package, question, told))
            for tree in found:
                self.assertIs(view.is_tree(question, tree, told), True)
            answer = outcome_of(view, question, told)
            if answer is not None and answer[0] != "clash":
                self.assertIn(answer, found)


class IsTreeTest(unittest.TestCase):

    def setUp(self):
        told = ["show(Int)", "show(x)", "is(Pair(x,y)) if show(x) show(y)", "is(List(x)) if is(x)", "is(x)"]
        self.view = View(Book(), kinds(*told))
        self.question = "is(List(Pair(Int,y)))"
        self.told = ["show(y)", "is(Pair(Int,y))", "show(y)"]

    def is_tree(self, value, expected, **more):
        told = {"question": self.question, "told": self.told, **more}
        self.assertIs(self.view.is_tree(told["question"], value, told["told"]), expected, value)

    def test_trees(self):
        for tree in self.view.trees(self.question, self.told):
            self.is_tree(tree, True)
        self.is_tree(("kinds", 3, (("kinds", 2, (("kinds", 0, ()), ("", 2, ()))),)), True)
        self.is_tree(("kinds", 3, (("", 1, ()),)), True)
        self.is_tree(("kinds", 4, ()), True)
        self.is_tree(("kinds", 3, (("", 1, ()),)), False, told=())

    def test_told_wants(self):
        for value in [("", 0, ()), ("", 2, ())]:
            self.is_tree(value, True, question="show(y)")
            self.is_tree(value, False, question="show(x)")
            self.is_tree(value, False, question="show(Int)")
        for value in [("", 1, ()), ("", 3, ()), ("", -1, ()), ("", True, ()), ("", False, ()), ("", 0, (1,)), ("", 0, []),
                      ("", "0", ()), ("", 0.0, ()), ("", None, ()), ("", 0), ("", 0, (), ()), ["", 0, ()],
                      (Agreeing(), 0, ()), (None, 0, ()), (b"", 0, ()), ("", Agreeing(), ()), ("", 0, Agreeing())]:
            self.is_tree(value, False, question="show(y)")

    def test_one_part_changed_at_any_depth(self):
        good = ("kinds", 0, ())
        wrong = NO_NAMES + ["kinds", (), ("kinds",), ("kinds", 0), ("kinds", 0, (), ()), ["kinds", 0, ()], ("kinds", 0, []),
                            ("kind", 0, ()), ("no", 0, ()), ("kinds", 2, ()), ("kinds", 5, ()), ("kinds", -1, ()),
                            ("kinds", "0", ()), ("kinds", False, ()), ("kinds", 0.0, ()), ("kinds", None, ()),
                            (None, 0, ()), (b"kinds", 0, ()), (Agreeing(), 0, ()), ("kinds", Agreeing(), ()),
                            ("kinds", 0, Agreeing()), ("kinds", 0, (good,)), ("kinds", 0, None), Agreeing(), (Odd(), 0, ()),
                            ("kinds", Odd(), ()), ("", 0, ()), ("kinds", 0, "")]
        self.is_tree(good, True, question="show(Int)")
        for value in wrong:
            self.is_tree(value, False, question="show(Int)")
            self.is_tree(("kinds", 2, (value, good)), False, question="is(Pair(Int,Int))")
            self.is_tree(("kinds", 2, (good, value)), False, question="is(Pair(Int,Int))")
            deep = ("kinds", 3, (("kinds", 3, (("kinds", 2, (good, value)),)),))
            self.is_tree(deep, False, question="is(List(List(Pair(Int,Int))))")
        self.is_tree(("kinds", 3, (("kinds", 3, (("kinds", 2, (good, good)),)),)), True,
                     question="is(List(List(Pair(Int,Int))))")

    def test_numbers_of_parts(self):
        one = ("kinds", 1, ())
        for parts in [(), (one,), (one, one, one)]:
            self.is_tree(("kinds", 2, parts), False, question="is(Pair(Int,Int))")
        self.is_tree(("kinds", 2, (one, one)), True, question="is(Pair(Int,Int))")
        self.is_tree(("kinds", 2, [one, one]), False, question="is(Pair(Int,Int))")

    def test_instances_of_seen_packages(self):
        view = View(Book(), lists())
        self.assertIs(view.is_tree("show(List(Int))", ("lists", 0, (BASE,))), True)
        self.assertIs(view.is_tree("show(List(Int))", ("base", 0, (BASE,))), False)
        self.assertIs(View(Book(), base()).is_tree("show(Int)", ("lists", 0, (BASE,))), False)

    def test_the_book_does_not_matter(self):
        for book in list(all_books())[::7]:
            self.assertIs(View(book, kinds("show(x)")).is_tree("show(x)", ("kinds", 0, ())), True)
            self.assertEqual(list(View(book, kinds("show(x)")).trees("show(x)")), [("kinds", 0, ())])


class InterfaceTest(unittest.TestCase):

    def test_all_is_defined_in_the_class(self):
        for name in ["book", "matches", "could", "is_tree", "trees", "__call__"]:
            self.assertIn(name, vars(View))
        self.assertIsInstance(vars(View)["book"], property)
        self.assertEqual(View.__module__, "soleinstances.views")
        self.assertEqual(texts(View(Book(), lists()).package.instances()), ["show(List(x)) if show(x)"])


if __name__ == "__main__":
    unittest.main()
