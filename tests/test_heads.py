"""Heads, promise [7], and what [2], [3] (a) and [6] say of them."""

import itertools
import unittest

from soleinstances.errors import InvalidHead, NoPart
from soleinstances.heads import Head
from soleinstances.terms import Term
from soleinstances.uniting import common, is_at_most
from tests.helping import NO_HEAD_TEXTS, NO_INDEXES, NO_NAMES, NO_TERM_TEXTS, Agreeing, raised, term_texts, texts

NO_HEADS = NO_NAMES + NO_HEAD_TEXTS + [Term("x"), Term.read("List(x)"), Agreeing()]

FEW = [text for names in range(3) for text in term_texts(names)]
SMALL = [Head("show", text) for names in range(5) for text in term_texts(names)]
PAIRS = [Head("join", one, other) for one, other in itertools.product(FEW + ["Pair(x,y)"], FEW)]
TRIPLES = [Head("link", *places) for places in itertools.product(["x", "y", "Int", "List(x)"], repeat=3)]


def short_heads(length):
    """The set of the texts of just so many characters, at most 7, of all heads with the letters A and x."""
    found = set()
    for task in range(1, length - 2):
        rest = length - task - 2
        for many in [1, 2, 3]:
            for row in short_places(rest, many):
                found.add("x" * task + "(" + row + ")")
    return found


def short_places(length, many):
    """The list of the texts of so many terms with commas between them, of just so many characters together."""
    if many == 1:
        return short_terms(length)
    found = []
    for first in range(1, length - 1):
        rest = short_places(length - first - 1, many - 1)
        found.extend([f"{one},{other}" for one in short_terms(first) for other in rest])
    return found


def short_terms(length):
    """The list of the texts of just so many characters of all terms with the letters A and x."""
    found = ["x" * length, "A" + "x" * (length - 1)] if length > 0 else []
    for top in range(1, length - 2):
        for many in [1, 2]:
            found.extend(["A" + "x" * (top - 1) + f"({row})" for row in short_places(length - top - 2, many)])
    return found


class MakingTest(unittest.TestCase):

    def test_places_may_be_terms_and_texts(self):
        pair = Term("Pair", "x", "Int")
        self.assertEqual(str(Head("show", "List(x)")), "show(List(x))")
        self.assertEqual(str(Head("show", Term("x"))), "show(x)")
        self.assertEqual(str(Head("join", pair, "x")), "join(Pair(x,Int),x)")
        self.assertEqual(str(Head("join", "Int", pair)), "join(Int,Pair(x,Int))")
        self.assertEqual(str(Head("link", "x", pair, "List(y)")), "link(x,Pair(x,Int),List(y))")
        self.assertEqual(str(Head("abcdefgh", "abcdefgh")), "abcdefgh(abcdefgh)")

    def test_the_task_may_be_named_like_a_variable(self):
        head = Head("x", "x")
        self.assertEqual([str(head), head.task, head.variables(), head.size], ["x(x)", "x", ["x"], 1])
        self.assertEqual(str(head.put({"x": "Int"})), "x(Int)")

    def test_invalid_task(self):
        for task in NO_NAMES + ["", "Show", "INT", "abcdefghi", "show ", "show\n", "show(x)", "x1", Term("x")]:
            for places in [["x"], [], ["x("], ["x", "y", "z", "w"]]:
                self.assertEqual(raised(Head, task, *places), (InvalidHead, {"value": task}))

    def test_invalid_place(self):
        for place in NO_NAMES + NO_TERM_TEXTS + [Head("show", "x"), "show(x)"]:
            self.assertEqual(raised(Head, "show", place), (InvalidHead, {"value": place}))
            self.assertEqual(raised(Head, "show", "x", place), (InvalidHead, {"value": place}))
            self.assertEqual(raised(Head, "show", "x", Term("Int"), place), (InvalidHead, {"value": place}))
            self.assertEqual(raised(Head, "show", place, 5, ""), (InvalidHead, {"value": place}))
            self.assertEqual(raised(Head, "show", "x", "y", "z", "w", place), (InvalidHead, {"value": place}))

    def test_number_of_places(self):
        for places in [[], ["x"] * 4, ["x", Term("y"), "Int", "x", "x"]]:
            self.assertEqual(raised(Head, "show", *places), (InvalidHead, {"value": "show"}))


class ReadingTest(unittest.TestCase):

    def test_texts_are_read_as_they_are_written(self):
        for head in SMALL + PAIRS + TRIPLES:
            self.assertEqual(str(Head.read(str(head))), str(head))
            self.assertEqual(Head.read(str(head)), head)
        self.assertIs(type(Head.read(text="show(x)")), Head)
        self.assertEqual(str(Head.read("abcdefgh(abcdefgh,Abcdefgh)")), "abcdefgh(abcdefgh,Abcdefgh)")

    def test_what_is_read(self):
        head = Head.read("join(Pair(x,List(y)),Int)")
        self.assertEqual((head.task, texts(head.places())), ("join", ["Pair(x,List(y))", "Int"]))

    def test_other_values(self):
        for value in NO_HEADS + [Head("show", "x")]:
            self.assertEqual(raised(Head.read, value), (InvalidHead, {"value": value}))

    def test_all_short_texts(self):
        found = [""]
        for length in range(1, 8):
            found = [text + sign for text in found for sign in "Ax(,)"]
            read = {text for text in found if raised(Head.read, text) is None}
            self.assertEqual(read, short_heads(length))

    def test_long_texts(self):
        deep = "show(" + "List(" * 98 + "Pair(x,Int)" + ")" * 99
        self.assertEqual([str(Head.read(deep)), Head.read(deep).size, Head.read(deep).depth], [deep, 101, 100])
        for text in ["show(" * 5000, "show(" + "List(" * 5000, "show(x)" * 5000, ")" * 5000, "show(" + "x," * 5000]:
            self.assertEqual(raised(Head.read, text), (InvalidHead, {"value": text}))


class LookingTest(unittest.TestCase):

    def test_all_that_is_told(self):
        rows = [
            ("show(x)", False, 1, 1, 1, ["x"], []),
            ("show(Int)", True, 1, 1, 1, [], [("Int", 0)]),
            ("show(List(List(x)))", False, 3, 3, 1, ["x"], [("List", 1)]),
            ("join(y,x)", False, 1, 2, 2, ["y", "x"], []),
            ("join(Int,List(Int))", True, 2, 3, 2, [], [("Int", 0), ("List", 1)]),
            ("join(Pair(Int,x),Pair(x,Int))", False, 2, 6, 2, ["x"], [("Pair", 2), ("Int", 0)]),
            ("link(x,List(Int),x)", False, 2, 4, 3, ["x"], [("List", 1), ("Int", 0)]),
            ("link(Int,Pair(List(Int),Int),List)", True, 3, 6, 3, [],
             [("Int", 0), ("Pair", 2), ("List", 1), ("List", 0)]),
        ]
        for text, is_closed, depth, size, many, variables, constructors in rows:
            head = Head.read(text)
            self.assertIs(head.is_closed, is_closed, text)
            self.assertEqual((head.depth, head.size, len(head)), (depth, size, many), text)
            self.assertEqual((head.variables(), head.constructors()), (variables, constructors), text)

    def test_what_the_places_tell(self):
        for head in SMALL + PAIRS + TRIPLES:
            places = head.places()
            self.assertEqual(Head(head.task, *places), head)
            self.assertEqual(head.depth, max([place.depth for place in places]))
            self.assertEqual(head.size, sum([len(place) for place in places]))
            self.assertIs(head.is_closed, all([place.is_closed for place in places]))
            self.assertEqual([head[index] for index in range(len(head))], places)
            self.assertEqual(head.variables(), list(dict.fromkeys([x for place in places for x in place.variables()])))

    def test_kinds_of_values(self):
        head = Head.read("join(x,Int)")
        self.assertEqual([type(place) for place in head.places() + [head[0]]], [Term] * 3)
        self.assertIs(type(head.places()), list)
        self.assertEqual([head[0], head[1]], [Term("x"), Term("Int")])
        self.assertIs(bool(head), True)

    def test_other_indexes(self):
        for text, many in [("show(x)", 1), ("join(x,y)", 2), ("link(x,y,z)", 3)]:
            head = Head.read(text)
            for index in NO_INDEXES + [many, many + 1]:
                self.assertEqual(raised(lambda: head[index]), (NoPart, {"number": index}))

    def test_returned_lists_are_new(self):
        head = Head.read("join(x,List(Int))")
        for call in [head.places, head.variables, head.constructors]:
            before = list(call())
            call().append("more")
            call().clear()
            self.assertEqual(call(), before)
        self.assertEqual(str(head), "join(x,List(Int))")

    def test_equal_if_the_texts_are(self):
        heads = PAIRS[::3] + TRIPLES[::3] + [Head("show", "x"), Head("link", "x", "y"), Head("join", "x")]
        for one, other in itertools.product(heads, heads):
            self.assertIs(one == Head.read(str(other)), str(one) == str(other))
            self.assertIs(one != other, str(one) != str(other))
        for value in NO_NAMES + ["show(x)", Term("x")]:
            self.assertIs(Head("show", "x") == value, False)
            self.assertIs(Head("show", "x") != value, True)


class PuttingTest(unittest.TestCase):

    def put(self, text, terms):
        return str(Head.read(text).put(terms))

    def test_all_at_once(self):
        self.assertEqual(self.put("join(x,Pair(y,x))", {"x": "y", "y": "x"}), "join(y,Pair(x,y))")
        self.assertEqual(self.put("link(x,y,x)", {"x": "List(y)", "y": Term.read("List(x)")}),
                         "link(List(y),List(x),List(y))")

    def test_some_and_none(self):
        self.assertEqual(self.put("join(x,y)", {"y": "Int", "z": "x"}), "join(x,Int)")
        self.assertEqual(self.put("join(x,y)", {}), "join(x,y)")
        self.assertEqual(self.put("show(Int)", {"x": "y"}), "show(Int)")
        self.assertEqual(self.put("x(y)", {"x": "Int"}), "x(y)")

    def test_nothing_else_changes(self):
        head, terms = Head.read("join(x,y)"), {"x": "Int", "y": Term("x")}
        result = head.put(terms=terms)
        self.assertEqual(terms, {"x": "Int", "y": Term("x")})
        terms.clear()
        self.assertEqual(texts([head, result]), ["join(x,y)", "join(Int,x)"])

    def test_no_dicts(self):
        for value in NO_NAMES + ["x", Term("x"), Head("show", "x"), [("x", "Int")]]:
            if not isinstance(value, dict):
                self.assertEqual(raised(Head("show", "x").put, value), (InvalidHead, {"value": value}))

    def test_wrong_keys_and_values(self):
        for key in ["Int", "", "x y", "abcdefghi", "List(x)", 0, True, None, ("x",), b"x"]:
            for terms in [{key: "Int"}, {"x": "Int", key: "x"}]:
                self.assertEqual(raised(Head("show", "x").put, terms), (InvalidHead, {"value": terms}))
        for value in NO_NAMES + NO_TERM_TEXTS + [Head("show", "x")]:
            for terms in [{"x": value}, {"x": "Int", "z": value}]:
                self.assertEqual(raised(Head("show", "x").put, terms), (InvalidHead, {"value": terms}))


class SignsTest(unittest.TestCase):

    def test_all_pairs_of_small_heads(self):
        for heads in [SMALL[::2], PAIRS, TRIPLES]:
            for one, other in itertools.product(heads, heads[::2]):
                places = common(one.places(), other.places())
                found = one & other
                self.assertEqual(found, None if places is None else Head(one.task, *places))
                self.assertEqual(other & one, found)
                at_most, at_least = is_at_most(one.places(), other.places()), is_at_most(other.places(), one.places())
                signs = (one <= other, one < other, one >= other, one > other, one.is_alike(other))
                self.assertEqual(signs, (at_most, at_most and not at_least, at_least, at_least and not at_most,
                                         at_most and at_least))

    def test_texts_on_either_side(self):
        for one, other in itertools.product(TRIPLES[::5], TRIPLES[::3]):
            for left, right in [(str(one), other), (one, str(other))]:
                self.assertEqual(left & right, one & other)
                self.assertEqual((left <= right, left < right), (one <= other, one < other))
                self.assertEqual((left >= right, left > right), (one >= other, one > other))
            self.assertEqual(one.is_alike(str(other)), one.is_alike(other))

    def test_kinds_of_values(self):
        head = Head("show", "x")
        self.assertIs(type(head & "show(Int)"), Head)
        for value in [head <= "show(y)", head < "show(y)", head >= "show(y)", head > "show(Int)", head.is_alike(head)]:
            self.assertIs(type(value), bool)

    def test_the_same_variable_in_several_places(self):
        self.assertEqual(str(Head.read("join(x,x)") & "join(Int,y)"), "join(Int,Int)")
        self.assertIsNone(Head.read("join(x,x)") & "join(Int,List(y))")
        self.assertIsNone(Head.read("join(x,x)") & "join(y,List(y))")
        self.assertEqual(str(Head.read("link(x,y,x)") & "link(List(a),Int,List(b))"), "link(List(a),Int,List(a))")
        self.assertIs(Head.read("join(Int,Int)") <= "join(x,x)", True)
        self.assertIs(Head.read("join(x,y)") <= "join(x,x)", False)
        self.assertIs(Head.read("join(x,x)") < "join(x,y)", True)

    def test_the_same_names_in_both_heads(self):
        self.assertEqual(str(Head.read("join(x,Int)") & "join(List(x),x)"), "join(List(Int),Int)")
        self.assertEqual(str(Head.read("join(x,Int)") & "join(List(x),y)"), "join(List(a),Int)")
        self.assertEqual(str(Head.read("join(x,y)") & "join(y,x)"), "join(a,b)")
        self.assertIs(Head.read("join(x,y)").is_alike("join(y,x)"), True)
        self.assertIs(Head.read("join(List(x),x)") <= "join(x,y)", True)

    def test_unlike_tasks_and_numbers_of_places(self):
        for left, right in [("show(x)", "print(x)"), ("show(x)", "show(x,x)"), ("join(x,y)", "join(x,y,z)"),
                            ("show(Int)", "shows(Int)"), ("link(x,y,z)", "link(x)"), ("show(x)", "x(show)")]:
            one, other = Head.read(left), Head.read(right)
            self.assertIsNone(one & other)
            self.assertEqual([one <= other, one < other, one >= other, one > other, one.is_alike(other)], [False] * 5)
            self.assertEqual([one <= right, left >= other, one.is_alike(right)], [False] * 3)

    def test_names_of_the_common_head(self):
        self.assertEqual(str(Head.read("link(z,y,Pair(x,z))") & "link(u,v,w)"), "link(a,b,Pair(c,a))")
        self.assertEqual(str(Head.read("b(b,a)") & "b(x,y)"), "b(a,b)")

    def test_can_become_one_just_if_a_closed_head_is_both(self):
        closed = [text for names in range(5) for text in term_texts(names) if "x" not in text and "y" not in text]
        for one, other in itertools.product(PAIRS[::4], PAIRS[::3]):
            found = one & other
            for left, right in itertools.product(closed, closed[:4]):
                head = Head("join", left, right)
                self.assertIs(head <= one and head <= other, found is not None and head <= found)

    def test_wrong_texts(self):
        head = Head("show", "x")
        for text in NO_HEAD_TEXTS:
            calls = [lambda: head & text, lambda: text & head, lambda: head <= text, lambda: text <= head]
            calls += [lambda: head < text, lambda: text < head, lambda: head >= text, lambda: text >= head]
            for call in calls + [lambda: head > text, lambda: text > head, lambda: head.is_alike(text)]:
                self.assertEqual(raised(call), (InvalidHead, {"value": text}))

    def test_is_alike_of_other_values(self):
        for value in NO_HEADS:
            self.assertEqual(raised(Head("show", "x").is_alike, value), (InvalidHead, {"value": value}))
        self.assertEqual(raised(Head("show", "x").is_alike, other="x"), (InvalidHead, {"value": "x"}))

    def test_signs_beside_values_of_other_kinds(self):
        head = Head("show", "x")
        for value in [None, 5, ["show(x)"], Term("x")]:
            for call in [lambda: head & value, lambda: value & head, lambda: head <= value, lambda: value < head]:
                self.assertRaises(TypeError, call)


class InterfaceTest(unittest.TestCase):

    def test_all_is_defined_in_the_class(self):
        names = ["is_closed", "depth", "size", "places", "variables", "constructors", "put", "read", "is_alike"]
        signs = ["getitem", "len", "str", "eq", "and", "rand", "le", "lt", "ge", "gt"]
        for name in names + [f"__{sign}__" for sign in signs]:
            self.assertIn(name, vars(Head))
        for name in names[:3]:
            self.assertIsInstance(vars(Head)[name], property)
        self.assertIsInstance(vars(Head)["read"], staticmethod)
        self.assertEqual(Head.__module__, "soleinstances.heads")
        for head in [Head("show", "x"), Head.read("show(x)"), Head("show", "y") & "show(x)"]:
            self.assertEqual(vars(head)["task"], "show")


if __name__ == "__main__":
    unittest.main()
