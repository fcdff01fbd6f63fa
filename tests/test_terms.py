"""Terms, promise [5], and what the general rules [2] say of them."""

import unittest

from soleinstances.errors import InvalidTerm, NoPart
from soleinstances.terms import Term
from tests.helping import NO_NAMES, Agreeing, Odd, raised, term_texts

ALL_TEXTS = [text for names in range(6) for text in term_texts(names)]

NO_TEXTS = [
    "", " ", "\n", "(", ")", ",", "()", "(x)", "x()", "x(y)", "x(Int)", "List()", "Pair(,)", "Pair(x,)", "Pair(,x)",
    "List(x", "List(x))", "List((x))", "List(x)(y)", "List(x)y", "xList(x)", "Pair(x,y", "Pair(x,y))", "Pair(x;y)",
    "Pair(x y)", "Pair(x,y,z)", "Pair(x,y,z", "Pair(Pair(x,y,z),x)", "Pair(x,y,)", "x,y", "Int,Int", "Int Int", "xx x",
    " x", "x ", "x\n", "\nx", "x\t", "Int ", "List (x)", "List( x)", "List(x )", "List(x) ", "Pair(x, y)", "Pair(x ,y)",
    "Pair(x,\ny)", "INT", "iNT", "Abcdefghi", "abcdefghi", "List(abcdefghi)", "x1", "Int1", "Li.st(x)", "List(\u00e9)",
    "List[x]", "show(x) if show(x)", "Pair(x)(y)", "List(List(x)", "List(x)List(x)", ")x(", "List(x(y))", "List(x,(y))",
    "List)x(", "Pair(x)y,z)", "Pair((x,y)", "List\u00a0(x)", "List(x)\u2028", "List(x)\0",
]

NO_TERMS = NO_NAMES + NO_TEXTS


def short_texts(length):
    """The dict from the texts of just so many characters, at most 8, of all terms with the letters A and x, to True."""
    texts = {"A" + "x" * (length - 1): True, "x" * length: True} if length > 0 else {}
    for name in range(1, length - 2):
        top = "A" + "x" * (name - 1)
        texts.update({f"{top}({part})": True for part in short_texts(length - name - 2)})
        for left in range(1, length - name - 3):
            rights = short_texts(length - name - 3 - left)
            texts.update({f"{top}({one},{other})": True for one in short_texts(left) for other in rights})
    return texts


class MakingTest(unittest.TestCase):

    def test_example(self):
        term = Term("Pair", "x", Term("List", "x"))
        found = [str(term), len(term), term.depth, term.variables(), str(term.put({"x": "Int"}))]
        self.assertEqual(found, ["Pair(x,List(x))", 4, 3, ["x"], "Pair(Int,List(Int))"])

    def test_parts_may_be_terms_and_texts(self):
        inner = Term("List", Term("x"))
        for parts in [(Term("y"), inner), ("y", inner), (Term("y"), "List(x)"), ("y", "List(x)")]:
            self.assertEqual(str(Term("Pair", *parts)), "Pair(y,List(x))")
        self.assertEqual(str(inner), "List(x)")

    def test_without_parts(self):
        self.assertEqual([str(Term("x")), str(Term("Int")), str(Term(top="Int"))], ["x", "Int", "Int"])

    def test_one_constructor_with_unlike_numbers_of_parts(self):
        self.assertEqual(str(Term("Pair", "Pair", Term("Pair", "Pair"))), "Pair(Pair,Pair(Pair))")

    def test_invalid_top(self):
        for top in NO_NAMES + ["", "INT", "iNT", "abcdefghi", "Abcdefghi", "x\n", "List(x)", "x1", " x"]:
            self.assertEqual(raised(Term, top), (InvalidTerm, {"value": top}))
            self.assertEqual(raised(Term, top, "x("), (InvalidTerm, {"value": top}))
        self.assertEqual(raised(Term, Term("x")), (InvalidTerm, {"value": Term("x")}))

    def test_invalid_part(self):
        for part in NO_TERMS:
            self.assertEqual(raised(Term, "List", part), (InvalidTerm, {"value": part}))
            self.assertEqual(raised(Term, "Pair", "x", part), (InvalidTerm, {"value": part}))
            self.assertEqual(raised(Term, "Pair", part, None), (InvalidTerm, {"value": part}))

    def test_the_part_is_named_ahead_of_their_number(self):
        self.assertEqual(raised(Term, "x", "y("), (InvalidTerm, {"value": "y("}))
        self.assertEqual(raised(Term, "Pair", "x", "y", 5), (InvalidTerm, {"value": 5}))
        self.assertEqual(raised(Term, "Pair", "x", "y", "z", "Int", "x y"), (InvalidTerm, {"value": "x y"}))

    def test_too_many_parts(self):
        self.assertEqual(raised(Term, "x", "y"), (InvalidTerm, {"value": "x"}))
        self.assertEqual(raised(Term, "x", Term("Int")), (InvalidTerm, {"value": "x"}))
        self.assertEqual(raised(Term, "Pair", "x", "y", "z"), (InvalidTerm, {"value": "Pair"}))
        self.assertEqual(raised(Term, "Pair", *["Int"] * 9), (InvalidTerm, {"value": "Pair"}))


class ReadingTest(unittest.TestCase):

    def test_texts_are_read_as_they_are_written(self):
        for text in ALL_TEXTS + ["abcdefgh", "Abcdefgh(abcdefgh)", "Pair(Pair,Pair(Pair))"]:
            self.assertEqual(str(Term.read(text)), text)
            self.assertIs(type(Term.read(text)), Term)

    def test_read_is_made(self):
        self.assertEqual(Term.read("Pair(x,List(Int))"), Term("Pair", "x", Term("List", "Int")))
        self.assertEqual(Term.read(text="x"), Term("x"))

    def test_other_values(self):
        for text in NO_TERMS:
            self.assertEqual(raised(Term.read, text), (InvalidTerm, {"value": text}))
        term = Term("x")
        self.assertEqual(raised(Term.read, term), (InvalidTerm, {"value": term}))

    def test_all_short_texts(self):
        texts = [""]
        for length in range(1, 9):
            texts = [text + sign for text in texts for sign in "Ax(,)"]
            read = [text for text in texts if raised(Term.read, text) is None]
            self.assertEqual(sorted(read), sorted(short_texts(length)))

    def test_long_texts(self):
        deep = "List(" * 97 + "Pair(x,Int)" + ")" * 97
        self.assertEqual([str(Term.read(deep)), len(Term.read(deep)), Term.read(deep).depth], [deep, 100, 99])
        for text in ["(" * 5000, "List(" * 5000, "Int)" * 5000, "Pair(x," * 5000, ")" * 5000, "x" * 5000, "," * 5000]:
            self.assertEqual(raised(Term.read, text), (InvalidTerm, {"value": text}))


class LookingTest(unittest.TestCase):

    def test_top_and_kinds(self):
        rows = [
            ("x", "x", True, False, 1, 1),
            ("Int", "Int", False, True, 1, 1),
            ("List(x)", "List", False, False, 2, 2),
            ("List(Int)", "List", False, True, 2, 2),
            ("Pair(Int,x)", "Pair", False, False, 2, 3),
            ("Pair(List(List(Int)),Int)", "Pair", False, True, 4, 5),
            ("Pair(Int,List(List(Int)))", "Pair", False, True, 4, 5),
            ("Pair(Pair(x,Int),Pair(Int,List(y)))", "Pair", False, False, 4, 8),
        ]
        for text, top, is_variable, is_closed, depth, names in rows:
            term = Term.read(text)
            self.assertEqual(term.top, top)
            self.assertIs(term.is_variable, is_variable)
            self.assertIs(term.is_closed, is_closed)
            self.assertEqual((term.depth, len(term)), (depth, names))

    def test_made_terms_look_the_same(self):
        term = Term("Pair", Term("List", "x"), "Int")
        found = (term.top, term.is_variable, term.is_closed, term.depth, len(term))
        self.assertEqual(found, ("Pair", False, False, 3, 4))

    def test_depth_and_number_of_all(self):
        def depth(term):
            return 1 + max([depth(part) for part in term.parts()], default=0)

        def names(term):
            return 1 + sum([names(part) for part in term.parts()])

        for text in ALL_TEXTS:
            term = Term.read(text)
            self.assertEqual((term.depth, len(term)), (depth(term), names(term)), text)

    def test_parts(self):
        term = Term.read("Pair(List(x),Int)")
        self.assertEqual(term.parts(), [Term.read("List(x)"), Term("Int")])
        self.assertEqual([term[0], term[1]], term.parts())
        self.assertEqual([Term("x").parts(), Term("Int").parts()], [[], []])
        self.assertEqual(Term.read("List(Pair(x,y))").parts(), [Term.read("Pair(x,y)")])

    def test_parts_make_the_term(self):
        for text in ALL_TEXTS:
            term = Term.read(text)
            self.assertIs(type(term.parts()), list)
            self.assertEqual(Term(term.top, *term.parts()), term)
            self.assertEqual([term[index] for index in range(len(term.parts()))], term.parts())

    def test_other_indexes(self):
        for text, many in [("x", 0), ("Int", 0), ("List(x)", 1), ("Pair(x,y)", 2)]:
            term = Term.read(text)
            others = [many, many + 1, 10 ** 30, -1, -2, True, False, None, "0", "x", 0.0, 1.5, b"0", [0], (0, 1)]
            for index in others + [slice(0, 1), Term("x"), Odd()]:
                self.assertEqual(raised(lambda: term[index]), (NoPart, {"number": index}))

    def test_names_that_stand_in_it(self):
        term = Term.read("Pair(x,List(Int))")
        for name in ["Pair", "x", "List", "Int"]:
            self.assertIs(name in term, True)
        others = ["y", "Set", "", "Pai", "List(Int)", "x,List", "Pair(x,List(Int))", Term("x"), term, ("x", 0)]
        for value in others + NO_NAMES + [Agreeing()]:
            self.assertIs(value in term, False)
        self.assertIs("x" in Term("x"), True)
        self.assertIs("x" not in Term("y"), True)

    def test_variables(self):
        rows = [
            ("x", ["x"]),
            ("Int", []),
            ("Pair(y,Pair(x,y))", ["y", "x"]),
            ("Pair(List(b),Pair(a,b))", ["b", "a"]),
        ]
        for text, names in rows:
            self.assertEqual(Term.read(text).variables(), names)

    def test_constructors(self):
        rows = [
            ("x", []),
            ("Int", [("Int", 0)]),
            ("Pair(y,Pair(Int,Int))", [("Pair", 2), ("Int", 0)]),
            ("Pair(Int,List(Int))", [("Pair", 2), ("Int", 0), ("List", 1)]),
            ("Pair(Pair,Pair(Pair))", [("Pair", 2), ("Pair", 0), ("Pair", 1)]),
        ]
        for text, entries in rows:
            self.assertEqual(Term.read(text).constructors(), entries)

    def test_returned_lists_are_new(self):
        term = Term.read("Pair(x,List(Int))")
        for call in [term.parts, term.variables, term.constructors]:
            before = call()
            call().append("more")
            call().clear()
            self.assertEqual(call(), before)
            self.assertIsNot(call(), call())
        self.assertEqual(str(term), "Pair(x,List(Int))")

    def test_truth(self):
        for text in ["x", "Int", "List(x)"]:
            self.assertIs(bool(Term.read(text)), True)


class EqualTest(unittest.TestCase):

    def test_equal_if_the_texts_are(self):
        terms = [Term.read(text) for names in range(5) for text in term_texts(names)]
        for one in terms:
            for other in terms:
                self.assertIs(one == other, str(one) == str(other))
                self.assertIs(one != other, str(one) != str(other))

    def test_made_and_read(self):
        self.assertEqual(Term("Pair", "x", "Int"), Term.read("Pair(x,Int)"))
        self.assertNotEqual(Term("Pair", "x", "Int"), Term("Pair", "Int", "x"))

    def test_other_values(self):
        for value in NO_NAMES + ["x", "Int"]:
            self.assertIs(Term("x") == value, False)
            self.assertIs(Term("x") != value, True)
            self.assertIs(value == Term("x"), False)


class PuttingTest(unittest.TestCase):

    def put(self, text, terms):
        return str(Term.read(text).put(terms))

    def test_terms_and_texts(self):
        self.assertEqual(self.put("Pair(x,y)", {"x": "List(y)", "y": Term("Int")}), "Pair(List(y),Int)")
        self.assertEqual(self.put("x", {"x": Term.read("Pair(x,x)")}), "Pair(x,x)")

    def test_all_at_once(self):
        self.assertEqual(self.put("Pair(x,Pair(y,x))", {"x": "y", "y": "x"}), "Pair(y,Pair(x,y))")
        self.assertEqual(self.put("Pair(x,y)", {"x": "List(y)", "y": "List(x)"}), "Pair(List(y),List(x))")

    def test_variables_that_are_no_keys_and_keys_that_do_not_stand(self):
        self.assertEqual(self.put("Pair(x,y)", {"y": "Int", "z": "x"}), "Pair(x,Int)")
        self.assertEqual(self.put("Pair(x,y)", {}), "Pair(x,y)")
        self.assertEqual(self.put("Int", {"x": "List(x)"}), "Int")

    def test_nothing_else_changes(self):
        term = Term.read("Pair(x,y)")
        terms = {"x": "Int", "y": Term("x")}
        result = term.put(terms)
        self.assertEqual(terms, {"x": "Int", "y": Term("x")})
        terms["x"] = "y"
        terms.clear()
        self.assertEqual([str(term), str(result)], ["Pair(x,y)", "Pair(Int,x)"])

    def test_no_dicts(self):
        for value in NO_NAMES + ["x", Term("x"), [("x", "Int")], "x=Int"]:
            if not isinstance(value, dict):
                self.assertEqual(raised(Term("x").put, value), (InvalidTerm, {"value": value}))

    def test_wrong_keys(self):
        for key in ["Int", "", "x y", "abcdefghi", "List(x)", 0, True, None, ("x",), b"x"]:
            for terms in [{key: "Int"}, {"x": "Int", key: "x"}]:
                self.assertEqual(raised(Term("x").put, terms), (InvalidTerm, {"value": terms}))

    def test_wrong_values(self):
        for value in NO_TERMS:
            for terms in [{"x": value}, {"x": "Int", "z": value}]:
                self.assertEqual(raised(Term("x").put, terms), (InvalidTerm, {"value": terms}))

    def test_argument_by_name(self):
        self.assertEqual(Term("x").put(terms={"x": "Int"}), Term("Int"))


class InterfaceTest(unittest.TestCase):

    def test_all_is_defined_in_the_class(self):
        names = ["top", "is_variable", "is_closed", "depth", "parts", "variables", "constructors", "put", "read"]
        signs = ["getitem", "len", "str", "contains", "eq", "and", "rand", "le", "lt", "ge", "gt"]
        for name in names + [f"__{sign}__" for sign in signs]:
            self.assertIn(name, vars(Term))
        for name in names[:4]:
            self.assertIsInstance(vars(Term)[name], property)
        self.assertIsInstance(vars(Term)["read"], staticmethod)
        self.assertEqual(Term.__module__, "soleinstances.terms")


if __name__ == "__main__":
    unittest.main()
