"""Faults of programs: questions that clash, and answers that are not the same everywhere."""

from soleinstances.asking import Asking
from soleinstances.errors import Clash
from soleinstances.headrows import is_open, put_in_head
from soleinstances.heads import Head, head_with
from soleinstances.listing import closed_questions, questions_with_variables, term_rows
from soleinstances.matching import can_ask, is_too_large
from soleinstances.rows import variables_of
from soleinstances.terms import Term, term_of
from soleinstances.views import MOST_TOLD, can_be_told

# Stands for the outcome of a question that clashes: no answer is equal to it.
CLASH = "clash"


def closed_terms(package, deep):
    """The list of all closed terms of at most this depth, of the constructors that a package sees."""
    return [term_of(row) for row in term_rows(package, deep, ())]


def questions(package, deep):
    """The list of all closed questions with such terms."""
    return [head_with(kept) for kept in closed_questions(package, deep)]


def open_questions(package, deep):
    """The list of all questions with such terms in which x stands too, and perhaps y behind it."""
    return [head_with(kept) for kept in questions_with_variables(package, deep)]


def is_fault(program, value):
    """Whether any value is a fault of a program."""
    if not isinstance(value, tuple) or len(value) == 0 or not isinstance(value[0], str):
        return False
    kind, *rest = value
    if kind == "clash" and len(rest) == 2:
        return _is_clash(program, *rest)
    if kind == "part" and len(rest) == 3:
        return _is_part(program, *rest)
    return kind == "early" and len(rest) == 5 and _is_early(program, *rest)


def faults(program, deep):
    """All faults with questions of terms up to a depth, the open ones without told wants, by kinds and packages."""
    closed = {}
    opened = {}
    rows = {}
    for name in program.names():
        closed[name] = closed_questions(program[name], deep)
        opened[name] = questions_with_variables(program[name], deep)
        rows[name] = term_rows(program[name], deep, ())
    askings = {name: Asking(program.book, program[name], []) for name in closed}
    for name in closed:
        for question in closed[name]:
            if _outcome(askings[name], question) == CLASH:
                yield ("clash", name, head_with(question))
    for other in closed:
        for question in closed[other]:
            name = _first_to_ask(program, other, question)
            if _are_parted(_outcome(askings[name], question), _outcome(askings[other], question)):
                yield ("part", name, other, head_with(question))
    for name in opened:
        for question in opened[name]:
            early = _outcome(askings[name], question)
            for other in _early_in(program, name, early):
                for closing in _wrong_closings(askings[other], question, early, rows[other]):
                    yield ("early", name, head_with(question), (), other, closing)


def _outcome(asking, question):
    """The answer to a kept question, None, or CLASH."""
    try:
        return asking.ask(question)
    except Clash:
        return CLASH


def _are_parted(one, other):
    """Whether two outcomes of the same closed question in two packages are a fault."""
    return one != CLASH and other != CLASH and one != other


def _first_to_ask(program, name, question):
    """The name of the first package of a program that can ask a kept question, which the one with this name can."""
    for package in program.packages():
        if can_ask(package, question):
            return package.name
    return name


def _early_in(program, name, early):
    """The list of the names of the packages in which an early outcome in a package has to be the same."""
    if early is None or early == CLASH:
        return []
    return [package.name for package in program.packages() if package.sees(name)]


def _wrong_closings(asking, question, early, rows):
    """The list of the closings of a kept question, by rows, behind which its answer is not the early one."""
    closings = [()]
    for name in variables_of(question[1]):
        closings = [(*pairs, (name, row)) for pairs in closings for row in rows]
    wrong = []
    for pairs in closings:
        closed = put_in_head(question, dict(pairs))
        # All its names are seen, but the terms together may be too many.
        if not is_too_large(closed) and _outcome(asking, closed) != early:
            wrong.append(tuple([(name, term_of(row)) for name, row in pairs]))
    return wrong


def _is_clash(program, name, question):
    """Whether any two values make a fault of the kind clash."""
    return _can_be_closed(program, name, question) and _outcome_in(program, name, question.kept) == CLASH


def _is_part(program, name, other, question):
    """Whether any three values make a fault of the kind part."""
    if not _can_be_closed(program, name, question) or not _can_be_closed(program, other, question):
        return False
    return _are_parted(_outcome_in(program, name, question.kept), _outcome_in(program, other, question.kept))


def _is_early(program, name, question, told, other, closing):
    """Whether any five values make a fault of the kind early."""
    if other not in program or not program[other].sees(name):
        return False
    if not _is_told(program[name], question) or not _are_told(program[name], told):
        return False
    heads = [question.kept, *[want.kept for want in told]]
    rows = _closing_rows(closing)
    variables = variables_of(tuple([entry for head in heads for entry in head[1]]))
    if rows is None or len(rows) != len(variables) or not all([name in rows for name in variables]):
        return False
    early = _outcome(Asking(program.book, program[name], heads[1:]), heads[0])
    if early is None or early == CLASH:
        return False
    closed = [put_in_head(head, rows) for head in heads]
    if not all([can_ask(program[other], head) for head in closed]):
        return False
    answers = [_outcome_in(program, other, head) for head in closed[1:]]
    if None in answers or CLASH in answers:
        return False
    return _outcome_in(program, other, closed[0]) != _put_in_tree(early, answers)


def _outcome_in(program, name, question):
    """The outcome of a kept question in a package of a program, without told wants."""
    return _outcome(Asking(program.book, program[name], []), question)


def _can_be_closed(program, name, question):
    """Whether any two values are the name of a package and a closed question that can be asked in it."""
    if name not in program or not isinstance(question, Head) or is_open(question.kept):
        return False
    return can_ask(program[name], question.kept)


def _is_told(package, value):
    """Whether any value is a Head that is an open question, and so can be a told want, in a package."""
    return isinstance(value, Head) and can_be_told(package, value.kept)


def _are_told(package, value):
    """Whether any value is a tuple of Heads that can be the told wants in a package."""
    if not isinstance(value, tuple) or len(value) > MOST_TOLD:
        return False
    return all([_is_told(package, want) for want in value])


def _closing_rows(value):
    """The dict from variables to rows for any value that is a tuple of pairs of these, each once; otherwise None."""
    if not isinstance(value, tuple):
        return None
    rows = {}
    for pair in value:
        if not isinstance(pair, tuple) or len(pair) != 2:
            return None
        name, term = pair
        if not isinstance(name, str) or name in rows or not isinstance(term, Term) or not term.is_closed:
            return None
        rows[name] = term.row
    return rows


def _put_in_tree(tree, answers):
    """The tree in which the answers of closed told wants stand in the place of these."""
    name, number, parts = tree
    if name == "":
        return answers[number]
    return (name, number, tuple([_put_in_tree(part, answers) for part in parts]))
