"""The promises [12] to [17] told once more, word by word and without any haste, to hold the program against."""

import itertools

from soleinstances.errors import Clash, NotSeen, WrongPlaces
from soleinstances.heads import Head
from soleinstances.terms import Term
from soleinstances.views import View

CLASH = "clash"


def plain_may_tell(book, package, number):
    """[12]."""
    head = package[number].head
    owned = [place.top in package.constructors() for place in head.places()]
    if head.task in package.tasks() or book.owner == "anybody":
        return True
    if book.owner == "any":
        return True in owned
    if book.owner == "first":
        return owned[0]
    ahead = [not any([place.is_variable for place in head.places()[:at]]) for at in range(len(head))]
    return any([own and free for own, free in zip(owned, ahead)])


def plain_met_by(book, package, number):
    """[13]."""
    head = package[number].head
    for seen in package.seen():
        own = seen.name == package.name
        for index, instance in enumerate(seen.instances()):
            if own and (index >= number or book.choose == "first"):
                continue
            other = instance.head
            if (head & other) is None:
                continue
            more_special = (head <= other and not other <= head) or (other <= head and not head <= other)
            meets = {"apart": True, "ladder": not more_special, "same": head <= other and other <= head, "nothing": False}
            if meets[book.look]:
                return (seen.name, index)
    return None


def plain_outcome(book, package, question, told=()):
    """[15]: an answer, None, or a tuple of CLASH, the question and what was found."""
    told = list(told)
    is_open = not question.is_closed
    if is_open and question in told:
        return ("", told.index(question), ())
    if is_open and book.early == "refused":
        return None
    seen = [(name, number, instance) for name, number, instance in package.all_told()]
    matches = [entry for entry in seen if question <= entry[2].head]
    others = [entry for entry in seen if not question <= entry[2].head and (question & entry[2].head) is not None]
    if is_open and book.early == "wait" and others:
        return None
    candidates = matches
    if book.wants == "ahead":
        candidates = []
        waits = False
        for match in matches:
            wants = match[2].wanted(question)
            outcomes = [plain_outcome(book, package, want, told) for want in wants]
            for outcome in outcomes:
                if outcome is not None and outcome[0] == CLASH:
                    return outcome
            if None not in outcomes:
                candidates.append(match)
            elif is_open and book.early == "wait":
                missing = [want for want, outcome in zip(wants, outcomes) if outcome is None]
                waits = waits or any([not want.is_closed for want in missing])
        if waits:
            return None
    if not candidates:
        return None
    chosen = plain_choice(book, candidates)
    if chosen is None:
        return (CLASH, question, [(name, number) for name, number, _ in candidates])
    outcomes = [plain_outcome(book, package, want, told) for want in chosen[2].wanted(question)]
    for outcome in outcomes:
        if outcome is not None and outcome[0] == CLASH:
            return outcome
    return None if None in outcomes else (chosen[0], chosen[1], tuple(outcomes))


def plain_choice(book, candidates):
    """The sixth step of [15]."""
    heads = [instance.head for _, _, instance in candidates]
    if book.choose == "sole":
        return candidates[0] if len(candidates) == 1 else None
    if book.choose == "first":
        return candidates[0] if len({name for name, _, _ in candidates}) == 1 else None
    for at, candidate in enumerate(candidates):
        if all([heads[at] < head for index, head in enumerate(heads) if index != at]):
            return candidate
    return None


def outcome_of(view, question, told=()):
    """What a view returns, or a tuple of CLASH, the question and what was found."""
    try:
        return view(question, told)
    except Clash as error:
        return (CLASH, error.question, error.found)


def plain_trees(package, question, told=()):
    """All trees of a question, in their order."""
    found = [("", index, ()) for index, want in enumerate(told) if want == question]
    for name, number, instance in package.all_told():
        if question <= instance.head:
            lists = [plain_trees(package, want, told) for want in instance.wanted(question)]
            found.extend([(name, number, parts) for parts in itertools.product(*lists)])
    return found


def plain_terms(package, deep, variables=()):
    """The list of all terms of at most a depth, by depth and then by the list of the tops and the parts."""
    tops = [(name, 0) for name in variables]
    for seen in package.seen():
        tops.extend(seen.constructors().items())
    found = []
    for depth in range(1, deep + 1):
        shallow = list(found)
        for name, many in tops:
            for parts in itertools.product(shallow, repeat=many):
                term = Term(name, *parts)
                if term.depth == depth:
                    found.append(term)
    return found


def plain_questions(package, deep, variables=()):
    """The list of all questions with such terms; with variables those in which x stands first, and then perhaps y."""
    found = []
    terms = plain_terms(package, deep, variables)
    for seen in package.seen():
        for task, many in seen.tasks().items():
            for places in itertools.product(terms, repeat=many):
                head = Head(task, *places)
                stand = [["x"], ["x", "y"]] if variables else [[]]
                if head.size <= 12 and head.variables() in stand:
                    found.append(head)
    return found


def plain_can_ask(package, question):
    """[14]."""
    try:
        package.check(question)
    except (NotSeen, WrongPlaces):
        return False
    return question.size <= 12 and question.depth <= 4


def plain_faults(program, deep):
    """The faults that [17] lists, in their order."""
    book, packages = program.book, program.packages()
    outcomes = {package.name: View(book, package) for package in packages}

    def outcome(name, question):
        return outcome_of(outcomes[name], question)

    def clashes(value):
        return value is not None and value[0] == CLASH

    found = []
    for package in packages:
        for question in plain_questions(package, deep):
            if clashes(outcome(package.name, question)):
                found.append(("clash", package.name, question))
    for package in packages:
        for question in plain_questions(package, deep):
            first = [other.name for other in packages if plain_can_ask(other, question)][0]
            one, other = outcome(first, question), outcome(package.name, question)
            if not clashes(one) and not clashes(other) and one != other:
                found.append(("part", first, package.name, question))
    for package in packages:
        for question in plain_questions(package, deep, ("x", "y")):
            early = outcome(package.name, question)
            if early is None or clashes(early):
                continue
            for other in packages:
                if not other.sees(package.name):
                    continue
                for terms in itertools.product(plain_terms(other, deep), repeat=len(question.variables())):
                    closing = tuple(zip(question.variables(), terms))
                    closed = question.put(dict(closing))
                    if plain_can_ask(other, closed) and outcome(other.name, closed) != early:
                        found.append(("early", package.name, question, (), other.name, closing))
    return found


def plain_put_in(tree, answers):
    """A tree with answers in the place of told wants."""
    name, number, parts = tree
    return answers[number] if name == "" else (name, number, tuple([plain_put_in(part, answers) for part in parts]))


def plain_is_early(program, name, question, told, other, closing):
    """[17], the fault of the kind early, for values of the right kinds."""
    book = program.book
    early = outcome_of(View(book, program[name]), question, told)
    if question.is_closed or early is None or early[0] == CLASH:
        return False
    if name not in [package.name for package in program[other].seen()]:
        return False
    closed = [head.put(dict(closing)) for head in [question, *told]]
    if not all([plain_can_ask(program[other], head) for head in closed]):
        return False
    outcomes = [outcome_of(View(book, program[other]), head) for head in closed]
    if any([outcome is None or outcome[0] == CLASH for outcome in outcomes[1:]]):
        return False
    return outcomes[0] != plain_put_in(early, outcomes[1:])
