"""All trees of a question, whichever of them is its answer. Questions and wants are kept heads here."""

from soleinstances.errors import TooMany
from soleinstances.indexes import is_index
from soleinstances.instances import wants_for
from soleinstances.matching import matches_in, told_by_form

MOST_TREES = 500


class Growing:
    """Questions of which all trees are wanted, in one package, with the same told wants."""

    def __init__(self, package, taken):
        self.by_form = told_by_form(package)
        self.taken = taken
        self.grown = {}

    def grow(self, question):
        """The list of all trees of a question; raises TooMany if it, or a want in one of them, has too many."""
        if question not in self.grown:
            self.grown[question] = self._grow(question)
        return self.grown[question]

    def _grow(self, question):
        """The list of all trees of a question that was not grown yet."""
        found = [("", index, ()) for index, want in enumerate(self.taken) if want == question]
        for name, number, _, wants in matches_in(self.by_form, question):
            found.extend([(name, number, parts) for parts in _choices([self.grow(want) for want in wants])])
        if len(found) > MOST_TREES:
            raise TooMany(MOST_TREES)
        return found


def is_tree_of(package, taken, question, value):
    """Whether any value is a tree of a question in a package, with these told wants."""
    if not isinstance(value, tuple) or len(value) != 3:
        return False
    name, number, parts = value
    if not isinstance(name, str) or not isinstance(parts, tuple):
        return False
    if name == "":
        return is_index(number, len(taken)) and taken[number] == question and len(parts) == 0
    instance = _instance_at(package, name, number)
    wants = None if instance is None else wants_for(instance, question)
    if wants is None or len(wants) != len(parts):
        return False
    return all([is_tree_of(package, taken, want, part) for want, part in zip(wants, parts)])


def _choices(lists):
    """The list of the tuples with an item of each list, the first one slowest; raises TooMany if they are too many."""
    many = 1
    for items in lists:
        many = many * len(items)
    if many > MOST_TREES:
        raise TooMany(MOST_TREES)
    found = [()]
    for items in lists:
        found = [(*row, item) for row in found for item in items]
    return found


def _instance_at(package, name, number):
    """The instance with a number, which may be any value, of the seen package with a name, or None."""
    for seen in package.seen():
        if seen.name == name and is_index(number, len(seen)):
            return seen[number]
    return None
