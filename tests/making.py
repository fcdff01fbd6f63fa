"""Packages, questions and programs made by chance, the same ones each time."""

import random

from soleinstances.books import all_books
from soleinstances.errors import SoleError
from soleinstances.looks import is_let
from soleinstances.packages import Package
from soleinstances.programs import Program

BOOKS = list(all_books())


def variables_in(text):
    """Those of the variables x, y and z that stand in the text of a head, or in None."""
    return {"x", "y", "z"} & set(str(text).partition("(")[2].replace("(", ",").replace(")", ",").split(","))


class Maker:
    """Makes packages by chance, all let by its book if it has one, with tasks of at most so many places.

    The same number gives the same packages.
    """

    def __init__(self, number, book=None, places=3):
        self.chance = random.Random(number)
        self.book = book
        self.places = places

    def any_book(self):
        return self.chance.choice(BOOKS).twin()

    def term(self, package, deep, variables):
        """The text of a term of the constructors that a package sees, or None if there is none."""
        kinds = [item for seen in package.seen() for item in seen.constructors().items() if deep > 1 or item[1] == 0]
        if not kinds or (variables and self.chance.random() < 0.45):
            return self.chance.choice(variables) if variables else None
        name, many = self.chance.choice(kinds)
        parts = [self.term(package, deep - 1, variables) for _ in range(many)]
        if None in parts:
            return None
        return name + ("(" + ",".join(parts) + ")" if parts else "")

    def head(self, package, deep, variables="xyz"):
        """The text of a head of a task that a package sees, or None."""
        task, many = self.chance.choice([item for seen in package.seen() for item in seen.tasks().items()])
        places = [self.term(package, deep, variables) for _ in range(many)]
        return None if None in places else f"{task}({','.join(places)})"

    def told(self, package, most=2):
        """Some texts of heads that can be told wants."""
        heads = [self.head(package, 2) for _ in range(self.chance.randint(0, most))]
        return [head for head in heads if variables_in(head)]

    def instance(self, package):
        """The text of what may be an instance, or may not."""
        head = self.head(package, self.chance.choice([1, 2, 2, 3]))
        names = [name for name in "xyz" if name in variables_in(head)]
        wants = [self.want(package, names) for _ in range(self.chance.choice([0, 0, 1, 1, 2]) if names else 0)]
        return f"{head} if {' '.join(wants)}" if wants else str(head)

    def want(self, package, names):
        """The text of a want with some of these variables."""
        task, many = self.chance.choice([item for seen in package.seen() for item in seen.tasks().items()])
        return f"{task}({','.join([self.chance.choice(names) for _ in range(many)])})"

    def package(self, name, uses, most):
        """A package that uses some others, with at most so many instances."""
        letter = name[0].upper()
        kinds = {f"{letter}{'abc'[at]}": self.chance.choice([0, 0, 1, 2]) for at in range(self.chance.choice([0, 1, 2]))}
        tasks = {f"{name}{'st'[at]}": self.chance.choice([1, 1, 2, 3]) for at in range(self.chance.choice([0, 1]))}
        if not uses:
            kinds, tasks = {"Int": 0, "List": 1, **kinds}, {"show": 1, "join": 2}
        tasks = {task: min(many, self.places) for task, many in tasks.items()}
        package = Package(name, *uses, constructors=kinds, tasks=tasks)
        for _ in range(3 * self.chance.randint(0, most)):
            try:
                longer = package.with_instance(self.instance(package))
            except SoleError:
                continue
            if len(longer) <= most and (self.book is None or is_let(self.book, longer)):
                package = longer
        return package

    def packages(self, many, most):
        """Some packages, each of which uses some of those ahead of it."""
        found = [self.package("a", [], most)]
        for name in "bcdefgh"[:many - 1]:
            some = self.chance.sample(found, min(len(found), self.chance.choice([1, 1, 2])))
            found.append(self.package(name, some, most))
        return found

    def program(self, many, most):
        """A program of some packages under the book."""
        return Program(self.book, *self.packages(many, most))
