"""Packages as lines: how they are written, and drafts of packages that were read but are not made yet."""

from soleinstances.errors import InvalidText, SoleError
from soleinstances.instances import instance_of
from soleinstances.names import is_constructor, is_name
from soleinstances.packages import Package

KINDS = ("package", "constructor", "task", "instance")
DIGITS = "0123456789"


class Draft:
    """A package that was read, and the index of its first line."""

    def __init__(self, line, name, uses):
        self.line = line
        self.name = name
        self.uses_by_name = uses
        self.last_kind = "package"
        self.constructors_read = {}
        self.tasks_read = {}
        self.instances_read = []

    def takes(self, kind, what):
        """Takes in what a line of a kind tells; False if the line cannot stand here."""
        if KINDS.index(kind) < KINDS.index(self.last_kind):
            return False
        self.last_kind = kind
        if kind == "instance":
            self.instances_read.append(what)
            return True
        owned = self.constructors_read if kind == "constructor" else self.tasks_read
        name, many = what
        if name in owned:
            return False
        owned[name] = many
        return True


def lines_of(package):
    """The list of the lines of a package."""
    words = ["package", package.name]
    uses = [use.name for use in package.uses()]
    if len(uses) > 0:
        words.extend(["uses", *uses])
    lines = [" ".join(words)]
    lines.extend([f"constructor {name} {many}" for name, many in package.constructors().items()])
    lines.extend([f"task {name} {many}" for name, many in package.tasks().items()])
    lines.extend([f"instance {instance}" for instance in package.instances()])
    return lines


def read_drafts(lines, most):
    """The list of the drafts of at most so many packages; raises InvalidText for the first line that is wrong."""
    drafts = []
    for index, line in enumerate(lines):
        kind, _, rest = line.partition(" ")
        what = _read_line(kind, rest)
        if what is None or (kind == "package" and len(drafts) == most):
            raise InvalidText(index)
        if kind == "package":
            drafts.append(Draft(index, what[0], what[1]))
        elif len(drafts) == 0 or not drafts[-1].takes(kind, what):
            raise InvalidText(index)
    return drafts


def package_of(draft, packages):
    """The package of a draft, which uses some of these packages; raises InvalidText if it cannot be made."""
    uses = []
    for name in draft.uses_by_name:
        found = [package for package in packages if package.name == name]
        if len(found) == 0:
            raise InvalidText(draft.line)
        uses.append(found[0])
    constructors, tasks, told = draft.constructors_read, draft.tasks_read, draft.instances_read
    try:
        return Package(draft.name, *uses, constructors=constructors, tasks=tasks, instances=told)
    except SoleError:
        raise InvalidText(draft.line) from None


def read_package(lines, packages):
    """The one package of some lines, which uses some of these packages; raises InvalidText as for a program."""
    drafts = read_drafts(lines, 1)
    return package_of(drafts[0], packages)


def _read_line(kind, rest):
    """What the rest of a line tells behind a word that may be a kind, or None if the line is of no form."""
    if kind == "instance":
        return instance_of(rest)
    words = rest.split(" ")
    if kind == "package":
        return _read_package(words)
    if kind == "constructor" and is_constructor(words[0]):
        return _read_owned(words)
    if kind == "task" and is_name(words[0]):
        return _read_owned(words)
    return None


def _read_package(words):
    """The tuple of the name of a package and the list of the names of its uses, or None."""
    if not all([is_name(word) for word in words]):
        return None
    if len(words) == 1:
        return (words[0], [])
    return (words[0], words[2:]) if words[1] == "uses" and len(words) > 2 else None


def _read_owned(words):
    """The tuple of the name of a constructor or a task and its number of places, or None."""
    if len(words) != 2 or len(words[1]) != 1 or words[1] not in DIGITS:
        return None
    return (words[0], int(words[1]))
