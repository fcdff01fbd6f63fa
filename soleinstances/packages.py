"""Packages: what they own, what they use and see, and the instances that they tell."""

from soleinstances.errors import InvalidHead, InvalidName, InvalidOwned, InvalidTold, InvalidUse, NameTaken, NoInstance
from soleinstances.errors import NotSeen, UnknownName, WrongPlaces
from soleinstances.headrows import MOST_PLACES, entries_of
from soleinstances.heads import Head, head_with, kept_of
from soleinstances.indexes import is_index
from soleinstances.instances import entries_in, instance_of
from soleinstances.names import is_constructor, is_name
from soleinstances.rows import MOST_PARTS

MOST_USES = 4
MOST_SEEN = 8
MOST_CONSTRUCTORS = 6
MOST_TASKS = 4
MOST_INSTANCES = 8


class Package:
    """A package, which never changes."""

    def __init__(self, name, *uses, constructors=None, tasks=None, instances=()):
        if not is_name(name):
            raise InvalidName(name)
        others = _seen_by(name, uses)
        if not _are_constructors(constructors):
            raise InvalidOwned(constructors)
        if not _are_tasks(tasks):
            raise InvalidOwned(tasks)
        if not isinstance(instances, (list, tuple)) or len(instances) > MOST_INSTANCES:
            raise InvalidOwned(instances)
        self.name = name
        self.used = list(uses)
        self.others = others
        self.owned_constructors = {} if constructors is None else dict(constructors)
        self.owned_tasks = {} if tasks is None else dict(tasks)
        self.known = _known(name, others, self.owned_constructors, self.owned_tasks)
        self.told_here = _told(self.known, instances)
        self.own_text = _own_text(self)
        # Seen packages have unlike names, so that each of them may name the ones that it uses.
        self.text = "\n".join([*[package.own_text for package in others], self.own_text])

    def uses(self):
        """The list of the packages that this one uses."""
        return list(self.used)

    def seen(self):
        """The list of the packages that this one sees, in order, itself last."""
        return [*self.others, self]

    def sees(self, name):
        """Whether any value is the name of a seen package."""
        return isinstance(name, str) and name in [package.name for package in self.seen()]

    def constructors(self):
        """The dict from the owned constructors to their numbers of places."""
        return dict(self.owned_constructors)

    def tasks(self):
        """The dict from the owned tasks to their numbers of places."""
        return dict(self.owned_tasks)

    def instances(self):
        """The list of the instances that this package tells."""
        return list(self.told_here)

    def owner_of(self, name):
        """The name of the seen package that owns a constructor or a task."""
        return self._known_of(name)[0]

    def places_of(self, name):
        """The number of places of a constructor or a task that a seen package owns."""
        return self._known_of(name)[1]

    def all_told(self):
        """Tuples (package name, number, Instance) of all seen instances, in the order in which they are told."""
        for entry in seen_told(self):
            yield entry

    def check(self, head):
        """The Head, if all names that stand in it are seen and have their numbers of places."""
        kept = kept_of(head)
        if kept is None:
            raise InvalidHead(head)
        check_entries(self.known, entries_of(kept))
        return head if isinstance(head, Head) else head_with(kept)

    def with_instance(self, instance):
        """The package with one instance more at its end."""
        told = [*self.told_here, instance]
        return Package(
            self.name, *self.used, constructors=self.owned_constructors, tasks=self.owned_tasks, instances=told
        )

    def using(self, package):
        """The package with another one in the place of the used one, or of those that it sees, with its name."""
        if package.name == self.name or not self.sees(package.name):
            raise UnknownName(package.name)
        uses = [_exchanged(use, package) for use in self.used]
        return Package(
            self.name, *uses, constructors=self.owned_constructors, tasks=self.owned_tasks, instances=self.told_here
        )

    def _known_of(self, name):
        """The tuple of the owner and the number of places of a constructor or a task."""
        if not isinstance(name, str) or name not in self.known:
            raise NotSeen(name)
        return self.known[name]

    def __getitem__(self, number):
        if not is_index(number, len(self.told_here)):
            raise NoInstance(number)
        return self.told_here[number]

    def __iter__(self):
        raise TypeError("a package is not iterated over: take its instances()")

    def __contains__(self, value):
        instance = instance_of(value)
        if instance is None:
            return False
        return instance.text in [told.text for package in self.seen() for told in package.told_here]

    def __len__(self):
        return len(self.told_here)

    def __repr__(self):
        return f"Package {self.name}"

    def __eq__(self, other):
        return isinstance(other, Package) and self.text == other.text


def seen_told(package):
    """The list of the tuples of all_told, for what an operator or a property runs: these run no generator."""
    return [(seen.name, number, told) for seen in package.seen() for number, told in enumerate(seen.instances())]


def all_seen(packages):
    """The list of all that some packages see, each once, where it first comes."""
    found = {}
    for package in packages:
        for seen in package.seen():
            found.setdefault(seen.text, seen)
    return list(found.values())


def first_taken(packages):
    """The first name that one of some unlike packages has or owns something by, while an earlier one does; or None."""
    names = {}
    owned = {}
    for package in packages:
        if package.name in names:
            return package.name
        names[package.name] = True
        for name in [*package.owned_constructors, *package.owned_tasks]:
            if name in owned:
                return name
            owned[name] = True
    return None


def check_entries(known, entries):
    """Raises an error for the first name that is not seen or has another number of places."""
    for name, many in entries:
        if name not in known:
            raise NotSeen(name)
        if known[name][1] != many:
            raise WrongPlaces(name)


def _seen_by(name, uses):
    """The list of the packages that one with this name sees besides itself, if it uses these."""
    for number, use in enumerate(uses):
        if number >= MOST_USES or not isinstance(use, Package) or use.name == name:
            raise InvalidUse(number)
        if use.name in [earlier.name for earlier in uses[:number]]:
            raise InvalidUse(number)
    others = all_seen(uses)
    taken = first_taken(others)
    if taken is not None:
        raise NameTaken(taken)
    if name in [package.name for package in others]:
        raise NameTaken(name)
    if len(others) >= MOST_SEEN:
        raise InvalidUse(None)
    return others


def _are_constructors(value):
    """Whether any value is None or tells constructors that a package may own."""
    if value is None:
        return True
    if not isinstance(value, dict) or len(value) > MOST_CONSTRUCTORS:
        return False
    return all([is_constructor(name) and is_index(many, MOST_PARTS + 1) for name, many in value.items()])


def _are_tasks(value):
    """Whether any value is None or tells tasks that a package may own."""
    if value is None:
        return True
    if not isinstance(value, dict) or len(value) > MOST_TASKS:
        return False
    return all([is_name(name) and is_index(many, MOST_PLACES + 1) and many > 0 for name, many in value.items()])


def _known(name, others, constructors, tasks):
    """The dict from all seen constructors and tasks to tuples (name of the owner, number of places)."""
    known = {}
    for package in others:
        for owned in [package.owned_constructors, package.owned_tasks]:
            known.update({word: (package.name, many) for word, many in owned.items()})
    for owned in [constructors, tasks]:
        for word in owned:
            if word in known:
                raise NameTaken(word)
        known.update({word: (name, many) for word, many in owned.items()})
    return known


def _told(known, values):
    """The list of the instances that a package tells that sees these constructors and tasks."""
    told = []
    for number, value in enumerate(values):
        instance = instance_of(value)
        if instance is None:
            raise InvalidTold(number)
        check_entries(known, entries_in(instance))
        told.append(instance)
    return told


def _exchanged(use, package):
    """The used package with another one in its place, or in the place of those that it sees, if one has its name."""
    if use.name == package.name:
        return package
    return use.using(package) if use.sees(package.name) else use


def _own_text(package):
    """The text that tells a package, while it only names what it uses."""
    lines = [" ".join(["package", package.name, *[use.name for use in package.used]])]
    lines.extend([f"{name} {many}" for name, many in package.owned_constructors.items()])
    lines.extend([f"{name} {many}" for name, many in package.owned_tasks.items()])
    lines.extend([instance.text for instance in package.told_here])
    return "\n".join(lines)
