"""Instances: a head, and the wants that an instance of it has."""

from soleinstances.errors import InvalidHead, InvalidInstance
from soleinstances.headrows import entries_of, fitting_heads, is_larger, put_in_head, write_head
from soleinstances.heads import head_with, kept_of
from soleinstances.names import is_name
from soleinstances.rows import join_rows, renamed

MOST_NAMES = 8
MOST_DEPTH = 3
MOST_WANTS = 2


class Instance:
    """An instance, which never changes."""

    def __init__(self, head, *wants):
        pattern = kept_of(head)
        if pattern is None or is_larger(pattern, MOST_NAMES, MOST_DEPTH):
            raise InvalidInstance(None)
        asked = []
        for number, value in enumerate(wants):
            want = kept_of(value)
            if number >= MOST_WANTS or want is None or want in asked or not _may_want(pattern, want):
                raise InvalidInstance(number)
            asked.append(want)
        self.pattern = pattern
        self.asked = tuple(asked)
        self.text = _text(pattern, asked)

    @staticmethod
    def read(text):
        """The instance with this text."""
        instance = _read(text)
        if instance is None:
            raise InvalidInstance(None)
        return instance

    @property
    def head(self):
        """The head."""
        return head_with(self.pattern)

    def needs(self):
        """The list of the wants."""
        return [head_with(want) for want in self.asked]

    def wanted(self, question):
        """The list of the wants of this instance for a question, or None if the question is not at most its head."""
        kept = kept_of(question)
        if kept is None:
            raise InvalidHead(question)
        wants = wants_for(self, kept)
        return None if wants is None else [head_with(want) for want in wants]

    def is_alike(self, other):
        """Whether this instance and the other one are the same up to the names of variables."""
        instance = instance_of(other)
        if instance is None:
            raise InvalidInstance(None)
        return _renamed(self) == _renamed(instance)

    def __str__(self):
        return str(self.text)

    def __repr__(self):
        return f"Instance.read({self.text!r})"

    def __eq__(self, other):
        return isinstance(other, Instance) and self.text == other.text


def instance_of(value):
    """The Instance that any value is or is the text of, None for any other value."""
    return value if isinstance(value, Instance) else _read(value)


def wants_for(instance, question):
    """The list of the kept wants of an instance for a kept question, or None if this is not at most the head."""
    rows = fitting_heads(question, instance.pattern)
    if rows is None:
        return None
    return [put_in_head(want, rows) for want in instance.asked]


def entries_in(instance):
    """The list of tuples (name, number of places) of all tasks and constructors of an instance, head first."""
    return [*entries_of(instance.pattern), *[want[0] for want in instance.asked]]


def _may_want(pattern, want):
    """Whether an instance with this kept head may have this kept want."""
    names = [name for name, _ in pattern[1]]
    wanted = [name for name, _ in want[1]]
    if len(wanted) >= len(names):
        return False
    return all([is_name(name) and wanted.count(name) <= names.count(name) for name in wanted])


def _text(pattern, asked):
    """The text of the instance with this kept head and these kept wants."""
    wants = " ".join([write_head(want) for want in asked])
    return f"{write_head(pattern)} if {wants}" if wants != "" else write_head(pattern)


def _read(text):
    """The instance with this text, None for any value that is no text of one."""
    if not isinstance(text, str):
        return None
    head, sign, rest = text.partition(" if ")
    wants = rest.split(" ") if sign != "" else []
    try:
        return Instance(head, *wants)
    except InvalidInstance:
        return None


def _renamed(instance):
    """What two instances share just if they are the same up to the names of variables."""
    heads = [instance.pattern, *instance.asked]
    return ([form for form, _ in heads], renamed(join_rows([row for _, row in heads]), 0))
