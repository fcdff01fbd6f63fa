"""Books: a word for each of five switches."""

from soleinstances.errors import InvalidBook

SWITCHES = {
    "owner": ("early", "first", "any", "anybody"),
    "look": ("apart", "ladder", "same", "nothing"),
    "choose": ("sole", "special", "first"),
    "wants": ("behind", "ahead"),
    "early": ("refused", "wait", "once"),
}


class Book:
    """A book, of which the words can be set."""

    def __init__(self, *, owner="early", look="apart", choose="sole", wants="behind", early="refused"):
        chosen = {"owner": owner, "look": look, "choose": choose, "wants": wants, "early": early}
        for part in SWITCHES:
            if not _is_word(part, chosen[part]):
                raise InvalidBook(part)
        self.chosen = chosen

    @staticmethod
    def plain():
        """The plain book."""
        return Book()

    @staticmethod
    def ladder():
        """The book under which instances may meet where one is more special, and the most special one is chosen."""
        return Book(look="ladder", choose="special")

    @staticmethod
    def orphans():
        """The book under which anybody may tell an instance."""
        return Book(owner="anybody")

    @staticmethod
    def firsts():
        """The book under which the first instance of a package is chosen."""
        return Book(choose="first", early="wait")

    @property
    def owner(self):
        """Who may tell an instance."""
        return self.chosen["owner"]

    @owner.setter
    def owner(self, word):
        self.set_part("owner", word)

    @property
    def look(self):
        """Which instances meet."""
        return self.chosen["look"]

    @look.setter
    def look(self, word):
        self.set_part("look", word)

    @property
    def choose(self):
        """Which one of several instances is chosen."""
        return self.chosen["choose"]

    @choose.setter
    def choose(self, word):
        self.set_part("choose", word)

    @property
    def wants(self):
        """Whether the wants are asked ahead of the choice or behind it."""
        return self.chosen["wants"]

    @wants.setter
    def wants(self, word):
        self.set_part("wants", word)

    @property
    def early(self):
        """What becomes of open questions."""
        return self.chosen["early"]

    @early.setter
    def early(self, word):
        self.set_part("early", word)

    def set_part(self, part, word):
        """Sets the word of a switch."""
        if not _is_switch(part) or not _is_word(part, word):
            raise InvalidBook(part)
        self.chosen[part] = word

    def words(self):
        """The tuple of the words, in the order of the switches."""
        return tuple([self.chosen[part] for part in SWITCHES])

    def twin(self):
        """An equal book."""
        return Book(**self.chosen)

    def changed(self, changes):
        """The book with other words, by a list of tuples (switch, word)."""
        if not isinstance(changes, list):
            raise InvalidBook(None)
        words = {}
        for entry in changes:
            if not is_change(entry) or entry[0] in words:
                raise InvalidBook(entry)
            words[entry[0]] = entry[1]
        chosen = {part: words.get(part, self.chosen[part]) for part in SWITCHES}
        return Book(**chosen)

    def difference(self, other):
        """The list of tuples (switch, word of the other book) for the switches whose words differ."""
        return [(part, other[part]) for part in SWITCHES if self.chosen[part] != other[part]]

    def __getitem__(self, part):
        if not _is_switch(part):
            raise InvalidBook(part)
        return self.chosen[part]

    def __setitem__(self, part, word):
        self.set_part(part, word)

    def __iter__(self):
        raise TypeError("a book is not iterated over: take its words()")

    def __repr__(self):
        return f"Book of {self.words()!r}"

    def __eq__(self, other):
        return isinstance(other, Book) and self.chosen == other.chosen


def all_books():
    """All books; the words of the last switch change first."""
    rows = [()]
    for part, words in SWITCHES.items():
        rows = [(*row, (part, word)) for row in rows for word in words]
    for row in rows:
        yield Book.plain().changed(list(row))


def _is_switch(value):
    """Whether any value is the name of a switch."""
    return isinstance(value, str) and value in SWITCHES


def _is_word(part, value):
    """Whether any value is a word of a switch."""
    return isinstance(value, str) and value in SWITCHES[part]


def is_change(value):
    """Whether any value is a tuple of a switch and a word of it."""
    if not isinstance(value, tuple) or len(value) != 2:
        return False
    return _is_switch(value[0]) and _is_word(value[0], value[1])
