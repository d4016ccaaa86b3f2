"""A desk with a store, a sheet, and deeds that can be taken back."""

from numberpapers.answers import answer_by
from numberpapers.errors import NotDeed, NotDone, NotPaper, NotUndone, TooMany
from numberpapers.judging import judge
from numberpapers.kinds import is_between, is_number, is_told
from numberpapers.stores import MOST_PRIME, check_store, opened_pairs, store_of, surely_joined, surely_pruned


class Desk:
    """A desk."""

    def __init__(self, store=(), *, most=50):
        check_store(store)
        self._store = store
        self._sheet = ()
        self._most = most
        # Each deed with the store and the sheet on the other side of it: ahead of it, or behind one taken back.
        self._standing = ()
        self._taken_back = ()

    @property
    def store(self):
        """The store."""
        return self._store

    @property
    def sheet(self):
        """The sheet."""
        return self._sheet

    @property
    def deeds(self):
        """The deeds that stand, the first one first."""
        return tuple([deed for deed, _, _ in self._standing])

    def do(self, deed):
        """Do a deed."""
        if not is_deed(deed, len(self._sheet)):
            raise NotDeed()
        if len(self._standing) >= self._most:
            raise TooMany(self._most)
        store, sheet = behind(deed, self._store, self._sheet)
        self._standing = self._standing + ((deed, self._store, self._sheet),)
        self._taken_back = ()
        self._store = store
        self._sheet = sheet

    def undo(self):
        """Take the last deed that stands back, and return it."""
        if len(self._standing) == 0:
            raise NotDone()
        deed, store, sheet = self._standing[-1]
        self._standing = self._standing[:-1]
        self._taken_back = self._taken_back + ((deed, self._store, self._sheet),)
        self._store = store
        self._sheet = sheet
        return deed

    def again(self):
        """Do the deed that was taken back last once more, and return it."""
        if len(self._taken_back) == 0:
            raise NotUndone()
        deed, store, sheet = self._taken_back[-1]
        self._taken_back = self._taken_back[:-1]
        self._standing = self._standing + ((deed, self._store, self._sheet),)
        self._store = store
        self._sheet = sheet
        return deed

    def twin(self):
        """A desk of its own that stands alike."""
        other = Desk(most=self._most)
        other._store = self._store
        other._sheet = self._sheet
        other._standing = self._standing
        other._taken_back = self._taken_back
        return other


def is_deed(value, size):
    """Whether a value is a deed, for a sheet of so many pairs."""
    if is_told(value, "forget", 2):
        return is_between(value[1], 0, size - 1)
    if is_told(value, "prune", 2):
        return is_ascending_row(value[1])
    return is_told(value, "ask", 2) or is_told(value, "lay", 3) or is_told(value, "add", 3)


def is_ascending_row(value):
    """Whether a value is an ascending tuple of unlike integers."""
    if not isinstance(value, tuple):
        return False
    for place, entry in enumerate(value):
        if not is_number(entry) or place > 0 and entry <= value[place - 1]:
            return False
    return True


def behind(deed, store, sheet):
    """The store and the sheet behind a deed."""
    word = deed[0]
    if word == "ask":
        return (store, sheet + (answer_by(deed[1], opened_pairs(store)),))
    if word == "lay":
        _, saying, paper = deed
        if not judge(saying, paper):
            raise NotPaper(0)
        return (store, sheet + ((saying, paper),))
    if word == "forget":
        return (store, sheet[:deed[1]] + sheet[deed[1] + 1:])
    if word == "add":
        _, p, paper = deed
        if not is_between(p, 2, MOST_PRIME):
            raise NotPaper(0)
        return (surely_joined(store, store_of(((p, paper),))), sheet)
    return (surely_pruned(store, deed[1]), sheet)
