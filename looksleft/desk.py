"""A desk: looks of a store that fit together, put there and taken away one by one."""

from looksleft.ahead import ahead
from looksleft.checks import is_between
from looksleft.come import greatest, least
from looksleft.errors import DoNotFit, Full, InvalidIndex, InvalidLook, NothingToRedo, NothingToUndo
from looksleft.lines import look_line
from looksleft.looks import MOST_LOOKS, is_look_of
from looksleft.pasts import least_past
from looksleft.pictures import find_picture
from looksleft.shown import shown


class Desk:
    """The present looks, and those that were there ahead of each deed that can be taken back or done again."""

    def __init__(self, store):
        self.store = store
        self._looks = ()
        self._done = []
        self._undone = []

    @property
    def looks(self):
        """The present looks, in the order of their indices."""
        return self._looks

    def tried(self, look):
        """The picture with which add would refuse the look, or None."""
        if not is_look_of(self.store, look):
            raise InvalidLook(look)
        many = len(self._looks) + 1
        if many > MOST_LOOKS:
            raise Full(many)
        return find_picture(self.store, self._looks + (look,))

    def add(self, look):
        """Put a look behind the others, and return its index."""
        found = self.tried(look)
        if found is not None:
            raise DoNotFit(found)
        self._change(self._looks + (look,))
        return len(self._looks) - 1

    def drop(self, index):
        """Take out the look with this index, and return it."""
        if not is_between(index, 0, len(self._looks) - 1):
            raise InvalidIndex(index)
        dropped = self._looks[index]
        self._change(self._looks[:index] + self._looks[index + 1:])
        return dropped

    def _change(self, looks):
        self._done.append(self._looks)
        self._undone = []
        self._looks = looks

    def undo(self):
        """Take back the last deed that is not taken back."""
        if not self._done:
            raise NothingToUndo()
        self._undone.append(self._looks)
        self._looks = self._done.pop()

    def redo(self):
        """Do again the deed that was taken back last."""
        if not self._undone:
            raise NothingToRedo()
        self._done.append(self._looks)
        self._looks = self._undone.pop()

    def forget(self):
        """Let nothing be taken back or done again."""
        self._done = []
        self._undone = []

    def ahead(self, house):
        """All tuples (x, z) of writes of which x is surely ahead of z at the house."""
        return ahead(self.store, self._looks, house)

    def least(self, house, moment):
        """The least lot that can have come to the house by the moment."""
        return least(self.store, self._looks, house, moment)

    def greatest(self, house, moment):
        """The greatest lot that can have come to the house by the moment."""
        return greatest(self.store, self._looks, house, moment)

    def shown(self, house, moment, cell):
        """What the copy of the house can have shown of the cell by the moment."""
        return shown(self.store, self._looks, house, moment, cell)

    def past(self, moment):
        """For each house the least lot that can have come to it by the moment."""
        return least_past(self.store, self._looks, moment)

    def lines(self):
        """The line of the store and the lines of the looks, which read_desk reads."""
        return [self.store.line()] + [look_line(look) for look in self._looks]
