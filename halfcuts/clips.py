"""Clips: edits that were done one after the other, and marks that go where the edits take them."""

from halfcuts.edits import identity
from halfcuts.errors import NoMark, NothingToUndo
from halfcuts.moments import plain
from halfcuts.readings import read_edit


class Clip:
    """A clip that is edited, with marks at moments."""

    def __init__(self):
        self._edit = identity()
        self._marks = {}
        self._past = []

    def __eq__(self, other):
        return isinstance(other, Clip) and self._edit == other._edit and self._marks == other._marks

    @property
    def edit(self):
        """All edits so far, one after the other."""
        return self._edit

    @classmethod
    def of_texts(cls, texts):
        """Return a clip to which the edits with these texts have been applied, with no call to take back."""
        clip = cls()
        for text in texts:
            clip.apply(read_edit(text))
        clip._past = []
        return clip

    def names(self):
        """Yield the names of the marks, ascending."""
        for name in sorted(self._marks):
            yield name

    def apply(self, edit):
        """Do an edit, which takes the marks along."""
        self._change(self._edit + edit, {name: edit(moment) for name, moment in self._marks.items()})

    def mark(self, name, moment):
        """Put a mark where a moment is now, in place of one with this name."""
        self._change(self._edit, {**self._marks, name: plain(moment)})

    def where(self, name):
        """Return the moment of a mark."""
        if name not in self._marks:
            raise NoMark(name)
        return self._marks[name]

    def undo(self):
        """Take back the last call of `apply` or `mark` that has not been taken back yet."""
        if not self._past:
            raise NothingToUndo(0)
        self._edit, self._marks = self._past.pop()

    def _change(self, edit, marks):
        """Go on with another edit and other marks; the present ones can be had back."""
        self._past.append((self._edit, self._marks))
        self._edit = edit
        self._marks = marks
