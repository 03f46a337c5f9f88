"""Texts read as edits and moments."""

from halfcuts.edits import Edit, identity
from halfcuts.errors import InvalidMoment, InvalidPairs, Unreadable
from halfcuts.moments import plain
from halfcuts.texts import show_edit, show_moment


def read_edit(text):
    """Return the edit with a text."""
    if text == show_edit(identity()):
        return identity()
    try:
        edit = Edit([told_pair(part) for part in text.split(" ")])
    except InvalidPairs:
        raise Unreadable(text) from None
    # Each edit has one text, so what was read too kindly shows here.
    if show_edit(edit) != text:
        raise Unreadable(text)
    return edit


def told_pair(part):
    """Return the source and the target that a part of a text tells, perhaps no words."""
    source, _, target = part.partition(">")
    return source, target


def read_moment(text):
    """Return the moment, in plain form, with a text."""
    head, _, rest = text.partition("(")
    try:
        moment = plain((head, rest[:-1]))
    except InvalidMoment:
        raise Unreadable(text) from None
    if show_moment(moment) != text:
        raise Unreadable(text)
    return moment
