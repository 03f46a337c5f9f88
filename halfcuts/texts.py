"""Edits and moments as texts."""

from halfcuts.moments import plain


def show_edit(edit):
    """Return the reduced pairs of an edit, each as its source, `>` and its target; `->-` for the identity."""
    return " ".join([f"{shown(source)}>{shown(target)}" for source, target in edit.pairs])


def shown(word):
    """Return a word, `-` for the empty one."""
    return word or "-"


def show_moment(moment):
    """Return the head of the plain form of a moment and its ring in brackets."""
    head, ring = plain(moment)
    return f"{head}({ring})"
