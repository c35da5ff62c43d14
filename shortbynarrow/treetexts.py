"""Texts of trees."""

from shortbynarrow.errors import BadText, BadTree
from shortbynarrow.texts import FIGURES, is_number_word
from shortbynarrow.trees import Leaf, Vote


def tree_text(tree):
    """Return the text of a tree."""
    if isinstance(tree, Leaf):
        return str(tree.name)
    inner = " ".join([tree_text(branch) for branch in tree.branches])
    return f"{tree.need}({inner})"


def _figures_at(text, at):
    """Return the figures that stand at a place, which must be a number."""
    end = at
    while end < len(text) and text[end] in FIGURES:
        end = end + 1
    if not is_number_word(text[at:end]):
        raise BadText(1, "number")
    return text[at:end]


def _leaf_of(name):
    try:
        return Leaf(name)
    except BadTree as fault:
        raise BadText(1, "tree") from fault


def _vote_of(need, branches):
    try:
        return Vote(need, branches)
    except BadTree as fault:
        raise BadText(1, "tree") from fault


def tree_from(text):
    """Return the tree that a text describes."""
    if not isinstance(text, str):
        raise BadText(1, "number")
    # the votes whose bracket is open, each with its need and its branches so far: a text may open
    # far more brackets than calls may be nested
    waiting = []
    at = 0
    tree = None
    while tree is None:
        figures = _figures_at(text, at)
        at = at + len(figures)
        if text[at:at + 1] == "(":
            waiting.append((int(figures), []))
            at = at + 1
        else:
            tree, at = _closed(_leaf_of(int(figures)), text, at, waiting)
    if at < len(text):
        raise BadText(1, "end")
    return tree


def _closed(branch, text, at, waiting):
    """Return the whole tree, or None if another branch follows, and the place behind what was read."""
    while waiting:
        need, branches = waiting[-1]
        branches.append(branch)
        sign = text[at:at + 1]
        if sign not in (" ", ")"):
            raise BadText(1, "bracket")
        at = at + 1
        if sign == " ":
            return None, at
        waiting.pop()
        branch = _vote_of(need, branches)
    return branch, at
