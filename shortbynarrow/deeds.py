"""Deeds: what may be done at a desk, told as tuples and as texts."""

from shortbynarrow.checks import is_list, is_whole_number
from shortbynarrow.errors import BadDeed
from shortbynarrow.families import Family

FORMS = {
    "toll": ("number", "number"),
    "hold": ("number",),
    "leave": ("number",),
    "put lot": ("things",),
    "drop lot": ("things",),
    "put": ("number", "family"),
    "merge": ("names", "number"),
    "turn": (),
    "back": (),
}


def _is_part(value, kind):
    if kind == "number":
        return is_whole_number(value)
    if kind == "family":
        return isinstance(value, Family)
    return is_list(value) and all([is_whole_number(entry) for entry in value])


def has_form(deed):
    """Tell whether the value has the form of a deed."""
    if not is_list(deed) or len(deed) == 0 or not isinstance(deed[0], str) or deed[0] not in FORMS:
        return False
    kinds = FORMS[deed[0]]
    if len(deed) != len(kinds) + 1:
        return False
    return all([_is_part(value, kind) for value, kind in zip(deed[1:], kinds)])


def _words_of(value, kind):
    """Return the words for a part of a deed."""
    if kind == "number":
        return [str(value)]
    if kind == "family":
        return [str(value.things)]
    if kind == "things":
        return [str(thing) for thing in sorted(value)]
    return [str(name) for name in value] + ["of"]


def deed_text(deed):
    """Return the text of a deed."""
    if not has_form(deed):
        raise BadDeed("deed")
    words = [deed[0]]
    for value, kind in zip(deed[1:], FORMS[deed[0]]):
        words.extend(_words_of(value, kind))
    return " ".join(words)
