"""Texts of families."""

from shortbynarrow.checks import is_between
from shortbynarrow.errors import BadNumber, BadSet, BadText, NoLots
from shortbynarrow.families import MOST_THINGS, Family
from shortbynarrow.lots import fault_of_set

FIGURES = "0123456789"
MOST_FIGURES = 9


def family_text(family):
    """Return the text of a family."""
    lines = [f"things {family.things}"]
    for lot in family.lots:
        lines.append(" ".join([str(thing) for thing in lot]))
    return "".join([line + "\n" for line in lines])


def is_number_word(word):
    """Tell whether the word is the figure 0 or one to nine figures that do not begin with 0."""
    if not 1 <= len(word) <= MOST_FIGURES:
        return False
    if not all([figure in FIGURES for figure in word]):
        return False
    return word == "0" or word[0] != "0"


def _things_of(line):
    words = line.split(" ")
    if len(words) != 2 or words[0] != "things":
        raise BadText(1, "head")
    if not is_number_word(words[1]):
        raise BadText(1, "number")
    things = int(words[1])
    if not is_between(things, 1, MOST_THINGS):
        raise BadText(1, "number") from BadNumber("things")
    return things


def _lot_of(line, number, things):
    words = line.split(" ")
    if not all([is_number_word(word) for word in words]):
        raise BadText(number, "number")
    lot = [int(word) for word in words]
    place = fault_of_set(lot, things)
    if place is not None:
        raise BadText(number, "lot") from BadSet(place)
    return lot


def family_from(text):
    """Return the family that a text describes."""
    if not isinstance(text, str):
        raise BadText(1, "head")
    lines = text.split("\n")
    rest = lines.pop()
    # what is left behind the last line feed is a line only if it is not empty
    if rest != "" or not lines:
        lines.append(rest)
    things = _things_of(lines[0])
    lots = [_lot_of(line, place + 2, things) for place, line in enumerate(lines[1:])]
    if rest != "":
        raise BadText(len(lines), "lots")
    if not lots:
        raise BadText(len(lines), "lots") from NoLots()
    return Family(things, lots)
