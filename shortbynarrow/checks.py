"""Questions about handed-in values that every other file asks."""

from shortbynarrow.errors import BadNumber, BadThing


def is_whole_number(value):
    """Tell whether the value is an integer, which True and False are not."""
    return isinstance(value, int) and not isinstance(value, bool)


def is_between(value, low, high):
    """Tell whether the value is an integer from low to high."""
    return is_whole_number(value) and low <= value <= high


def is_list(value):
    """Tell whether the value may stand where a list is asked for."""
    return isinstance(value, (list, tuple))


def check_size(size):
    """Raise BadNumber("size") unless the value is an integer >= 1."""
    if not is_whole_number(size) or size < 1:
        raise BadNumber("size")


def check_thing(thing, size):
    """Raise BadThing unless the value is an integer from 0 to size - 1."""
    if not is_between(thing, 0, size - 1):
        raise BadThing(thing)
