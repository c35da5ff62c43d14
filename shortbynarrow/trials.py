"""Trials: deeds that are done at a desk, which then is as it was."""

from shortbynarrow.checks import is_list
from shortbynarrow.deeds import has_form
from shortbynarrow.errors import BadDeed, Trouble


class Trial:
    """A block in which a desk may be changed; behind it the desk is as it was."""

    def __init__(self, desk):
        self.desk = desk
        self.state = desk.now

    def __enter__(self):
        self.state = self.desk.now
        return self.desk

    def __exit__(self, kind, value, trace):
        desk = self.desk
        desk.now = self.state


def _done_at(desk, deed):
    """Do a deed and return the price."""
    word = deed[0]
    if word == "toll":
        return desk.set_toll(deed[1], deed[2])
    if word == "hold":
        return desk.hold(deed[1])
    if word == "leave":
        return desk.leave(deed[1])
    if word == "put lot":
        return desk.put_lot(deed[1])
    if word == "drop lot":
        return desk.drop_lot(deed[1])
    if word == "put":
        return desk.put(deed[1], deed[2])
    if word == "merge":
        return desk.merge(deed[1], deed[2])
    return desk.turn() if word == "turn" else desk.back()


def _told(desk, deed):
    """Do a deed and return the price, or the error that it raises."""
    try:
        return _done_at(desk, deed)
    except Trouble as fault:
        return fault


def tried(desk, deeds):
    """Return the list of what each of some deeds tells, and leave the desk as it was."""
    if not is_list(deeds):
        raise BadDeed("deeds")
    if not all([has_form(deed) for deed in deeds]):
        raise BadDeed("deed")
    found = []
    with Trial(desk) as held:
        for deed in deeds:
            found.append(_told(held, deed))
    return found
