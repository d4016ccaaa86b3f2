"""Sheets of answers."""

from numberpapers.answers import answer_by
from numberpapers.errors import NotSheet
from numberpapers.judging import judge
from numberpapers.kinds import is_tuple
from numberpapers.knownparts import check_known


def answered(claims, known=()):
    """The sheet of the answers to claims."""
    check_known(known)
    return tuple([answer_by(claim, known) for claim in claims])


def sheet_breach(value):
    """None for a sheet, -1 for no tuple, otherwise the least index of an entry that is no saying with a paper of it."""
    if not isinstance(value, tuple):
        return -1
    for place, pair in enumerate(value):
        if not is_tuple(pair, 2) or not judge(pair[0], pair[1]):
            return place
    return None


def check_sheet(value):
    """The value itself, if it is a sheet."""
    place = sheet_breach(value)
    if place is not None:
        raise NotSheet(place)
    return value
