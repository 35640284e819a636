"""Rules put shorter."""

from feastwheel.rounds import days_in, least
from feastwheel.rules import All, Each, No


def told_by_one(turn):
    """Tell a rule of one part with the days of a least round, or None where they are too many for it."""
    if turn == (1, 1):
        return All()
    if turn == (1, 0):
        return No()
    days = days_in(turn)
    if len(days) > 1:
        return None
    return Each(turn[0], days[0])


def parts_in(rule):
    """Tell how many parts a rule has."""
    return len(rule.parts())


def shorter(rule):
    """Tell a rule of the same days with no more parts than any part of the rule that has these days."""
    turn = least(rule.turn())
    told = told_by_one(turn)
    if told is not None:
        return told
    return min([part for part in rule.parts() if least(part.turn()) == turn], key=parts_in)
