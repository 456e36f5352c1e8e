"""Stays: lists of positions among which a side can keep, so that it never loses."""

from pieceyard.ends import verdict_by
from pieceyard.errors import BadPaper, NoMove
from pieceyard.forms import is_rising
from pieceyard.moves import rows_by
from pieceyard.positions import check_position, check_side, is_position
from pieceyard.ranks import ranks_by
from pieceyard.steps import Steps


def stay(yard, position, side):
    check_position(yard, position)
    check_side(side)
    ranked = ranks_by(Steps(yard), position)
    if is_lost(ranked[position], side):
        return None
    return [place for place in sorted(ranked) if not is_lost(ranked[place], side)]


def stay_holds(yard, position, side, told):
    check_position(yard, position)
    check_side(side)
    if not all([is_position(yard, place) for place in told]):
        raise BadPaper("the list has what is no position of the yard")
    if position not in told or not is_rising(told):
        return False
    steps = Steps(yard)
    listed = listed_by(told)
    return all([is_kept(steps, listed, side, place) for place in told])


def stay_move(yard, told, position):
    check_position(yard, position)
    listed = listed_by(told)
    if position in listed:
        for move, behind in rows_by(Steps(yard), position):
            if behind in listed:
                return move
    raise NoMove("no move leads from the stay into it")


def is_lost(rank, side):
    return rank is not None and rank[0] != side


def listed_by(told):
    # A dict, since a list is slow to be asked again and again.
    listed = {}
    for place in told:
        listed[place] = True
    return listed


def is_kept(steps, listed, side, place):
    ended = verdict_by(steps, place)
    if ended is not None:
        return ended != 1 - side
    inside = [row[1] in listed for row in rows_by(steps, place)]
    return any(inside) if place[0] == side else all(inside)
