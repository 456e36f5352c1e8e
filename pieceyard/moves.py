"""The moves of a position, what comes of them, and the ways in which they go."""

from pieceyard.ends import verdict_by
from pieceyard.errors import Ended, NoMove
from pieceyard.positions import check_position
from pieceyard.steps import Steps, moved, open_moves, ways_of


def moves(yard, position):
    check_position(yard, position)
    return moves_by(Steps(yard), position)


def after(yard, position, move):
    check_position(yard, position)
    return after_by(Steps(yard), position, move)


def shown_by(yard, position, move):
    check_position(yard, position)
    steps = Steps(yard)
    check_move(steps, position, move)
    return ways_of(steps, position, move)


def moves_by(steps, position):
    return open_moves(steps, position) if verdict_by(steps, position) is None else []


def rows_by(steps, position):
    return [(move, moved(position, move)) for move in moves_by(steps, position)]


def after_by(steps, position, move):
    check_move(steps, position, move)
    return moved(position, move)


def check_move(steps, position, move):
    check_goes_on(steps, position)
    if move not in open_moves(steps, position):
        raise NoMove("this is no move of the position")


def check_goes_on(steps, position):
    if verdict_by(steps, position) is not None:
        raise Ended("the position has ended")
