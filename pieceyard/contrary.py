"""Contrary trees: that a side doesn't win within so many moves."""

from pieceyard.ends import verdict_by
from pieceyard.moves import rows_by
from pieceyard.positions import check_asked
from pieceyard.steps import Steps
from pieceyard.trees import MOST_MOVES, NOT_WON, Search, branches_of, check_tree


def not_tree(yard, position, side, many):
    check_asked(yard, position, side, many, MOST_MOVES)
    search = Search(yard, side)
    if search.number(position, many) is not None:
        return None
    return kept_off_by(search, position, many)


def not_holds(yard, position, side, many, tree):
    check_asked(yard, position, side, many, MOST_MOVES)
    check_tree(tree, [NOT_WON])
    return keeps_off(Steps(yard), position, side, many, tree)


def kept_off_by(search, position, many):
    # The search has told that the side doesn't win within so many moves.
    rows = rows_by(search.steps, position)
    if many == 0 or not rows:
        return NOT_WON
    if position[0] != search.side:
        for move, behind in rows:
            if search.number(behind, many - 1) is None:
                return ("move", move, kept_off_by(search, behind, many - 1))
    return ("all", [(move, kept_off_by(search, behind, many - 1)) for move, behind in rows])


def keeps_off(steps, position, side, many, tree):
    if tree == NOT_WON:
        ended = verdict_by(steps, position)
        return ended != side and (many == 0 or ended is not None)
    # Here the other side chooses, and the side's moves are all to be answered.
    branches = branches_of(steps, position, 1 - side, tree)
    if many == 0 or not branches:
        return False
    return all([keeps_off(steps, behind, side, many - 1, rest) for behind, rest in branches])
