"""Lines: walked, told all of a length, and counted."""

from pieceyard.forms import check_many
from pieceyard.moves import after_by, moves_by, rows_by
from pieceyard.positions import check_position
from pieceyard.steps import Steps

MOST_TOLD = 4
MOST_COUNTED = 6


def walked(yard, position, line):
    check_position(yard, position)
    return walked_by(Steps(yard), position, line)


def lines(yard, position, many):
    check_position(yard, position)
    check_many(many, 0, MOST_TOLD)
    return lines_by(Steps(yard), position, many)


def count(yard, position, many):
    check_position(yard, position)
    check_many(many, 0, MOST_COUNTED)
    steps = Steps(yard)
    if many == 0:
        return 1
    layer = {position: 1}
    # The last moves need not be made to be counted.
    for made in range(many - 1):
        layer = next_layer(steps, layer)
    return sum([ways * len(moves_by(steps, place)) for place, ways in layer.items()])


def walked_by(steps, position, line):
    passed = [position]
    for move in line:
        passed.append(after_by(steps, passed[-1], move))
    return passed


def lines_by(steps, position, many):
    if many == 0:
        return [[]]
    found = []
    for move, behind in rows_by(steps, position):
        found.extend([[move] + rest for rest in lines_by(steps, behind, many - 1)])
    return found


def next_layer(steps, layer):
    # Lines that come to one position go on alike: they are counted together.
    following = {}
    for place, ways in layer.items():
        for row in rows_by(steps, place):
            following[row[1]] = following.get(row[1], 0) + ways
    return following
