"""Wins with both sides helping, and problems with as few pieces as can be."""

from pieceyard.ends import verdict_by
from pieceyard.moves import rows_by
from pieceyard.positions import check_asked, is_crown
from pieceyard.problems import check_problem, check_sound, is_sound
from pieceyard.steps import Steps
from pieceyard.trees import Search

MOST_HELPED = 4


def together(yard, position, side, many):
    check_asked(yard, position, side, many, MOST_HELPED)
    helping = Helping(yard, side)
    for number in range(many + 1):
        found = helping.lines_to(position, number)
        if found:
            return (number, found)
    return None


def least_positions(yard, position, many):
    check_problem(yard, position, many)
    search = Search(yard, position[0])
    check_sound(search, position, many)
    crowns = [piece for piece in position[1] if is_crown(yard, piece)]
    others = [piece for piece in position[1] if not is_crown(yard, piece)]
    for kept in range(len(others)):
        left = [(position[0], tuple(sorted(crowns + chosen))) for chosen in choices(others, kept)]
        found = [place for place in left if is_sound(search, place, many)]
        if found:
            return sorted(found)
    return [position]


class Helping:
    # Looks for the lines by which one side wins. Positions from which no such line goes are kept.
    def __init__(self, yard, side):
        self.steps = Steps(yard)
        self.side = side
        self.barren = {}

    def lines_to(self, position, many):
        if many == 0:
            return [[]] if verdict_by(self.steps, position) == self.side else []
        # The last move of a win is always the side's own.
        if (many % 2 == 1) != (position[0] == self.side) or (position, many) in self.barren:
            return []
        found = []
        for move, behind in rows_by(self.steps, position):
            found.extend([[move] + rest for rest in self.lines_to(behind, many - 1)])
        if not found:
            self.barren[(position, many)] = True
        return found


def choices(pieces, many):
    # All ways to choose so many of the pieces.
    if many == 0:
        return [[]]
    if len(pieces) < many:
        return []
    rest = pieces[1:]
    return [pieces[:1] + chosen for chosen in choices(rest, many - 1)] + choices(rest, many)
