"""A yard: a board with its holes, the kinds of pieces, the goals, and the word for a side that can't move."""

from pieceyard.errors import BadYard
from pieceyard.forms import is_rising, is_tuple, is_within

GREATEST_SIZE = 5
GREATEST_STEP = 4
MOST_KINDS = 6
STUCK_WORDS = ("lost", "drawn")


class Yard:
    def __init__(self, height, width, holes, kinds, goals, stuck):
        check_size(height, width)
        check_cells("holes", height, width, holes)
        check_kinds(kinds)
        check_goals(height, width, holes, goals)
        check_stuck(stuck)
        self.height = height
        self.width = width
        # Every list within is copied by itself: what was handed in may be changed later,
        # and one list may have been handed in for two places.
        self.holes = list(holes)
        self.kinds = copy_of_kinds(kinds)
        self.goals = (list(goals[0]), list(goals[1]))
        self.stuck = stuck

    def cells(self):
        rising = []
        for r in range(self.height):
            rising.extend([(r, c) for c in range(self.width) if (r, c) not in self.holes])
        return rising


def is_ground(yard, cell):
    return is_on_board(yard.height, yard.width, cell) and cell not in yard.holes


def is_on_board(height, width, cell):
    return is_tuple(cell, 2) and is_within(cell[0], 0, height - 1) and is_within(cell[1], 0, width - 1)


def is_step(step):
    if not is_tuple(step, 2) or step == (0, 0):
        return False
    return all([is_within(number, -GREATEST_STEP, GREATEST_STEP) for number in step])


def is_letter(name):
    return isinstance(name, str) and len(name) == 1 and "a" <= name <= "z"


def check_size(height, width):
    if not is_within(height, 1, GREATEST_SIZE):
        raise BadYard(f"the height is no number from 1 to {GREATEST_SIZE}")
    if not is_within(width, 1, GREATEST_SIZE):
        raise BadYard(f"the width is no number from 1 to {GREATEST_SIZE}")


def check_cells(name, height, width, listed):
    if not isinstance(listed, list):
        raise BadYard(f"the {name} are no list")
    for cell in listed:
        if not is_on_board(height, width, cell):
            raise BadYard(f"one of the {name} is no cell of the board")
    if not is_rising(listed):
        raise BadYard(f"the {name} don't rise")


def check_kinds(kinds):
    if not isinstance(kinds, dict) or not 1 <= len(kinds) <= MOST_KINDS:
        raise BadYard(f"the kinds are no dict of 1 to {MOST_KINDS}")
    for name, kind in kinds.items():
        if not is_letter(name):
            raise BadYard("a kind is no letter from a to z")
        if not is_tuple(kind, 3) or not is_within(kind[2], 0, 1):
            raise BadYard(f"the kind {name!r} is no tuple of leaps, rides, and 0 or 1")
        check_steps(name, kind[0])
        check_steps(name, kind[1])


def check_steps(name, steps):
    if not isinstance(steps, list):
        raise BadYard(f"steps of the kind {name!r} are no list")
    for step in steps:
        if not is_step(step):
            raise BadYard(f"a step of the kind {name!r} is none")
    if not is_rising(steps):
        raise BadYard(f"steps of the kind {name!r} don't rise")


def check_goals(height, width, holes, goals):
    if not is_tuple(goals, 2):
        raise BadYard("the goals are no tuple of two lists")
    for own_goals in goals:
        check_cells("goals", height, width, own_goals)
        if any([cell in holes for cell in own_goals]):
            raise BadYard("one of the goals is a hole")


def check_stuck(stuck):
    if stuck not in STUCK_WORDS:
        raise BadYard("the word for a side that can't move is neither lost nor drawn")


def copy_of_kinds(kinds):
    copied = {}
    for name, kind in kinds.items():
        copied[name] = (list(kind[0]), list(kind[1]), kind[2])
    return copied
