"""Who has won a position, or that it is drawn, or that it goes on."""

from pieceyard.positions import check_position, is_crown
from pieceyard.steps import Steps, can_move


def verdict(yard, position):
    check_position(yard, position)
    return verdict_by(Steps(yard), position)


def verdict_by(steps, position):
    turn = position[0]
    crowns = [piece for piece in position[1] if is_crown(steps.yard, piece)]
    for side in (0, 1):
        if side not in [piece[1] for piece in crowns]:
            return 1 - side
    for side in (1 - turn, turn):
        if stands_on_goal(steps.yard, crowns, side):
            return side
    if can_move(steps, position):
        return None
    return 1 - turn if steps.yard.stuck == "lost" else "drawn"


def stands_on_goal(yard, crowns, side):
    goals = yard.goals[side]
    return any([piece[1] == side and piece[0] in goals for piece in crowns])
