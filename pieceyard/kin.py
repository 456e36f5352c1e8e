"""Kin: positions and moves turned, mirrored, and with the sides exchanged."""

from pieceyard.errors import NoKin, NoMove
from pieceyard.positions import check_position
from pieceyard.yards import is_on_board

NAMES = (
    "turn0", "turn1", "turn2", "turn3", "flip0", "flip1", "flip2", "flip3",
    "xturn0", "xturn1", "xturn2", "xturn3", "xflip0", "xflip1", "xflip2", "xflip3",
)


def bears(yard):
    return [name for name in NAMES if is_borne(yard, name)]


def taken_over(yard, name, position):
    check_position(yard, position)
    check_borne(yard, name)
    return position_by(yard, name, position)


def move_over(yard, name, move):
    check_borne(yard, name)
    if not all([is_on_board(yard.height, yard.width, cell) for cell in move]):
        raise NoMove("the move leaves the board")
    return move_by(yard, name, move)


def kin(yard, position):
    check_position(yard, position)
    return sorted(set([position_by(yard, name, position) for name in bears(yard)]))


def first_kin(yard, position):
    return kin(yard, position)[0]


def check_borne(yard, name):
    if name not in bears(yard):
        raise NoKin("this is no name that the yard bears")


def is_borne(yard, name):
    if turns_of(name) in (1, 3) and yard.height != yard.width:
        return False
    return cells_by(yard, name, yard.holes) == yard.holes and goals_fit(yard, name) and steps_fit(yard, name)


def goals_fit(yard, name):
    return all([cells_by(yard, name, yard.goals[side]) == yard.goals[side_by(name, side)] for side in (0, 1)])


def steps_fit(yard, name):
    for kind in yard.kinds.values():
        for steps in kind[:2]:
            if sorted([step_by(name, step) for step in steps]) != steps:
                return False
    return True


def is_flip(name):
    return "flip" in name


def is_exchange(name):
    return name.startswith("x")


def turns_of(name):
    return int(name[-1])


def cell_by(yard, name, cell):
    place = (cell[0], yard.width - 1 - cell[1]) if is_flip(name) else cell
    # With each quarter turn the board's height and width change places.
    heights = (yard.height, yard.width)
    for turn in range(turns_of(name)):
        place = (place[1], heights[turn % 2] - 1 - place[0])
    return place


def step_by(name, step):
    way = (step[0], -step[1]) if is_flip(name) else step
    for turn in range(turns_of(name)):
        way = (way[1], -way[0])
    return (-way[0], -way[1]) if is_exchange(name) else way


def side_by(name, side):
    return 1 - side if is_exchange(name) else side


def cells_by(yard, name, cells):
    return sorted([cell_by(yard, name, cell) for cell in cells])


def move_by(yard, name, move):
    return (cell_by(yard, name, move[0]), cell_by(yard, name, move[1]))


def position_by(yard, name, position):
    pieces = [(cell_by(yard, name, piece[0]), side_by(name, piece[1]), piece[2]) for piece in position[1]]
    return (side_by(name, position[0]), tuple(sorted(pieces)))
