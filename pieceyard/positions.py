"""A position: the side to move, and the pieces on the board."""

from pieceyard.errors import BadPosition, BadSide
from pieceyard.forms import check_many, is_rising, is_tuple, is_within
from pieceyard.yards import is_ground

MOST_PIECES = 10


def is_position(yard, position):
    return is_tuple(position, 2) and is_side(position[0]) and are_pieces(yard, position[1])


def placed(yard, turn, pieces):
    # Looked at ahead of the sorting: what is no piece may not be sortable among pieces.
    if not all([is_piece(yard, piece) for piece in pieces]):
        raise BadPosition("one of the pieces is no piece of the yard")
    position = (turn, tuple(sorted(pieces)))
    check_position(yard, position)
    return position


def check_position(yard, position):
    if not is_position(yard, position):
        raise BadPosition("this is no position of the yard")


def check_side(side):
    if not is_side(side):
        raise BadSide("a side is 0 or 1")


def check_asked(yard, position, side, many, most):
    check_position(yard, position)
    check_side(side)
    check_many(many, 0, most)


def are_pieces(yard, pieces):
    if not isinstance(pieces, tuple) or not 1 <= len(pieces) <= MOST_PIECES:
        return False
    if not all([is_piece(yard, piece) for piece in pieces]):
        return False
    # Rising by the cells alone: so the pieces rise, and no two stand on one cell.
    if not is_rising([piece[0] for piece in pieces]):
        return False
    return any([is_crown(yard, piece) for piece in pieces])


def is_piece(yard, piece):
    return is_tuple(piece, 3) and is_ground(yard, piece[0]) and is_side(piece[1]) and is_kind(yard, piece[2])


def is_side(side):
    return is_within(side, 0, 1)


def is_kind(yard, name):
    return isinstance(name, str) and name in yard.kinds


def is_crown(yard, piece):
    return yard.kinds[piece[2]][2] == 1
