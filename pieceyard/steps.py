"""How pieces go by the steps of their kinds, whether or not the position has ended."""

from pieceyard.yards import is_ground


class Steps:
    # The runs of pieces are kept: they hang on the yard alone, and a search asks for them again and again.
    def __init__(self, yard):
        self.yard = yard
        self.runs = {}

    def runs_of(self, piece):
        if piece not in self.runs:
            self.runs[piece] = runs_in(self.yard, piece)
        return self.runs[piece]


def runs_in(yard, piece):
    # A run is a tuple (word, step, cells): the cells one behind the other, as if no other piece were there.
    # So a leap is a run of one cell, whatever lies between.
    kind = yard.kinds[piece[2]]
    longest = max(yard.height, yard.width)
    runs = []
    for word, steps, most in [("leap", kind[0], 1), ("ride", kind[1], longest)]:
        for step in steps:
            own_step = turned_for(piece[1], step)
            cells = cells_ahead(yard, piece[0], own_step, most)
            if cells:
                runs.append((word, own_step, cells))
    return runs


def turned_for(side, step):
    return step if side == 0 else (-step[0], -step[1])


def cells_ahead(yard, cell, step, most):
    cells = []
    ahead = (cell[0] + step[0], cell[1] + step[1])
    while len(cells) < most and is_ground(yard, ahead):
        cells.append(ahead)
        ahead = (ahead[0] + step[0], ahead[1] + step[1])
    return cells


def sides_by_cell(position):
    sides = {}
    for piece in position[1]:
        sides[piece[0]] = piece[1]
    return sides


def ends_of(sides, side, cells):
    # The first piece in the way stops the run: on its cell if it can be taken, else ahead of it.
    ends = []
    for cell in cells:
        if cell in sides:
            if sides[cell] != side:
                ends.append(cell)
            break
        ends.append(cell)
    return ends


def open_moves(steps, position):
    turn = position[0]
    sides = sides_by_cell(position)
    found = []
    for piece in position[1]:
        if piece[1] == turn:
            for run in steps.runs_of(piece):
                found.extend([(piece[0], cell) for cell in ends_of(sides, turn, run[2])])
    return sorted(set(found))


def can_move(steps, position):
    turn = position[0]
    sides = sides_by_cell(position)
    for piece in position[1]:
        if piece[1] == turn:
            for run in steps.runs_of(piece):
                # The first cell tells: where no piece can end there, it can't go on either.
                if run[2][0] not in sides or sides[run[2][0]] != turn:
                    return True
    return False


def ways_of(steps, position, move):
    sides = sides_by_cell(position)
    ways = []
    for piece in position[1]:
        if piece[0] == move[0]:
            for run in steps.runs_of(piece):
                ends = ends_of(sides, piece[1], run[2])
                if move[1] in ends:
                    ways.append((run[0], run[1], ends.index(move[1]) + 1))
    return sorted(ways)


def moved(position, move):
    pieces = []
    for piece in position[1]:
        if piece[0] == move[0]:
            pieces.append((move[1], piece[1], piece[2]))
        elif piece[0] != move[1]:
            pieces.append(piece)
    return (1 - position[0], tuple(sorted(pieces)))
