"""What the document says, told once more in the plainest and slowest way, for the tests to compare with."""


def pieces_by_cell(position):
    return {cell: (side, kind) for cell, side, kind in position[1]}


def is_free(yard, position, cell):
    on_board = cell[0] in range(yard.height) and cell[1] in range(yard.width)
    return on_board and cell not in yard.holes and cell not in pieces_by_cell(position)


def ways(yard, position, start, end):
    pieces = pieces_by_cell(position)
    if start not in pieces or pieces[start][0] != position[0]:
        return []
    if end not in yard.cells() or (end in pieces and pieces[end][0] == position[0]):
        return []
    leaps, rides, crown = yard.kinds[pieces[start][1]]
    sign = (1, -1)[position[0]]
    found = []
    for dr, dc in leaps:
        if (start[0] + sign * dr, start[1] + sign * dc) == end:
            found.append(("leap", (sign * dr, sign * dc), 1))
    for dr, dc in rides:
        for count in range(1, 6):
            if (start[0] + sign * dr * count, start[1] + sign * dc * count) == end:
                between = [(start[0] + sign * dr * k, start[1] + sign * dc * k) for k in range(1, count)]
                if all(is_free(yard, position, cell) for cell in between):
                    found.append(("ride", (sign * dr, sign * dc), count))
    return sorted(found)


def possible(yard, position):
    cells = yard.cells()
    return [(start, end) for start in cells for end in cells if ways(yard, position, start, end)]


def verdict(yard, position):
    turn, pieces = position
    for side in (0, 1):
        if not [kind for cell, own, kind in pieces if own == side and yard.kinds[kind][2]]:
            return 1 - side
    for side in (1 - turn, turn):
        for cell, own, kind in pieces:
            if own == side and yard.kinds[kind][2] and cell in yard.goals[side]:
                return side
    if possible(yard, position):
        return None
    return {"lost": 1 - turn, "drawn": "drawn"}[yard.stuck]


def moves(yard, position):
    return possible(yard, position) if verdict(yard, position) is None else []


def after(position, move):
    pieces = pieces_by_cell(position)
    pieces[move[1]] = pieces.pop(move[0])
    return (1 - position[0], tuple(sorted((cell, side, kind) for cell, (side, kind) in pieces.items())))


def lines(yard, position, many):
    if many == 0:
        return [[]]
    found = []
    for move in moves(yard, position):
        found.extend([move] + rest for rest in lines(yard, after(position, move), many - 1))
    return found
