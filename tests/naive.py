"""What the document says, told once more in the plainest and slowest way, for the tests to compare with."""


def pieces_by_cell(position):
    return {cell: (side, kind) for cell, side, kind in position[1]}


def is_free(yard, position, cell):
    on_board = cell[0] in range(yard.height) and cell[1] in range(yard.width)
    return on_board and cell not in yard.holes and cell not in pieces_by_cell(position)


def ways(yard, position, start, end):
    pieces = pieces_by_cell(position)
    if start not in pieces or pieces[start][0] != position[0]:
        return []
    if end not in yard.cells() or (end in pieces and pieces[end][0] == position[0]):
        return []
    leaps, rides, crown = yard.kinds[pieces[start][1]]
    sign = (1, -1)[position[0]]
    found = []
    for dr, dc in leaps:
        if (start[0] + sign * dr, start[1] + sign * dc) == end:
            found.append(("leap", (sign * dr, sign * dc), 1))
    for dr, dc in rides:
        for count in range(1, 6):
            if (start[0] + sign * dr * count, start[1] + sign * dc * count) == end:
                between = [(start[0] + sign * dr * k, start[1] + sign * dc * k) for k in range(1, count)]
                if all(is_free(yard, position, cell) for cell in between):
                    found.append(("ride", (sign * dr, sign * dc), count))
    return sorted(found)


def possible(yard, position):
    cells = yard.cells()
    return [(start, end) for start in cells for end in cells if ways(yard, position, start, end)]


def verdict(yard, position):
    turn, pieces = position
    for side in (0, 1):
        if not [kind for cell, own, kind in pieces if own == side and yard.kinds[kind][2]]:
            return 1 - side
    for side in (1 - turn, turn):
        for cell, own, kind in pieces:
            if own == side and yard.kinds[kind][2] and cell in yard.goals[side]:
                return side
    if possible(yard, position):
        return None
    return {"lost": 1 - turn, "drawn": "drawn"}[yard.stuck]


def moves(yard, position):
    return possible(yard, position) if verdict(yard, position) is None else []


def after(position, move):
    pieces = pieces_by_cell(position)
    pieces[move[1]] = pieces.pop(move[0])
    return (1 - position[0], tuple(sorted((cell, side, kind) for cell, (side, kind) in pieces.items())))


def lines(yard, position, many):
    if many == 0:
        return [[]]
    found = []
    for move in moves(yard, position):
        found.extend([move] + rest for rest in lines(yard, after(position, move), many - 1))
    return found


NAMES = [x + word + str(number) for x in ("", "x") for word in ("turn", "flip") for number in range(4)]


def cell_over(yard, name, cell):
    # The board is laid out with each cell's first place written on it; then the whole board is mirrored and turned.
    board = [[(r, c) for c in range(yard.width)] for r in range(yard.height)]
    if "flip" in name:
        board = [row[::-1] for row in board]
    for turn in range(int(name[-1])):
        board = [list(row) for row in zip(*board[::-1])]
    for r, row in enumerate(board):
        if cell in row:
            return (r, row.index(cell))
    return None


def position_over(yard, name, position):
    turn, pieces = position
    x = int(name[0] == "x")
    return (turn ^ x, tuple(sorted((cell_over(yard, name, cell), side ^ x, kind) for cell, side, kind in pieces)))


def step_over(name, step):
    # By the formulas of the document, told anew as factors.
    dr, dc = step
    if "flip" in name:
        dc = -dc
    dr, dc = {0: (dr, dc), 1: (dc, -dr), 2: (-dr, -dc), 3: (-dc, dr)}[int(name[-1])]
    return (-dr, -dc) if name[0] == "x" else (dr, dc)


def bears(yard):
    found = []
    for name in NAMES:
        x = int(name[0] == "x")
        fits = int(name[-1]) % 2 == 0 or yard.height == yard.width
        if fits:
            fits = {cell_over(yard, name, hole) for hole in yard.holes} == set(yard.holes)
            for side in (0, 1):
                goals = {cell_over(yard, name, goal) for goal in yard.goals[side]}
                fits = fits and goals == set(yard.goals[side ^ x])
            for leaps, rides, crown in yard.kinds.values():
                fits = fits and {step_over(name, step) for step in leaps} == set(leaps)
                fits = fits and {step_over(name, step) for step in rides} == set(rides)
        if fits:
            found.append(name)
    return found


def wins(yard, position, side, many):
    ended = verdict(yard, position)
    if ended is not None or many == 0:
        return ended == side
    behind = [wins(yard, after(position, move), side, many - 1) for move in moves(yard, position)]
    return any(behind) if position[0] == side else all(behind)


def least(yard, position, side, most):
    for many in range(most + 1):
        if wins(yard, position, side, many):
            return many
    return None


def win_holds(yard, position, side, many, tree):
    ended = verdict(yard, position)
    if tree == ("won",):
        return ended == side
    if ended is not None or many == 0:
        return False
    if position[0] == side:
        return (
            tree[0] == "move" and tree[1] in moves(yard, position)
            and win_holds(yard, after(position, tree[1]), side, many - 1, tree[2])
        )
    return (
        tree[0] == "all" and [move for move, rest in tree[1]] == moves(yard, position)
        and all(win_holds(yard, after(position, move), side, many - 1, rest) for move, rest in tree[1])
    )


def not_holds(yard, position, side, many, tree):
    ended = verdict(yard, position)
    if tree == ("not",):
        return ended != side if many == 0 else ended not in (side, None)
    if ended is not None or many == 0:
        return False
    if position[0] != side:
        return (
            tree[0] == "move" and tree[1] in moves(yard, position)
            and not_holds(yard, after(position, tree[1]), side, many - 1, tree[2])
        )
    return (
        tree[0] == "all" and [move for move, rest in tree[1]] == moves(yard, position)
        and all(not_holds(yard, after(position, move), side, many - 1, rest) for move, rest in tree[1])
    )


def depth(tree):
    if len(tree) == 1:
        return 0
    if tree[0] == "move":
        return depth(tree[2]) + 1
    return max(depth(rest) for move, rest in tree[1]) + 1
