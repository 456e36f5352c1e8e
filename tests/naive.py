"""What the document says, told once more in the plainest and slowest way, for the tests to compare with."""


def pieces_by_cell(position):
    return {cell: (side, kind) for cell, side, kind in position[1]}


def is_free(yard, position, cell):
    on_board = cell[0] in range(yard.height) and cell[1] in range(yard.width)
    return on_board and cell not in yard.holes and cell not in pieces_by_cell(position)


def ways(yard, position, start, end):
    pieces = pieces_by_cell(position)
    if start not in pieces or pieces[start][0] != position[0]:
        return []
    if end not in yard.cells() or (end in pieces and pieces[end][0] == position[0]):
        return []
    leaps, rides, crown = yard.kinds[pieces[start][1]]
    sign = (1, -1)[position[0]]
    found = []
    for dr, dc in leaps:
        if (start[0] + sign * dr, start[1] + sign * dc) == end:
            found.append(("leap", (sign * dr, sign * dc), 1))
    for dr, dc in rides:
        for count in range(1, 6):
            if (start[0] + sign * dr * count, start[1] + sign * dc * count) == end:
                between = [(start[0] + sign * dr * k, start[1] + sign * dc * k) for k in range(1, count)]
                if all(is_free(yard, position, cell) for cell in between):
                    found.append(("ride", (sign * dr, sign * dc), count))
    return sorted(found)


def possible(yard, position):
    cells = yard.cells()
    return [(start, end) for start in cells for end in cells if ways(yard, position, start, end)]


def verdict(yard, position):
    turn, pieces = position
    for side in (0, 1):
        if not [kind for cell, own, kind in pieces if own == side and yard.kinds[kind][2]]:
            return 1 - side
    for side in (1 - turn, turn):
        for cell, own, kind in pieces:
            if own == side and yard.kinds[kind][2] and cell in yard.goals[side]:
                return side
    if possible(yard, position):
        return None
    return {"lost": 1 - turn, "drawn": "drawn"}[yard.stuck]


def moves(yard, position):
    return possible(yard, position) if verdict(yard, position) is None else []


def after(position, move):
    pieces = pieces_by_cell(position)
    pieces[move[1]] = pieces.pop(move[0])
    return (1 - position[0], tuple(sorted((cell, side, kind) for cell, (side, kind) in pieces.items())))


def lines(yard, position, many):
    if many == 0:
        return [[]]
    found = []
    for move in moves(yard, position):
        found.extend([move] + rest for rest in lines(yard, after(position, move), many - 1))
    return found


NAMES = [x + word + str(number) for x in ("", "x") for word in ("turn", "flip") for number in range(4)]


def cell_over(yard, name, cell):
    # The board is laid out with each cell's first place written on it; then the whole board is mirrored and turned.
    board = [[(r, c) for c in range(yard.width)] for r in range(yard.height)]
    if "flip" in name:
        board = [row[::-1] for row in board]
    for turn in range(int(name[-1])):
        board = [list(row) for row in zip(*board[::-1])]
    for r, row in enumerate(board):
        if cell in row:
            return (r, row.index(cell))
    return None


def position_over(yard, name, position):
    turn, pieces = position
    x = int(name[0] == "x")
    return (turn ^ x, tuple(sorted((cell_over(yard, name, cell), side ^ x, kind) for cell, side, kind in pieces)))


def step_over(name, step):
    # By the formulas of the document, told anew as factors.
    dr, dc = step
    if "flip" in name:
        dc = -dc
    dr, dc = {0: (dr, dc), 1: (dc, -dr), 2: (-dr, -dc), 3: (-dc, dr)}[int(name[-1])]
    return (-dr, -dc) if name[0] == "x" else (dr, dc)


def bears(yard):
    found = []
    for name in NAMES:
        x = int(name[0] == "x")
        fits = int(name[-1]) % 2 == 0 or yard.height == yard.width
        if fits:
            fits = {cell_over(yard, name, hole) for hole in yard.holes} == set(yard.holes)
            for side in (0, 1):
                goals = {cell_over(yard, name, goal) for goal in yard.goals[side]}
                fits = fits and goals == set(yard.goals[side ^ x])
            for leaps, rides, crown in yard.kinds.values():
                fits = fits and {step_over(name, step) for step in leaps} == set(leaps)
                fits = fits and {step_over(name, step) for step in rides} == set(rides)
        if fits:
            found.append(name)
    return found


def wins(yard, position, side, many):
    ended = verdict(yard, position)
    if ended is not None or many == 0:
        return ended == side
    behind = [wins(yard, after(position, move), side, many - 1) for move in moves(yard, position)]
    return any(behind) if position[0] == side else all(behind)


def least(yard, position, side, most):
    for many in range(most + 1):
        if wins(yard, position, side, many):
            return many
    return None


def win_holds(yard, position, side, many, tree):
    ended = verdict(yard, position)
    if tree == ("won",):
        return ended == side
    if ended is not None or many == 0:
        return False
    if position[0] == side:
        return (
            tree[0] == "move" and tree[1] in moves(yard, position)
            and win_holds(yard, after(position, tree[1]), side, many - 1, tree[2])
        )
    return (
        tree[0] == "all" and [move for move, rest in tree[1]] == moves(yard, position)
        and all(win_holds(yard, after(position, move), side, many - 1, rest) for move, rest in tree[1])
    )


def not_holds(yard, position, side, many, tree):
    ended = verdict(yard, position)
    if tree == ("not",):
        return ended != side if many == 0 else ended not in (side, None)
    if ended is not None or many == 0:
        return False
    if position[0] != side:
        return (
            tree[0] == "move" and tree[1] in moves(yard, position)
            and not_holds(yard, after(position, tree[1]), side, many - 1, tree[2])
        )
    return (
        tree[0] == "all" and [move for move, rest in tree[1]] == moves(yard, position)
        and all(not_holds(yard, after(position, move), side, many - 1, rest) for move, rest in tree[1])
    )


def depth(tree):
    if len(tree) == 1:
        return 0
    if tree[0] == "move":
        return depth(tree[2]) + 1
    return max(depth(rest) for move, rest in tree[1]) + 1


def reach(yard, position):
    found = {position}
    fresh = found
    while fresh:
        fresh = {after(place, move) for place in fresh for move in moves(yard, place)} - found
        found = found | fresh
    return sorted(found)


def ranks(yard, position):
    # By rounds over both sides: who has won within 0 moves, within 1, and so on, until nothing is new.
    places = reach(yard, position)
    behind = {place: [after(place, move) for move in moves(yard, place)] for place in places}
    told = {place: None for place in places}
    won = [{place for place in places if verdict(yard, place) == side} for side in (0, 1)]
    number = 0
    while True:
        fresh = False
        for side in (0, 1):
            for place in won[side]:
                if told[place] is None:
                    told[place] = (side, number)
                    fresh = True
        if not fresh:
            return told
        number += 1
        more = [set(won[0]), set(won[1])]
        for side in (0, 1):
            for place in places:
                if behind[place]:
                    inside = [other in won[side] for other in behind[place]]
                    if (any if place[0] == side else all)(inside):
                        more[side].add(place)
        won = more


def stay_holds(yard, position, side, told):
    if told != sorted(set(told)) or position not in told:
        return False
    for place in told:
        ended = verdict(yard, place)
        if ended == 1 - side:
            return False
        if ended is None:
            inside = [after(place, move) in told for move in moves(yard, place)]
            if not (any if place[0] == side else all)(inside):
                return False
    return True


def keys(yard, position, many):
    return [
        move for move in moves(yard, position) if wins(yard, after(position, move), position[0], many - 1)
    ]


def sound(yard, position, many):
    if len(keys(yard, position, many)) != 1:
        return False
    return many == 1 or not wins(yard, position, position[0], many - 2)


def tries(yard, position, many):
    # The moves and their answers alone: which tree is told with them is not promised.
    found = []
    for move in moves(yard, position):
        behind = after(position, move)
        answers = moves(yard, behind)
        if many > 1 and move not in keys(yard, position, many) and len(answers) > 1:
            wrong = [
                answer for answer in answers if not wins(yard, after(behind, answer), position[0], many - 2)
            ]
            if len(wrong) == 1:
                found.append((move, wrong[0]))
    return found


def together(yard, position, side, many):
    for number in range(many + 1):
        found = []
        for line in lines(yard, position, number):
            place = position
            for move in line:
                place = after(place, move)
            if verdict(yard, place) == side:
                found.append(line)
        if found:
            return (number, found)
    return None


def least_positions(yard, position, many):
    turn, pieces = position
    movable = [piece for piece in pieces if not yard.kinds[piece[2]][2]]
    found = []
    for chosen in range(2 ** len(movable)):
        gone = [piece for at, piece in enumerate(movable) if chosen >> at & 1]
        place = (turn, tuple(piece for piece in pieces if piece not in gone))
        if sound(yard, place, many):
            found.append(place)
    fewest = min(len(place[1]) for place in found)
    return sorted(place for place in found if len(place[1]) == fewest)


def solved(yard, position, side, most):
    # The one win tree of [6.2].
    if verdict(yard, position) == side:
        return ("won",)
    behind = [(move, after(position, move)) for move in moves(yard, position)]
    if position[0] != side:
        return ("all", [(move, solved(yard, place, side, most - 1)) for move, place in behind])
    numbers = {move: least(yard, place, side, most - 1) for move, place in behind}
    fewest = min(number for number in numbers.values() if number is not None)
    for move, place in behind:
        if numbers[move] == fewest:
            return ("move", move, solved(yard, place, side, most - 1))


def numbers(yard, position, side, most, line):
    places = [position]
    for move in line:
        places.append(after(places[-1], move))
    return [least(yard, place, side, most) for place in places]


def best_lines(yard, position, side, number):
    # Of a position whose least number is handed in.
    if number == 0:
        return [[]]
    found = []
    for move in moves(yard, position):
        place = after(position, move)
        if least(yard, place, side, number) == number - 1:
            found.extend([move] + rest for rest in best_lines(yard, place, side, number - 1))
    return found
