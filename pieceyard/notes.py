"""Yards, positions and lines written as texts, and read again."""

from pieceyard.errors import BadText, BadYard
from pieceyard.forms import is_within
from pieceyard.positions import check_position, is_position
from pieceyard.yards import GREATEST_SIZE, Yard

# In their places: the figure of a number stands at that number. No greater number is ever written.
FIGURES = ("0", "1", "2", "3", "4", "5")


def yard_text(yard):
    rows = ["yard " + str(yard.height) + " " + str(yard.width) + " " + yard.stuck]
    rows.append("holes" + pairs_text(yard.holes))
    for side in (0, 1):
        rows.append("goals" + pairs_text(yard.goals[side]))
    for name in sorted(yard.kinds):
        kind = yard.kinds[name]
        steps = " leaps" + pairs_text(kind[0]) + " rides" + pairs_text(kind[1])
        rows.append("kind " + name + " " + str(kind[2]) + steps)
    return rows_text(rows)


def read_yard(text):
    rows = read_rows(text)
    check_text(len(rows) >= 4)
    head = rows[0].split(" ")
    check_text(len(head) == 4 and head[0] == "yard")
    height = read_number(head[1])
    width = read_number(head[2])
    holes = read_cells("holes", rows[1])
    goals = (read_cells("goals", rows[2]), read_cells("goals", rows[3]))
    kinds = read_kinds(rows[4:])
    try:
        return Yard(height, width, holes, kinds, goals, head[3])
    except BadYard:
        raise BadText("the text writes what is no yard") from None


def position_text(yard, position):
    check_position(yard, position)
    return " ".join([str(position[0])] + [piece_text(piece) for piece in position[1]])


def read_position(yard, text):
    words = text.split(" ")
    position = (read_number(words[0]), tuple([read_piece(word) for word in words[1:]]))
    check_text(is_position(yard, position))
    return position


def line_text(line):
    return " ".join([move_text(move) for move in line])


def read_line(text):
    # The text without signs would be split into one word without signs.
    return [read_move(word) for word in text.split(" ")] if text != "" else []


def check_text(is_right):
    if not is_right:
        raise BadText("this is not as it is written")


def rows_text(rows):
    return "".join([row + "\n" for row in rows])


def read_rows(text):
    rows = text.split("\n")
    # Behind the last line end there is nothing.
    check_text(rows[-1] == "")
    return rows[:-1]


def read_number(text):
    if text in FIGURES:
        return FIGURES.index(text)
    check_text(text[:1] == "-" and text[1:] in FIGURES[1:])
    return -FIGURES.index(text[1:])


def pair_text(pair):
    return str(pair[0]) + "." + str(pair[1])


def read_pair(text):
    halves = text.split(".")
    check_text(len(halves) == 2)
    return (read_number(halves[0]), read_number(halves[1]))


def pairs_text(pairs):
    return "".join([" " + pair_text(pair) for pair in pairs])


def read_cells(word, row):
    words = row.split(" ")
    check_text(words[0] == word)
    return [read_pair(pair) for pair in words[1:]]


def read_kinds(rows):
    kinds = {}
    for row in rows:
        words = row.split(" ")
        steps = words[4:]
        check_text(words[0] == "kind" and words[3:4] == ["leaps"] and "rides" in steps)
        at = steps.index("rides")
        leaps = [read_pair(pair) for pair in steps[:at]]
        rides = [read_pair(pair) for pair in steps[at + 1:]]
        # Rising, so that no kind is written twice either.
        check_text(all([name < words[1] for name in kinds]))
        kinds[words[1]] = (leaps, rides, read_number(words[2]))
    return kinds


def piece_text(piece):
    return piece[2] + str(piece[1]) + ":" + pair_text(piece[0])


def read_piece(word):
    check_text(word[2:3] == ":")
    return (read_pair(word[3:]), read_number(word[1]), word[0])


def move_text(move):
    return pair_text(move[0]) + "-" + pair_text(move[1])


def read_move(text):
    halves = text.split("-")
    check_text(len(halves) == 2)
    move = (read_pair(halves[0]), read_pair(halves[1]))
    check_text(all([is_within(number, 0, GREATEST_SIZE - 1) for number in move[0] + move[1]]))
    return move
