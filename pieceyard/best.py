"""Best lines: one side goes the shortest way to its win, the other one the longest."""

from pieceyard.errors import NoWin
from pieceyard.lines import walked_by
from pieceyard.moves import rows_by
from pieceyard.positions import check_asked
from pieceyard.trees import MOST_MOVES, Search


def best_lines(yard, position, side, most):
    check_asked(yard, position, side, most, MOST_MOVES)
    search = Search(yard, side)
    return lines_down(search, position, won_number(search, position, most))


def best_line(yard, position, side, most):
    check_asked(yard, position, side, most, MOST_MOVES)
    search = Search(yard, side)
    line = []
    place = position
    for number in range(won_number(search, position, most), 0, -1):
        row = rows_down(search, place, number)[0]
        line.append(row[0])
        place = row[1]
    return line


def numbers(yard, position, side, most, line):
    check_asked(yard, position, side, most, MOST_MOVES)
    return numbers_by(Search(yard, side), position, most, line)


def is_best(yard, position, side, most, line):
    check_asked(yard, position, side, most, MOST_MOVES)
    search = Search(yard, side)
    number = won_number(search, position, most)
    return numbers_by(search, position, most, line) == list(range(number, -1, -1))


def won_number(search, position, most):
    number = search.number(position, most)
    if number is None:
        raise NoWin("the side doesn't win within so many moves")
    return number


def numbers_by(search, position, most, line):
    return [search.number(place, most) for place in walked_by(search.steps, position, line)]


def lines_down(search, position, number):
    # The position's least number is handed in.
    if number == 0:
        return [[]]
    found = []
    for move, behind in rows_down(search, position, number):
        found.extend([[move] + rest for rest in lines_down(search, behind, number - 1)])
    return found


def rows_down(search, position, number):
    rows = rows_by(search.steps, position)
    return [row for row in rows if search.number(row[1], number - 1) == number - 1]
