"""Problems: keys, solutions and tries."""

from pieceyard.contrary import kept_off_by
from pieceyard.errors import NoProblem
from pieceyard.forms import check_many
from pieceyard.moves import check_goes_on, rows_by
from pieceyard.positions import check_position
from pieceyard.steps import Steps
from pieceyard.trees import Search, won_by

MOST_MOVES = 7


def keys(yard, position, many):
    check_problem(yard, position, many)
    return [row[0] for row in key_rows(Search(yard, position[0]), position, many)]


def sound(yard, position, many):
    check_problem(yard, position, many)
    return is_sound(Search(yard, position[0]), position, many)


def solution(yard, position, many):
    check_problem(yard, position, many)
    search = Search(yard, position[0])
    check_sound(search, position, many)
    row = key_rows(search, position, many)[0]
    return (row[0], won_by(search, row[1], many - 1))


def tries(yard, position, many):
    check_problem(yard, position, many)
    # With a single move there is no answer to speak of.
    if many == 1:
        return []
    search = Search(yard, position[0])
    found = []
    for move, behind in rows_by(search.steps, position):
        answer = only_answer(search, behind, many - 2)
        if answer is not None:
            found.append((move, answer[0], kept_off_by(search, answer[1], many - 2)))
    return found


def only_answer(search, place, many):
    # The one row of several by which the other side keeps off; where there is one, the move ahead of it was no key.
    answers = rows_by(search.steps, place)
    if len(answers) < 2:
        return None
    keeping_off = [row for row in answers if search.number(row[1], many) is None]
    return keeping_off[0] if len(keeping_off) == 1 else None


def check_problem(yard, position, many):
    check_position(yard, position)
    check_many(many, 1, MOST_MOVES)
    check_goes_on(Steps(yard), position)


def check_sound(search, position, many):
    if not is_sound(search, position, many):
        raise NoProblem("this is no sound problem")


def is_sound(search, position, many):
    # For n = 1 nothing is won within n - 2, which is below nought.
    if search.number(position, many - 2) is not None:
        return False
    return len(key_rows(search, position, many)) == 1


def key_rows(search, position, many):
    return [row for row in rows_by(search.steps, position) if search.number(row[1], many - 1) is not None]
