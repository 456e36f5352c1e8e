"""A desk: a position from which one plays on, and back."""

from pieceyard.contrary import kept_off_by
from pieceyard.errors import BadText, Ended, NoMove, Nothing
from pieceyard.lines import walked
from pieceyard.moves import after
from pieceyard.notes import check_text, line_text, position_text, read_line, read_position
from pieceyard.notes import read_rows, read_yard, rows_text, yard_text
from pieceyard.positions import check_asked, check_position
from pieceyard.trees import MOST_MOVES, Search, won_by
from pieceyard.yards import Yard


class Desk:
    def __init__(self, yard, position):
        check_position(yard, position)
        # A yard of the desk's own: the one handed in may be changed later.
        self.yard = Yard(yard.height, yard.width, yard.holes, yard.kinds, yard.goals, yard.stuck)
        self.passed = [position]
        self.played = []

    def position(self):
        return self.passed[-1]

    def line(self):
        return list(self.played)

    def play(self, move):
        behind = after(self.yard, self.position(), move)
        self.passed.append(behind)
        self.played.append(move)
        return behind

    def back(self):
        if not self.played:
            raise Nothing("no move was played")
        self.played.pop()
        self.passed.pop()
        return self.position()

    def tried(self, line):
        return walked(self.yard, self.position(), line)

    def told(self, side, many):
        check_asked(self.yard, self.position(), side, many, MOST_MOVES)
        search = Search(self.yard, side)
        if search.number(self.position(), many) is None:
            return ("not", kept_off_by(search, self.position(), many))
        return ("won", won_by(search, self.position(), many))

    def note(self):
        rows = ["from " + position_text(self.yard, self.passed[0]), "line " + line_text(self.played)]
        return yard_text(self.yard) + rows_text(rows)


def read_desk(text):
    rows = read_rows(text)
    check_text(len(rows) > 2 and rows[-2].startswith("from ") and rows[-1].startswith("line "))
    yard = read_yard(rows_text(rows[:-2]))
    desk = Desk(yard, read_position(yard, rows[-2][5:]))
    for move in read_line(rows[-1][5:]):
        play_written(desk, move)
    return desk


def play_written(desk, move):
    try:
        desk.play(move)
    except (Ended, NoMove):
        raise BadText("the line can't be played") from None
