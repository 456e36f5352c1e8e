import itertools
import unittest

from pieceyard.errors import BadPosition, YardError
from pieceyard.positions import is_position, placed
from tests.samples import parts, plain_yard, wide_yard, yard_of

KING = ((1, 1), 0, "k")
FAR = 10 ** 5000


def many_pieces(many):
    # A crown and as many others as are wanted, on the first cells of a board without holes.
    cells = wide_yard().cells()[:many]
    return ((cells[0], 0, "k"),) + tuple([(cell, 1, "p") for cell in cells[1:]])


# What is no position of the plain yard, in whatever order its pieces stand.
NEVER = {
    "turn 2": (2, (KING,)),
    "turn -1": (-1, (KING,)),
    "turn far off": (FAR, (KING,)),
    "no pieces": (0, ()),
    "two on one cell": (0, (KING, ((1, 1), 1, "k"))),
    "two of one side on one cell": (0, (KING, ((1, 1), 0, "r"))),
    "one piece twice": (0, (KING, KING)),
    "two others on one cell": (1, (KING, ((3, 0), 0, "p"), ((3, 0), 1, "p"))),
    "row below the board": (0, (((-1, 0), 0, "k"),)),
    "column below the board": (0, (((0, -1), 0, "k"),)),
    "row beyond the board": (0, (((4, 0), 0, "k"),)),
    "column beyond the board": (0, (((0, 3), 0, "k"),)),
    "row and column exchanged": (0, (((1, 3), 0, "k"),)),
    "row far off": (0, (((FAR, 0), 0, "k"),)),
    "another piece off the board": (0, (KING, ((4, 2), 1, "p"))),
    "on a hole": (0, (((0, 1), 0, "k"),)),
    "another piece on a hole": (0, (KING, ((2, 2), 1, "p"))),
    "side 2": (0, (((1, 1), 2, "k"),)),
    "side -1": (0, (((1, 1), -1, "k"),)),
    "another piece's side 2": (0, (KING, ((1, 2), 2, "p"))),
    "a kind that is not there": (0, (((1, 1), 0, "q"),)),
    "another piece's kind": (0, (KING, ((1, 2), 1, "q"))),
    "a kind without a sign": (0, (((1, 1), 0, ""),)),
    "a great letter": (0, (((1, 1), 0, "K"),)),
    "two letters": (0, (((1, 1), 0, "kr"),)),
    "no crown": (0, (((1, 1), 0, "r"),)),
    "no crown among several": (1, (((0, 0), 0, "p"), ((1, 1), 0, "r"), ((3, 2), 1, "r"))),
    "a piece of two": (0, (((1, 1), 0),)),
    "a piece of four": (0, (((1, 1), 0, "k", 0),)),
    "a cell of one": (0, (((1,), 0, "k"),)),
    "a cell of three": (0, (((1, 1, 1), 0, "k"),)),
    "turn True": (True, (KING,)),
    "side False": (0, (((1, 1), False, "k"),)),
    "row True": (0, (((True, 1), 0, "k"),)),
    "a cell that is a list": (0, (([1, 1], 0, "k"),)),
    "a piece that is a list": (0, ([(1, 1), 0, "k"],)),
    "a piece that is a list beside another": (0, (KING, [(1, 2), 0, "k"])),
    "a side that is a text": (0, (KING, ((1, 1), "1", "k"))),
    "a kind that is a list": (0, (((1, 1), 0, ["k"]),)),
}


class IsPositionTest(unittest.TestCase):
    def test_one_piece_on_every_cell(self):
        yard = plain_yard()
        for cell in yard.cells():
            for turn, side in itertools.product([0, 1], [0, 1]):
                with self.subTest(cell=cell, turn=turn, side=side):
                    self.assertIs(is_position(yard, (turn, ((cell, side, "k"),))), True)

    def test_one_to_ten_pieces(self):
        for many in range(1, 11):
            with self.subTest(many=many):
                self.assertIs(is_position(wide_yard(), (1, many_pieces(many))), True)

    def test_eleven_pieces_and_more(self):
        for many in [11, 12, 25]:
            with self.subTest(many=many):
                self.assertIs(is_position(wide_yard(), (1, many_pieces(many))), False)

    def test_crowns_of_one_side_of_the_other_and_of_both(self):
        yard = plain_yard()
        for pieces in [
            (((0, 0), 0, "k"), ((1, 1), 1, "r")),
            (((0, 0), 0, "r"), ((1, 1), 1, "k")),
            (((0, 0), 0, "k"), ((1, 1), 1, "k"), ((3, 2), 1, "k")),
        ]:
            with self.subTest(pieces=pieces):
                self.assertIs(is_position(yard, (0, pieces)), True)

    def test_the_third_makes_a_crown_not_the_letter(self):
        yard = yard_of({"kinds": {"k": ([], [], 0), "r": ([], [], 1)}})
        self.assertIs(is_position(yard, (0, (((1, 1), 0, "r"),))), True)
        self.assertIs(is_position(yard, (0, (((1, 1), 0, "k"),))), False)

    def test_no_crown_among_the_kinds(self):
        yard = yard_of({"kinds": {"r": ([], [], 0)}})
        self.assertIs(is_position(yard, (0, (((1, 1), 0, "r"),))), False)

    def test_a_yard_of_holes(self):
        yard = yard_of({"height": 1, "width": 1, "holes": [(0, 0)], "goals": ([], [])})
        self.assertIs(is_position(yard, (0, (((0, 0), 0, "k"),))), False)

    def test_what_is_never_one(self):
        for name, position in NEVER.items():
            with self.subTest(name=name):
                self.assertIs(is_position(plain_yard(), position), False)

    def test_pieces_not_rising(self):
        rising = (((0, 0), 1, "r"), ((0, 2), 0, "p"), ((1, 1), 0, "k"), ((3, 0), 1, "k"))
        for pieces in itertools.permutations(rising):
            with self.subTest(pieces=pieces):
                self.assertIs(is_position(plain_yard(), (0, pieces)), pieces == rising)

    def test_tuples_throughout(self):
        yard = plain_yard()
        for position in [[0, (KING,)], (0, [KING]), (), (0,), (0, (KING,), 0)]:
            with self.subTest(position=position):
                self.assertIs(is_position(yard, position), False)

    def test_the_yard_stays(self):
        yard = plain_yard()
        is_position(yard, (0, (KING,)))
        is_position(yard, (2, (KING,)))
        self.assertEqual(vars(yard), parts())


class PlacedTest(unittest.TestCase):
    def test_pieces_in_any_order(self):
        rising = (((0, 0), 1, "r"), ((0, 2), 0, "p"), ((1, 1), 0, "k"), ((3, 0), 1, "k"))
        for pieces in itertools.permutations(rising):
            for turn in [0, 1]:
                with self.subTest(pieces=pieces, turn=turn):
                    self.assertEqual(placed(plain_yard(), turn, list(pieces)), (turn, rising))

    def test_what_is_told_is_a_position(self):
        yard = plain_yard()
        position = placed(yard, 1, [((3, 0), 0, "p"), KING])
        self.assertIs(is_position(yard, position), True)
        self.assertEqual([type(part) for part in position], [int, tuple])

    def test_the_list_stays_as_it_was(self):
        pieces = [((3, 0), 0, "p"), KING, ((0, 0), 1, "k")]
        kept = list(pieces)
        yard = plain_yard()
        position = placed(yard, 0, pieces)
        self.assertEqual(pieces, kept)
        pieces.clear()
        self.assertEqual(position, (0, tuple(sorted(kept))))
        self.assertEqual(vars(yard), parts())

    def test_one_piece_and_ten(self):
        for many in [1, 10]:
            with self.subTest(many=many):
                pieces = many_pieces(many)
                self.assertEqual(placed(wide_yard(), 0, list(reversed(pieces))), (0, pieces))

    def refused(self, yard, turn, pieces):
        kept = list(pieces)
        with self.assertRaises(BadPosition) as taken:
            placed(yard, turn, pieces)
        self.assertIsInstance(taken.exception, YardError)
        self.assertIsInstance(taken.exception, ValueError)
        self.assertEqual(pieces, kept)

    def test_what_is_never_one(self):
        for name, position in NEVER.items():
            for pieces in itertools.permutations(position[1]):
                with self.subTest(name=name):
                    self.refused(plain_yard(), position[0], list(pieces))

    def test_eleven_pieces_and_more(self):
        for many in [11, 12, 25]:
            with self.subTest(many=many):
                self.refused(wide_yard(), 0, list(many_pieces(many)))
                self.refused(wide_yard(), 0, list(reversed(many_pieces(many))))


if __name__ == "__main__":
    unittest.main()
