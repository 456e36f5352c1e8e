import copy
import unittest

from pieceyard.errors import BadPosition, Ended, NoMove, YardError
from pieceyard.moves import after, moves, shown_by
from pieceyard.positions import is_position, placed
from pieceyard.yards import Yard
from tests import naive
from tests.samples import chance_positions, fields, king_steps, parts, plain_yard, rook_steps, small_yards, yard_of

CROWN = ([], [], 1)


def bare(height, width, kinds, holes=None, goals=None, stuck="lost"):
    return Yard(height, width, holes or [], {"k": CROWN, **kinds}, goals or ([], []), stuck)


def ends(yard, position, start):
    return [move[1] for move in moves(yard, position) if move[0] == start]


class LeapsTest(unittest.TestCase):
    def test_over_pieces_and_holes(self):
        yard = bare(5, 5, {"n": ([(0, 2), (2, 0)], [], 0)}, holes=[(1, 0)])
        # An own piece on the way aside, a hole on the way down.
        position = placed(yard, 0, [((0, 0), 0, "n"), ((0, 1), 0, "k"), ((4, 4), 1, "k")])
        self.assertEqual(ends(yard, position, (0, 0)), [(0, 2), (2, 0)])
        position = placed(yard, 0, [((0, 0), 0, "n"), ((0, 1), 1, "k"), ((4, 4), 0, "k")])
        self.assertEqual(ends(yard, position, (0, 0)), [(0, 2), (2, 0)])

    def test_not_again_and_again(self):
        yard = bare(1, 5, {"n": ([(0, 1)], [], 0)})
        position = placed(yard, 0, [((0, 0), 0, "n"), ((0, 3), 0, "k"), ((0, 4), 1, "k")])
        self.assertEqual(moves(yard, position), [((0, 0), (0, 1))])

    def test_where_it_may_end(self):
        yard = bare(3, 3, {"n": ([(0, 1), (1, 0), (1, 1)], [], 0)}, holes=[(1, 1)])
        # Aside its own crown, down the other one, aslant a hole.
        position = placed(yard, 0, [((0, 0), 0, "n"), ((0, 1), 0, "k"), ((1, 0), 1, "k")])
        self.assertEqual(moves(yard, position), [((0, 0), (1, 0))])
        # The board's edge on both hands.
        position = placed(yard, 0, [((2, 2), 0, "n"), ((0, 0), 0, "k"), ((0, 2), 1, "k"), ((2, 0), 0, "n")])
        self.assertEqual(moves(yard, position), [((2, 0), (2, 1))])

    def test_of_side_1_turned(self):
        yard = bare(5, 5, {"n": ([(1, -2), (4, 0)], [], 0)})
        pieces = [((1, 2), 0, "n"), ((4, 1), 1, "n"), ((0, 0), 0, "k"), ((4, 4), 1, "k")]
        self.assertEqual(moves(yard, placed(yard, 0, pieces)), [((1, 2), (2, 0))])
        self.assertEqual(moves(yard, placed(yard, 1, pieces)), [((4, 1), (0, 1)), ((4, 1), (3, 3))])


class RidesTest(unittest.TestCase):
    def row(self, pieces, holes=None):
        # A rider at the left end of a row of five, and crowns in the row below.
        yard = bare(2, 5, {"r": ([], [(0, 1)], 0)}, holes=holes)
        handed = [((0, 0), 0, "r"), ((1, 0), 0, "k"), ((1, 4), 1, "k")] + pieces
        return ends(yard, placed(yard, 0, handed), (0, 0))

    def test_to_the_edge(self):
        self.assertEqual(self.row([]), [(0, 1), (0, 2), (0, 3), (0, 4)])

    def test_to_a_hole(self):
        self.assertEqual(self.row([], [(0, 3)]), [(0, 1), (0, 2)])
        self.assertEqual(self.row([((0, 2), 1, "r")], [(0, 3)]), [(0, 1), (0, 2)])

    def test_to_an_own_piece(self):
        self.assertEqual(self.row([((0, 3), 0, "r")]), [(0, 1), (0, 2)])
        self.assertEqual(self.row([((0, 4), 0, "r")]), [(0, 1), (0, 2), (0, 3)])

    def test_onto_a_piece_of_the_other_side_and_not_beyond(self):
        self.assertEqual(self.row([((0, 3), 1, "r")]), [(0, 1), (0, 2), (0, 3)])
        self.assertEqual(self.row([((0, 1), 1, "r")]), [(0, 1)])
        self.assertEqual(self.row([((0, 2), 1, "r"), ((0, 3), 1, "r")]), [(0, 1), (0, 2)])

    def test_stopped_at_once(self):
        yard = bare(2, 2, {"r": ([], [(0, 1)], 0), "p": ([(1, 0)], [], 0)})
        pieces = [((0, 0), 0, "r"), ((0, 1), 0, "p"), ((1, 0), 0, "k"), ((1, 1), 1, "k")]
        self.assertEqual(moves(yard, placed(yard, 0, pieces)), [((0, 1), (1, 1))])

    def test_long_steps_pass_over_what_lies_between(self):
        yard = bare(5, 5, {"r": ([], [(2, 1)], 0)}, holes=[(1, 0), (1, 1)])
        pieces = [((0, 0), 0, "r"), ((3, 1), 0, "k"), ((0, 4), 1, "k")]
        self.assertEqual(moves(yard, placed(yard, 0, pieces)), [((0, 0), (2, 1)), ((0, 0), (4, 2))])

    def test_of_side_1_turned(self):
        yard = bare(5, 5, {"r": ([], [(1, 1)], 0)})
        pieces = [((2, 2), 0, "r"), ((4, 2), 1, "r"), ((0, 4), 0, "k"), ((4, 0), 1, "k")]
        self.assertEqual(moves(yard, placed(yard, 0, pieces)), [((2, 2), (3, 3)), ((2, 2), (4, 4))])
        self.assertEqual(moves(yard, placed(yard, 1, pieces)), [((4, 2), (2, 0)), ((4, 2), (3, 1))])


class MovesTest(unittest.TestCase):
    def test_a_leap_and_a_ride_to_one_cell_are_one_move(self):
        yard = bare(1, 5, {"q": ([(0, 1), (0, 2)], [(0, 1), (0, 2)], 0)})
        position = placed(yard, 0, [((0, 0), 0, "q"), ((0, 3), 0, "k"), ((0, 4), 1, "k")])
        self.assertEqual(moves(yard, position), [((0, 0), (0, 1)), ((0, 0), (0, 2)), ((0, 0), (0, 4))])

    def test_rising_tuples(self):
        for yard in small_yards():
            for position in chance_positions(yard, 20, 6, 1):
                told = moves(yard, position)
                self.assertIs(type(told), list)
                self.assertEqual(told, sorted(set(told)))
                for move in told:
                    self.assertIs(type(move), tuple)
                    self.assertEqual([type(cell) for cell in move], [tuple, tuple])

    def test_as_the_document_tells(self):
        for yard in small_yards():
            for position in chance_positions(yard, 60, 8, 2):
                with self.subTest(yard=fields(yard), position=position):
                    self.assertEqual(moves(yard, position), naive.moves(yard, position))

    def test_the_steps_of_each_kind_in_every_cell(self):
        yard = yard_of({"holes": [], "goals": ([], [])})
        for cell in yard.cells():
            for kind in sorted(yard.kinds):
                for side in (0, 1):
                    crowns = [other for other in yard.cells() if other != cell][:2]
                    position = placed(
                        yard, side, [(cell, side, kind), (crowns[0], 0, "k"), (crowns[1], 1, "k")]
                    )
                    self.assertEqual(moves(yard, position), naive.moves(yard, position))

    def test_none_where_it_is_won_by_a_goal(self):
        yard = plain_yard()
        for turn in (0, 1):
            position = placed(yard, turn, [((3, 0), 0, "k"), ((1, 1), 1, "k")])
            self.assertEqual(moves(yard, position), [])
            position = placed(yard, turn, [((1, 2), 0, "k"), ((0, 0), 1, "k")])
            self.assertEqual(moves(yard, position), [])

    def test_none_where_a_side_has_no_crown(self):
        yard = plain_yard()
        for turn in (0, 1):
            for side in (0, 1):
                pieces = [((1, 1), side, "k"), ((3, 1), 1 - side, "r"), ((1, 0), side, "r")]
                self.assertEqual(moves(yard, placed(yard, turn, pieces)), [])

    def test_none_where_a_side_cannot_move(self):
        for stuck in ("lost", "drawn"):
            yard = bare(2, 2, {"p": ([(1, 0)], [], 0)}, stuck=stuck)
            position = placed(yard, 0, [((0, 0), 0, "k"), ((1, 0), 0, "p"), ((1, 1), 1, "k")])
            self.assertEqual(moves(yard, position), [])

    def test_what_was_told_may_be_changed(self):
        yard = plain_yard()
        position = placed(yard, 0, [((1, 1), 0, "k"), ((3, 1), 1, "k"), ((1, 0), 0, "r")])
        told = moves(yard, position)
        whole = list(told)
        told.clear()
        self.assertEqual(moves(yard, position), whole)
        self.assertEqual(fields(yard), parts())


class AfterTest(unittest.TestCase):
    def test_the_piece_on_its_new_cell(self):
        yard = plain_yard()
        position = placed(yard, 0, [((1, 0), 0, "k"), ((1, 2), 1, "k"), ((3, 1), 1, "p")])
        wanted = (1, (((0, 0), 0, "k"), ((1, 2), 1, "k"), ((3, 1), 1, "p")))
        self.assertEqual(after(yard, position, ((1, 0), (0, 0))), wanted)
        wanted = (1, (((1, 2), 1, "k"), ((2, 1), 0, "k"), ((3, 1), 1, "p")))
        self.assertEqual(after(yard, position, ((1, 0), (2, 1))), wanted)

    def test_a_taken_piece_is_gone(self):
        yard = plain_yard()
        position = placed(yard, 1, [((1, 0), 0, "k"), ((1, 2), 1, "k"), ((1, 1), 0, "p")])
        wanted = (0, (((1, 0), 0, "k"), ((1, 1), 1, "k")))
        self.assertEqual(after(yard, position, ((1, 2), (1, 1))), wanted)

    def test_a_taken_crown_is_gone(self):
        yard = plain_yard()
        position = placed(yard, 0, [((1, 0), 0, "k"), ((1, 1), 1, "k"), ((1, 2), 1, "r")])
        wanted = (1, (((1, 1), 0, "k"), ((1, 2), 1, "r")))
        self.assertEqual(after(yard, position, ((1, 0), (1, 1))), wanted)

    def test_as_the_document_tells(self):
        for yard in small_yards():
            for position in chance_positions(yard, 20, 8, 3):
                for move in moves(yard, position):
                    told = after(yard, position, move)
                    self.assertEqual(told, naive.after(position, move))
                    self.assertIs(is_position(yard, told), True)
                    self.assertEqual(told[0], 1 - position[0])


class WaysTest(unittest.TestCase):
    def test_a_leap(self):
        yard = plain_yard()
        position = placed(yard, 0, [((1, 1), 0, "k"), ((3, 1), 1, "k"), ((1, 0), 0, "r")])
        self.assertEqual(shown_by(yard, position, ((1, 1), (2, 0))), [("leap", (1, -1), 1)])
        self.assertEqual(shown_by(yard, position, ((1, 0), (3, 1))), [("leap", (2, 1), 1)])

    def test_a_ride_with_its_count(self):
        yard = bare(1, 5, {"r": ([], [(0, 1)], 0)})
        position = placed(yard, 0, [((0, 0), 0, "r"), ((0, 3), 1, "k"), ((0, 4), 0, "k")])
        for count in (1, 2, 3):
            self.assertEqual(shown_by(yard, position, ((0, 0), (0, count))), [("ride", (0, 1), count)])

    def test_every_way_rising(self):
        yard = bare(1, 5, {"q": ([(0, 1), (0, 2)], [(0, 1), (0, 2)], 0)})
        position = placed(yard, 0, [((0, 0), 0, "q"), ((0, 3), 0, "k"), ((0, 4), 1, "k")])
        wanted = [("leap", (0, 2), 1), ("ride", (0, 1), 2), ("ride", (0, 2), 1)]
        self.assertEqual(shown_by(yard, position, ((0, 0), (0, 2))), wanted)
        self.assertEqual(shown_by(yard, position, ((0, 0), (0, 4))), [("ride", (0, 2), 2)])

    def test_turned_for_side_1(self):
        yard = bare(1, 5, {"q": ([(0, -2), (0, 4)], [(0, -2), (0, -1)], 0)})
        position = placed(yard, 1, [((0, 0), 1, "q"), ((0, 3), 1, "k"), ((0, 4), 0, "k")])
        wanted = [("leap", (0, 2), 1), ("ride", (0, 1), 2), ("ride", (0, 2), 1)]
        self.assertEqual(shown_by(yard, position, ((0, 0), (0, 2))), wanted)

    def test_as_the_document_tells(self):
        for yard in small_yards():
            for position in chance_positions(yard, 20, 8, 4):
                for move in moves(yard, position):
                    self.assertEqual(shown_by(yard, position, move), naive.ways(yard, position, *move))

    def test_what_was_told_may_be_changed(self):
        yard = plain_yard()
        position = placed(yard, 0, [((1, 1), 0, "k"), ((3, 1), 1, "k")])
        shown_by(yard, position, ((1, 1), (2, 0))).clear()
        self.assertEqual(shown_by(yard, position, ((1, 1), (2, 0))), [("leap", (1, -1), 1)])
        self.assertEqual(fields(yard), parts())


class RefusalsTest(unittest.TestCase):
    def setUp(self):
        self.yard = plain_yard()
        self.position = placed(self.yard, 0, [((1, 0), 0, "k"), ((1, 1), 0, "p"), ((3, 1), 1, "k")])
        self.ended = placed(self.yard, 0, [((3, 0), 0, "k"), ((1, 1), 1, "k")])
        self.move = ((1, 0), (2, 0))

    def refused(self, error, position, move):
        for asked in (after, shown_by):
            with self.subTest(asked=asked.__name__, position=position, move=move):
                with self.assertRaises(error) as taken:
                    asked(self.yard, position, move)
                self.assertIs(type(taken.exception), error)
                self.assertIsInstance(taken.exception, YardError)
                self.assertEqual(fields(self.yard), parts())

    def test_the_move_itself_is_taken(self):
        after(self.yard, self.position, self.move)
        shown_by(self.yard, self.position, self.move)

    def test_bad_positions(self):
        for position in [(2, self.position[1]), (0, ()), (0, self.position[1][::-1]), (0, (((1, 1), 0, "p"),))]:
            self.refused(BadPosition, position, self.move)
            with self.assertRaises(BadPosition):
                moves(self.yard, position)

    def test_bad_position_comes_ahead_of_ended(self):
        # It would have ended, were it a position: its pieces don't rise.
        self.refused(BadPosition, (0, self.ended[1][::-1]), self.move)
        self.refused(BadPosition, (0, (((3, 0), 0, "k"), ((3, 3), 1, "k"))), self.move)

    def test_ended_comes_ahead_of_no_move(self):
        self.refused(Ended, self.ended, ((9, 9), (9, 9)))
        self.refused(Ended, self.ended, ((3, 0), (3, 1)))
        self.refused(Ended, placed(self.yard, 0, [((1, 0), 0, "k"), ((1, 1), 1, "r")]), ((1, 0), (1, 1)))
        lonely = placed(self.yard, 1, [((1, 0), 0, "k")])
        self.refused(Ended, lonely, ((1, 0), (1, 1)))

    def test_ended_where_the_side_cannot_move(self):
        for stuck in ("lost", "drawn"):
            yard = bare(2, 2, {}, stuck=stuck)
            position = placed(yard, 0, [((0, 0), 0, "k"), ((1, 1), 1, "k")])
            for asked in (after, shown_by):
                with self.assertRaises(Ended):
                    asked(yard, position, ((0, 0), (0, 1)))

    def test_no_moves(self):
        for move in [
            ((1, 0), (1, 1)),
            ((0, 0), (1, 0)),
            ((1, 2), (2, 1)),
            ((3, 1), (3, 0)),
            ((1, 0), (3, 0)),
            ((1, 0), (1, 0)),
            ((1, 0), (0, 1)),
            ((1, 1), (0, 1)),
            ((1, 0), (1, -1)),
            ((-1, 0), (1, 0)),
            ((4, 0), (3, 0)),
            ((9, 9), (9, 9)),
            ((1, 0), (10 ** 5000, 0)),
            ((-(10 ** 5000), 0), (1, 0)),
        ]:
            self.refused(NoMove, self.position, move)

    def test_every_pair_of_cells_about_the_board(self):
        cells = [(r, c) for r in range(-1, 5) for c in range(-1, 4)]
        allowed = moves(self.yard, self.position)
        for start in cells:
            for end in cells:
                if (start, end) not in allowed:
                    with self.assertRaises(NoMove):
                        after(self.yard, self.position, (start, end))
                    with self.assertRaises(NoMove):
                        shown_by(self.yard, self.position, (start, end))

    def test_what_is_handed_in_stays(self):
        kept = copy.deepcopy((self.position, self.move))
        moves(self.yard, self.position)
        after(self.yard, self.position, self.move)
        shown_by(self.yard, self.position, self.move)
        self.assertEqual((self.position, self.move), kept)
        self.assertEqual(fields(self.yard), parts())

    def test_a_yard_changed_between_two_askings(self):
        handed = parts()
        yard = Yard(**handed)
        whole = moves(yard, self.position)
        handed["kinds"]["k"][0].clear()
        handed["holes"].append((1, 1))
        self.assertEqual(moves(yard, self.position), whole)
        self.assertEqual(king_steps()[0], (-1, -1))
        self.assertEqual(rook_steps()[0], (-1, 0))


if __name__ == "__main__":
    unittest.main()
