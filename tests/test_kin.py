import copy
import unittest

from pieceyard.ends import verdict
from pieceyard.errors import BadPosition, NoKin, NoMove
from pieceyard.kin import bears, first_kin, kin, move_over, taken_over
from pieceyard.moves import after, moves
from pieceyard.positions import is_position, placed
from pieceyard.yards import Yard
from tests import naive
from tests.samples import (
    chance_positions, chess_yard, fields, king_steps, parts, plain_yard, race_yard, rook_steps, small_yards,
    square_yard,
)

ALL = [
    "turn0", "turn1", "turn2", "turn3", "flip0", "flip1", "flip2", "flip3",
    "xturn0", "xturn1", "xturn2", "xturn3", "xflip0", "xflip1", "xflip2", "xflip3",
]

NO_NAMES = ["", "turn", "turn4", "flip4", "x", "xx", "xxturn0", "Turn0", "turn00", "turn-1", " turn0", "turn0 ",
            "turn0\n", "0turn", "flip", "xturn", "turn0x", "flop0", "turn\t0", "~"]

KINDS = {"k": (king_steps(), [], 1)}


def bare(height, width, holes=None, kinds=None, goals=None):
    return Yard(height, width, holes or [], kinds or KINDS, goals or ([], []), "lost")


class BearsTest(unittest.TestCase):
    def without(self, yard, lost):
        self.assertEqual(bears(yard), [name for name in ALL if name not in lost])

    def only(self, yard, names):
        self.assertEqual(bears(yard), names)

    def test_all_sixteen_in_their_order(self):
        self.only(square_yard(), ALL)
        self.only(bare(1, 1), ALL)
        self.only(bare(5, 5), ALL)

    def test_every_yard_bears_turn0(self):
        for yard in small_yards():
            self.assertEqual(bears(yard)[0], "turn0")
        crooked = bare(3, 3, [(0, 1)], {"k": ([(1, 2)], [(2, -1)], 1)}, ([(2, 2)], [(1, 0)]))
        self.only(crooked, ["turn0"])

    def test_a_height_that_is_not_the_width(self):
        odd = [name for name in ALL if name[-1] in "13"]
        self.without(bare(2, 3), odd)
        self.without(bare(5, 1), odd)
        self.without(bare(1, 2), odd)

    def test_a_hole_takes_names_away(self):
        corner = ["turn0", "flip3", "xturn0", "xflip3"]
        self.only(bare(3, 3, [(0, 0)]), corner)
        self.assertEqual(naive.bears(bare(3, 3, [(0, 0)])), corner)
        self.only(bare(3, 3, [(0, 1)]), ["turn0", "flip0", "xturn0", "xflip0"])
        self.only(bare(2, 3, [(0, 0), (1, 2)]), ["turn0", "turn2", "xturn0", "xturn2"])

    def test_leaps_take_names_away(self):
        self.only(bare(3, 3, None, {"k": ([(1, 0)], [], 1)}), ["turn0", "flip0", "xturn2", "xflip2"])
        self.only(bare(3, 3, None, {"k": ([(1, 0)], [], 1), "r": ([], rook_steps(), 0)}),
                  ["turn0", "flip0", "xturn2", "xflip2"])
        self.only(bare(3, 3, None, {"k": ([(1, 2)], [], 1)}), ["turn0", "xturn2"])

    def test_rides_take_names_away(self):
        self.only(bare(3, 3, None, {"k": ([], [(0, 1)], 1)}), ["turn0", "flip2", "xturn2", "xflip0"])
        self.only(bare(3, 3, None, {"k": (king_steps(), [(2, 1)], 1)}), ["turn0", "xturn2"])

    def test_leaps_are_not_taken_for_rides(self):
        self.only(bare(3, 3, None, {"k": ([(1, 0)], [(-1, 0)], 1)}), ["turn0", "flip0", "xturn2", "xflip2"])

    def test_kinds_are_not_taken_for_one_another(self):
        kinds = {"k": ([(1, 0)], [], 1), "r": ([(-1, 0)], [], 0)}
        self.only(bare(3, 3, None, kinds), ["turn0", "flip0", "xturn2", "xflip2"])

    def test_goals_take_names_away(self):
        self.only(bare(3, 3, None, None, ([(0, 1)], [])), ["turn0", "flip0"])
        self.only(bare(3, 3, None, None, ([], [(0, 1)])), ["turn0", "flip0"])
        self.only(bare(3, 3, None, None, ([(1, 1)], [])), ALL[:8])

    def test_goals_exchanged(self):
        self.only(bare(3, 3, None, None, ([(0, 1)], [(2, 1)])), ["turn0", "flip0", "xturn2", "xflip2"])
        self.only(bare(3, 3, None, None, ([(1, 1)], [(1, 1)])), ALL)
        self.only(bare(3, 3, None, None, ([(0, 1)], [(1, 0)])), ["turn0", "xflip3"])
        self.only(race_yard(), ["turn0", "flip0", "xturn2", "xflip2"])

    def test_goals_must_go_both_ways(self):
        # A quarter turn takes side 0's goal to side 1's, but side 1's goal elsewhere.
        yard = bare(3, 3, None, None, ([(0, 0)], [(0, 2)]))
        self.only(yard, ["turn0", "xflip0"])

    def test_as_the_document_tells(self):
        for yard in small_yards():
            self.assertEqual(bears(yard), naive.bears(yard))
        for height in range(1, 5):
            for width in range(1, 5):
                for hole in [(0, 0), (0, width - 1), (height - 1, 0), (height // 2, width // 2)]:
                    for kinds in [KINDS, {"k": ([(-1, 1), (1, -1)], [(0, 1)], 1)}, {"k": ([(1, 0)], [(1, 0)], 1)}]:
                        yard = bare(height, width, [hole], kinds)
                        self.assertEqual(bears(yard), naive.bears(yard))

    def test_a_list_of_ones_own(self):
        yard = plain_yard()
        told = bears(yard)
        whole = list(told)
        told.clear()
        self.assertEqual(bears(yard), whole)
        bears(square_yard()).clear()
        self.assertEqual(bears(square_yard()), ALL)
        self.assertEqual(fields(yard), parts())


class TakenOverTest(unittest.TestCase):
    def test_each_name(self):
        # One crooked corner piece, followed round the board: told by hand.
        yard = bare(3, 3)
        position = (0, (((0, 1), 0, "k"), ((2, 2), 1, "k")))
        wanted = {
            "turn0": [(0, 1), (2, 2)], "turn1": [(1, 2), (2, 0)], "turn2": [(2, 1), (0, 0)],
            "turn3": [(1, 0), (0, 2)], "flip0": [(0, 1), (2, 0)], "flip1": [(1, 2), (0, 0)],
            "flip2": [(2, 1), (0, 2)], "flip3": [(1, 0), (2, 2)],
        }
        for name, (own, other) in wanted.items():
            with self.subTest(name=name):
                pieces = tuple(sorted([(own, 0, "k"), (other, 1, "k")]))
                self.assertEqual(taken_over(yard, name, position), (0, pieces))
                pieces = tuple(sorted([(own, 1, "k"), (other, 0, "k")]))
                self.assertEqual(taken_over(yard, "x" + name, position), (1, pieces))
                self.assertEqual(move_over(yard, name, ((0, 1), (2, 2))), (own, other))
                self.assertEqual(move_over(yard, "x" + name, ((2, 2), (0, 1))), (other, own))

    def test_boards_that_are_no_squares(self):
        yard = bare(2, 4)
        position = (1, (((0, 1), 0, "k"), ((1, 3), 1, "k")))
        self.assertEqual(taken_over(yard, "turn2", position), (1, (((0, 0), 1, "k"), ((1, 2), 0, "k"))))
        self.assertEqual(taken_over(yard, "flip0", position), (1, (((0, 2), 0, "k"), ((1, 0), 1, "k"))))
        self.assertEqual(taken_over(yard, "flip2", position), (1, (((0, 3), 1, "k"), ((1, 1), 0, "k"))))
        self.assertEqual(taken_over(yard, "xflip2", position), (0, (((0, 3), 0, "k"), ((1, 1), 1, "k"))))

    def test_as_the_document_tells(self):
        for yard in small_yards() + [chess_yard(4, 4, "lost")]:
            for position in chance_positions(yard, 10, 6, 11):
                for name in bears(yard):
                    told = taken_over(yard, name, position)
                    self.assertEqual(told, naive.position_over(yard, name, position))
                    self.assertIs(is_position(yard, told), True)

    def test_moves_and_verdicts_go_along(self):
        for yard in small_yards():
            for position in chance_positions(yard, 10, 6, 12):
                for name in bears(yard):
                    over = taken_over(yard, name, position)
                    wanted = sorted(move_over(yard, name, move) for move in moves(yard, position))
                    self.assertEqual(moves(yard, over), wanted)
                    for move in moves(yard, position):
                        behind = taken_over(yard, name, after(yard, position, move))
                        self.assertEqual(after(yard, over, move_over(yard, name, move)), behind)
                    told = verdict(yard, position)
                    if told in (0, 1) and name.startswith("x"):
                        told = 1 - told
                    self.assertEqual(verdict(yard, over), told)

    def test_no_kin(self):
        yard = plain_yard()
        position = placed(yard, 0, [((1, 0), 0, "k"), ((1, 2), 1, "k")])
        borne = bears(yard)
        self.assertEqual(borne, ["turn0"])
        for name in [name for name in ALL if name not in borne] + NO_NAMES:
            with self.subTest(name=name):
                with self.assertRaises(NoKin):
                    taken_over(yard, name, position)
                with self.assertRaises(NoKin):
                    move_over(yard, name, ((1, 0), (1, 1)))
        for name in NO_NAMES:
            with self.assertRaises(NoKin):
                taken_over(square_yard(), name, (0, (((0, 0), 0, "k"),)))

    def test_bad_position_comes_ahead_of_no_kin(self):
        yard = plain_yard()
        for position in [(2, (((1, 0), 0, "k"),)), (0, ()), (0, (((1, 2), 0, "k"), ((1, 0), 1, "k")))]:
            for name in ["turn0", "turn1", "nothing"]:
                with self.assertRaises(BadPosition):
                    taken_over(yard, name, position)

    def test_no_kin_comes_ahead_of_no_move(self):
        with self.assertRaises(NoKin):
            move_over(plain_yard(), "turn1", ((9, 9), (0, 0)))
        with self.assertRaises(NoKin):
            move_over(plain_yard(), "turned", ((0, 0), (-1, 0)))

    def test_no_move_off_the_board(self):
        yard = bare(2, 4)
        for cell in [(-1, 0), (0, -1), (2, 0), (0, 4), (3, 1), (9, 9), (10 ** 5000, 0), (0, -(10 ** 5000))]:
            for name in ["turn0", "xflip2"]:
                with self.assertRaises(NoMove):
                    move_over(yard, name, (cell, (0, 0)))
                with self.assertRaises(NoMove):
                    move_over(yard, name, ((0, 0), cell))

    def test_any_two_cells_of_the_board(self):
        yard = square_yard()
        # A hole is a cell of the board, and the two need be no move of any position.
        self.assertEqual(move_over(yard, "turn1", ((1, 1), (0, 0))), ((1, 1), (0, 2)))
        self.assertEqual(move_over(yard, "flip0", ((0, 0), (1, 1))), ((0, 2), (1, 1)))
        self.assertEqual(move_over(yard, "turn2", ((0, 0), (0, 0))), ((2, 2), (2, 2)))
        yard = plain_yard()
        self.assertEqual(move_over(yard, "turn0", ((0, 1), (2, 2))), ((0, 1), (2, 2)))

    def test_two_names_one_behind_the_other(self):
        yard = bare(3, 3)
        probes = chance_positions(yard, 3, 4, 13)
        for one in ALL:
            for other in ALL:
                both = [taken_over(yard, other, taken_over(yard, one, probe)) for probe in probes]
                alike = [name for name in ALL if [taken_over(yard, name, probe) for probe in probes] == both]
                self.assertEqual(len(alike), 1, (one, other))


class KinTest(unittest.TestCase):
    def test_by_hand(self):
        yard = race_yard()
        position = placed(yard, 0, [((1, 0), 0, "c"), ((2, 1), 1, "c")])
        wanted = [
            (0, (((1, 0), 0, "c"), ((2, 1), 1, "c"))),
            (0, (((1, 2), 0, "c"), ((2, 1), 1, "c"))),
            (1, (((1, 1), 0, "c"), ((2, 0), 1, "c"))),
            (1, (((1, 1), 0, "c"), ((2, 2), 1, "c"))),
        ]
        for place in wanted:
            self.assertEqual(kin(yard, place), wanted)
            self.assertEqual(first_kin(yard, place), wanted[0])
        self.assertIn(position, wanted)

    def test_each_once(self):
        yard = bare(3, 3)
        position = placed(yard, 0, [((1, 1), 0, "k")])
        self.assertEqual(kin(yard, position), [(0, (((1, 1), 0, "k"),)), (1, (((1, 1), 1, "k"),))])
        self.assertEqual(first_kin(yard, (1, (((1, 1), 1, "k"),))), position)

    def test_rising_and_the_same_for_all(self):
        for yard in small_yards():
            for position in chance_positions(yard, 8, 5, 14):
                told = kin(yard, position)
                self.assertIn(position, told)
                self.assertEqual(told, sorted(set(told)))
                wanted = {naive.position_over(yard, name, position) for name in naive.bears(yard)}
                self.assertEqual(set(told), wanted)
                for other in told:
                    self.assertEqual(kin(yard, other), told)
                    self.assertEqual(first_kin(yard, other), told[0])

    def test_bad_positions(self):
        for position in [(2, (((1, 0), 0, "k"),)), (0, ()), (0, (((1, 2), 0, "k"), ((1, 0), 1, "k")))]:
            for asked in (kin, first_kin):
                with self.assertRaises(BadPosition):
                    asked(plain_yard(), position)

    def test_nothing_hangs_together(self):
        yard = race_yard()
        kept = copy.deepcopy(fields(yard))
        position = placed(yard, 0, [((1, 0), 0, "c"), ((2, 1), 1, "c")])
        told = kin(yard, position)
        whole = list(told)
        told.clear()
        self.assertEqual(kin(yard, position), whole)
        taken_over(yard, "xturn2", position)
        move_over(yard, "xturn2", ((0, 0), (1, 1)))
        self.assertEqual(fields(yard), kept)


if __name__ == "__main__":
    unittest.main()
