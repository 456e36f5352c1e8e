import unittest

from pieceyard.ends import verdict
from pieceyard.errors import BadPosition
from pieceyard.positions import placed
from pieceyard.yards import Yard
from tests import naive
from tests.samples import chance_positions, fields, king_steps, parts, plain_yard, small_yards, yard_of


class VerdictTest(unittest.TestCase):
    def told(self, yard, turn, pieces, wanted):
        with self.subTest(turn=turn, pieces=pieces):
            told = verdict(yard, placed(yard, turn, pieces))
            self.assertEqual(told, wanted)
            self.assertIs(type(told), type(wanted))

    def test_it_goes_on(self):
        for turn in (0, 1):
            self.told(plain_yard(), turn, [((1, 0), 0, "k"), ((1, 2), 1, "k")], None)

    def test_a_side_without_a_crown_has_lost(self):
        for turn in (0, 1):
            self.told(plain_yard(), turn, [((1, 0), 0, "k"), ((1, 2), 1, "r")], 0)
            self.told(plain_yard(), turn, [((1, 0), 0, "r"), ((1, 2), 1, "k")], 1)
            self.told(plain_yard(), turn, [((1, 0), 0, "k")], 0)
            self.told(plain_yard(), turn, [((1, 0), 1, "k")], 1)

    def test_one_of_several_crowns_is_enough(self):
        pieces = [((1, 0), 0, "k"), ((1, 1), 0, "k"), ((1, 2), 1, "k")]
        self.told(plain_yard(), 0, pieces, None)
        self.told(plain_yard(), 0, pieces[1:], None)

    def test_a_crown_on_a_goal(self):
        for turn in (0, 1):
            for goal in [(3, 0), (3, 2)]:
                self.told(plain_yard(), turn, [(goal, 0, "k"), ((1, 2), 1, "k")], 0)
            self.told(plain_yard(), turn, [((0, 0), 1, "k"), ((1, 2), 0, "k")], 1)

    def test_the_second_crown_on_a_goal(self):
        self.told(plain_yard(), 1, [((1, 0), 0, "k"), ((3, 0), 0, "k"), ((1, 2), 1, "k")], 0)

    def test_a_crown_on_the_other_sides_goal(self):
        for turn in (0, 1):
            self.told(plain_yard(), turn, [((0, 0), 0, "k"), ((1, 2), 1, "k")], None)
            self.told(plain_yard(), turn, [((1, 2), 0, "k"), ((3, 0), 1, "k")], None)

    def test_another_piece_on_a_goal(self):
        for turn in (0, 1):
            self.told(plain_yard(), turn, [((1, 0), 0, "k"), ((3, 0), 0, "r"), ((1, 2), 1, "k")], None)

    def test_no_crown_comes_ahead_of_a_goal(self):
        # Side 1's crown is gone, and side 0's stands on its goal: nothing else than that side 0 has won.
        # Side 0's crown is gone: side 1 has won, whatever stands on side 0's goals.
        yard = yard_of({"goals": ([(3, 0)], [(3, 0)])})
        for turn in (0, 1):
            self.told(yard, turn, [((3, 0), 0, "k"), ((1, 2), 1, "r")], 0)
            self.told(yard, turn, [((3, 0), 1, "k"), ((1, 2), 0, "r")], 1)
            self.told(yard, turn, [((3, 0), 0, "r"), ((1, 2), 1, "k")], 1)

    def test_no_crown_comes_ahead_of_no_move(self):
        yard = Yard(1, 3, [], {"k": ([], [], 1), "p": ([], [], 0)}, ([], []), "drawn")
        for turn in (0, 1):
            self.told(yard, turn, [((0, 0), 0, "k"), ((0, 2), 1, "p")], 0)
            self.told(yard, turn, [((0, 0), 0, "p"), ((0, 2), 1, "k")], 1)

    def test_both_crowns_on_goals(self):
        pieces = [((3, 0), 0, "k"), ((0, 0), 1, "k")]
        self.told(plain_yard(), 0, pieces, 1)
        self.told(plain_yard(), 1, pieces, 0)

    def test_a_goal_comes_ahead_of_no_move(self):
        for stuck in ("lost", "drawn"):
            yard = Yard(1, 3, [], {"k": ([], [], 1)}, ([(0, 0)], [(0, 2)]), stuck)
            for turn in (0, 1):
                self.told(yard, turn, [((0, 0), 0, "k"), ((0, 1), 1, "k")], 0)
                self.told(yard, turn, [((0, 1), 0, "k"), ((0, 2), 1, "k")], 1)

    def test_no_move(self):
        for stuck, wanted in [("lost", [1, 0]), ("drawn", ["drawn", "drawn"])]:
            yard = Yard(1, 3, [], {"k": ([], [], 1)}, ([], []), stuck)
            for turn in (0, 1):
                self.told(yard, turn, [((0, 0), 0, "k"), ((0, 2), 1, "k")], wanted[turn])

    def test_the_side_to_move_alone_must_be_able_to(self):
        yard = Yard(1, 3, [], {"k": ([], [], 1), "p": ([(0, 1)], [], 0)}, ([], []), "lost")
        pieces = [((0, 0), 0, "p"), ((0, 1), 1, "k"), ((0, 2), 0, "k")]
        self.told(yard, 0, pieces, None)
        self.told(yard, 1, pieces, 0)

    def test_own_pieces_and_holes_in_every_way(self):
        yard = Yard(2, 2, [(1, 1)], {"k": (king_steps(), [], 1), "p": ([], [], 0)}, ([], []), "drawn")
        pieces = [((0, 0), 0, "k"), ((0, 1), 0, "p"), ((1, 0), 1, "k")]
        self.told(yard, 0, pieces, None)
        self.told(yard, 1, pieces, None)
        yard = Yard(2, 3, [(1, 1)], {"k": (king_steps(), [], 1), "p": ([], [], 0)}, ([], []), "drawn")
        pieces = [((0, 0), 0, "k"), ((0, 1), 0, "p"), ((1, 0), 0, "p"), ((1, 2), 1, "k")]
        self.told(yard, 0, pieces, "drawn")
        self.told(yard, 1, pieces, None)

    def test_as_the_document_tells(self):
        for yard in small_yards():
            for position in chance_positions(yard, 80, 9, 5):
                with self.subTest(yard=fields(yard), position=position):
                    self.assertEqual(verdict(yard, position), naive.verdict(yard, position))

    def test_bad_positions(self):
        yard = plain_yard()
        for position in [
            (2, (((1, 0), 0, "k"),)),
            (0, ()),
            (0, (((1, 0), 0, "r"),)),
            (0, (((1, 2), 0, "k"), ((1, 0), 1, "k"))),
            (0, (((0, 1), 0, "k"),)),
            (0, (((3, 3), 0, "k"),)),
        ]:
            with self.assertRaises(BadPosition):
                verdict(yard, position)
        self.assertEqual(fields(yard), parts())


if __name__ == "__main__":
    unittest.main()
