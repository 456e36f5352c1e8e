import copy
import unittest

from pieceyard.errors import BadPosition, BadSide, TooMany
from pieceyard.helps import least_positions, together
from pieceyard.kin import bears, move_over, taken_over
from pieceyard.positions import placed
from pieceyard.problems import sound
from tests import naive
from tests.samples import (
    chance_positions, chess_yard, fields, no_two_are_one, race, race_yard, small_yards,
)

FAR = 10 ** 5000


class TogetherTest(unittest.TestCase):
    def test_as_the_document_tells(self):
        seen = set()
        for yard in small_yards():
            for position in chance_positions(yard, 6, 4, 51):
                for side in (0, 1):
                    for many in (0, 1, 2, 3):
                        with self.subTest(yard=fields(yard), position=position, side=side, many=many):
                            told = together(yard, position, side, many)
                            self.assertEqual(told, naive.together(yard, position, side, many))
                            self.assertTrue(no_two_are_one(told))
                            seen.add(told and told[0])
        self.assertEqual(seen, {None, 0, 1, 2, 3})

    def test_of_four_moves(self):
        # Side 0 is to move and has other moves to wait with; side 1 has two steps to go.
        yard = race_yard()
        position = placed(yard, 0, [((0, 0), 0, "c"), ((1, 1), 0, "p"), ((2, 2), 1, "c")])
        told = together(yard, position, 1, 4)
        self.assertEqual((told[0], len(told[1])), (4, 80))
        self.assertEqual(told, naive.together(yard, position, 1, 4))
        self.assertIsNone(together(yard, position, 1, 3))
        self.assertEqual(told[1], sorted(told[1]))

    def test_of_no_moves(self):
        for many in (0, 1, 4):
            self.assertEqual(together(race_yard(), race(0, (3, 0), (2, 2)), 0, many), (0, [[]]))
            self.assertIsNone(together(race_yard(), race(0, (3, 0), (2, 2)), 1, many))

    def test_the_least_number_alone(self):
        told = together(race_yard(), race(0, (2, 1), (2, 2)), 0, 4)
        wanted = [[((2, 1), (3, 0))], [((2, 1), (3, 1))], [((2, 1), (3, 2))]]
        self.assertEqual(told, (1, wanted))

    def test_the_other_side_helps(self):
        # Alone it wins nothing: the crown of the other side has to step where it is taken.
        yard = chess_yard(1, 5, "lost")
        position = placed(yard, 0, [((0, 0), 0, "k"), ((0, 3), 1, "k")])
        told = together(yard, position, 0, 4)
        self.assertEqual(told, naive.together(yard, position, 0, 4))
        self.assertEqual(told, (3, [[((0, 0), (0, 1)), ((0, 3), (0, 2)), ((0, 1), (0, 2))]]))

    def test_taken_over(self):
        yard = race_yard()
        for position in chance_positions(yard, 6, 3, 52):
            for name in bears(yard):
                for side in (0, 1):
                    told = together(yard, position, side, 3)
                    other = 1 - side if name.startswith("x") else side
                    over = together(yard, taken_over(yard, name, position), other, 3)
                    if told is None:
                        self.assertIsNone(over)
                    else:
                        taken = sorted([move_over(yard, name, move) for move in line] for line in told[1])
                        self.assertEqual(over, (told[0], taken))

    def test_refusals_in_their_order(self):
        yard = race_yard()
        position = race(0, (2, 0), (2, 2))
        for side in (0, 2):
            for many in (0, 5):
                with self.assertRaises(BadPosition):
                    together(yard, (0, position[1][::-1]), side, many)
        for side in (-1, 2, 3, FAR, -FAR):
            for many in (0, -1, 5, FAR):
                with self.assertRaises(BadSide):
                    together(yard, position, side, many)
        for place in (position, race(0, (3, 0), (2, 2))):
            for many in (-1, 5, 6, 1000, FAR, -FAR):
                for side in (0, 1):
                    with self.assertRaises(TooMany):
                        together(yard, place, side, many)
        for many in (0, 4):
            together(yard, position, 1, many)

    def test_what_was_told_may_be_changed(self):
        position = race(0, (1, 0), (2, 2))
        told = together(race_yard(), position, 0, 4)
        whole = copy.deepcopy(told)
        for line in told[1]:
            line.clear()
        told[1].clear()
        self.assertEqual(together(race_yard(), position, 0, 4), whole)


class LeastPositionsTest(unittest.TestCase):
    def test_as_the_document_tells(self):
        seen = set()
        for yard in small_yards():
            for position in chance_positions(yard, 25, 5, 53):
                for many in (1, 3):
                    if naive.verdict(yard, position) is None and sound(yard, position, many):
                        told = least_positions(yard, position, many)
                        self.assertEqual(told, naive.least_positions(yard, position, many))
                        seen.add((told == [position], len(told) > 1))
        self.assertLessEqual({(True, False), (False, False)}, seen)

    def test_several_of_the_same_number(self):
        yard = chess_yard(3, 3, "lost")
        kings = [((0, 2), 1, "k"), ((1, 2), 0, "k"), ((2, 2), 1, "k")]
        rooks = [((0, 1), 0, "r"), ((2, 0), 0, "r")]
        position = placed(yard, 0, kings + rooks)
        wanted = sorted([placed(yard, 0, kings + rooks[:1]), placed(yard, 0, kings + rooks[1:])])
        self.assertEqual(least_positions(yard, position, 3), wanted)
        for place in wanted:
            self.assertEqual(least_positions(yard, place, 3), [place])

    def test_two_taken_away_at_once(self):
        # The crown's ways to its goals are barred by two of its own, and the third takes the other crown.
        # Without the third there is no key, without one of the two there are two: but without both it is sound.
        yard = race_yard()
        crowns = [((2, 2), 0, "c"), ((1, 0), 1, "c")]
        others = [((1, 2), 0, "p"), ((3, 1), 0, "p"), ((3, 2), 0, "p")]
        position = placed(yard, 0, crowns + others)
        for gone in others:
            left = placed(yard, 0, crowns + [piece for piece in others if piece != gone])
            self.assertIs(sound(yard, left, 1), False)
        told = least_positions(yard, position, 1)
        self.assertEqual(told, naive.least_positions(yard, position, 1))
        self.assertEqual(told, [placed(yard, 0, crowns + others[1:2]), placed(yard, 0, crowns + others[2:])])

    def test_crowns_are_never_taken_away(self):
        for yard in small_yards():
            crowns = [kind for kind in yard.kinds if yard.kinds[kind][2] == 1]
            for position in chance_positions(yard, 25, 5, 54):
                if naive.verdict(yard, position) is None and sound(yard, position, 1):
                    kept = [piece for piece in position[1] if piece[2] in crowns]
                    for place in least_positions(yard, position, 1):
                        self.assertEqual([piece for piece in place[1] if piece[2] in crowns], kept)
                        self.assertEqual(place[0], position[0])
                        self.assertIs(sound(yard, place, 1), True)

    def test_what_was_told_may_be_changed(self):
        yard = race_yard()
        position = placed(yard, 0, [((2, 0), 0, "c"), ((1, 1), 1, "c"), ((3, 0), 0, "p"), ((0, 0), 1, "p")])
        told = least_positions(yard, position, 1)
        told.clear()
        self.assertEqual(len(least_positions(yard, position, 1)), 1)
        self.assertEqual(fields(yard), fields(race_yard()))


if __name__ == "__main__":
    unittest.main()
