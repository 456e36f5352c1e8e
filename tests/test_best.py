import copy
import unittest

from pieceyard.best import best_line, best_lines, is_best, numbers
from pieceyard.errors import BadPosition, BadSide, Ended, NoMove, NoWin, TooMany
from pieceyard.kin import bears, move_over, taken_over
from pieceyard.lines import lines, walked
from pieceyard.positions import placed
from pieceyard.trees import least
from pieceyard.yards import Yard
from tests import naive
from tests.samples import (
    chance_positions, chess_yard, fields, no_two_are_one, race, race_yard, small_yards,
)

FAR = 10 ** 5000

# Won within 5 and 7 moves, on a board three by three of kings and rooks.
FIVE = (1, (((0, 1), 0, "k"), ((2, 0), 1, "k"), ((2, 2), 1, "r")))
SEVEN = (0, (((0, 1), 1, "k"), ((1, 0), 0, "r"), ((1, 2), 0, "k"), ((2, 2), 1, "k")))


def chess():
    return chess_yard(3, 3, "lost")


class BestLinesTest(unittest.TestCase):
    def test_as_the_document_tells(self):
        seen = set()
        for yard in small_yards():
            for position in chance_positions(yard, 10, 4, 61):
                for side in (0, 1):
                    number = naive.least(yard, position, side, 3)
                    if number is None:
                        with self.assertRaises(NoWin):
                            best_lines(yard, position, side, 3)
                        with self.assertRaises(NoWin):
                            best_line(yard, position, side, 3)
                    else:
                        self.check(yard, position, side, number)
                        seen.add((side, number, len(best_lines(yard, position, side, 3)) > 1))
        for side in (0, 1):
            for number in (1, 2, 3):
                self.assertIn((side, number, True), seen)
            self.assertIn((side, 0, False), seen)
            self.assertIn((side, 1, False), seen)

    def check(self, yard, position, side, number):
        wanted = naive.best_lines(yard, position, side, number)
        for most in (number, 3, 8):
            told = best_lines(yard, position, side, most)
            self.assertEqual(told, wanted)
            self.assertEqual(told, sorted(told))
            self.assertTrue(no_two_are_one(told))
            self.assertEqual(best_line(yard, position, side, most), told[0])

    def test_by_hand(self):
        self.assertEqual(best_lines(race_yard(), race(0, (3, 0), (2, 2)), 0, 0), [[]])
        self.assertEqual(best_line(race_yard(), race(0, (3, 0), (2, 2)), 0, 8), [])
        wanted = [[((2, 0), (3, 0))], [((2, 0), (3, 1))]]
        self.assertEqual(best_lines(race_yard(), race(0, (2, 0), (2, 2)), 0, 8), wanted)
        aside = placed(race_yard(), 0, [((2, 0), 0, "c"), ((2, 2), 1, "c"), ((3, 0), 0, "p")])
        self.assertEqual(best_lines(race_yard(), aside, 0, 1), [[((2, 0), (3, 1))]])

    def test_deep_ones(self):
        for position, side, number in ((FIVE, 1, 5), (SEVEN, 0, 7)):
            told = best_lines(chess(), position, side, 8)
            self.assertEqual(told, best_lines(chess(), position, side, number))
            self.assertEqual(told, sorted(told))
            self.assertEqual(best_line(chess(), position, side, 8), told[0])
            self.assertTrue(no_two_are_one(told))
            self.assertGreater(len(told), 1)
            for line in told[::7]:
                places = walked(chess(), position, line)
                wanted = [least(chess(), place, side, 8) for place in places]
                self.assertEqual(wanted, list(range(number, -1, -1)))

    def test_no_line_is_left_out(self):
        # Each line of three moves out of the five is the beginning of a best one just where the numbers sink.
        told = best_lines(chess(), FIVE, 1, 8)
        begun = {str(line[:3]) for line in told}
        for line in lines(chess(), FIVE, 3):
            sinks = numbers(chess(), FIVE, 1, 8, line) == [5, 4, 3, 2]
            self.assertEqual(str(line) in begun, sinks)

    def test_the_other_side_goes_the_longest_way(self):
        # Side 1 may step aside at once, or hold out two moves longer: the best lines hold out.
        for line in best_lines(chess(), SEVEN, 0, 8):
            self.assertEqual(len(line), 7)

    def test_taken_over(self):
        for yard in (race_yard(), chess()):
            for position in chance_positions(yard, 6, 3, 62):
                for side in (0, 1):
                    if least(yard, position, side, 4) is not None:
                        told = best_lines(yard, position, side, 4)
                        for name in bears(yard):
                            other = 1 - side if name.startswith("x") else side
                            over = taken_over(yard, name, position)
                            wanted = sorted([move_over(yard, name, move) for move in line] for line in told)
                            self.assertEqual(best_lines(yard, over, other, 4), wanted)

    def test_no_win(self):
        for most in range(7):
            for asked in (best_lines, best_line):
                with self.assertRaises(NoWin):
                    asked(chess(), SEVEN, 0, most)
        drawn = Yard(1, 3, [], {"k": ([], [], 1)}, ([], []), "drawn")
        position = placed(drawn, 0, [((0, 0), 0, "k"), ((0, 2), 1, "k")])
        for side in (0, 1):
            for asked in (best_lines, best_line):
                with self.assertRaises(NoWin):
                    asked(drawn, position, side, 8)
                with self.assertRaises(NoWin):
                    asked(race_yard(), race(side, (3, 0), (2, 2)), 1, 8)

    def test_what_was_told_may_be_changed(self):
        told = best_lines(race_yard(), race(0, (2, 0), (2, 2)), 0, 8)
        whole = copy.deepcopy(told)
        for line in told:
            line.clear()
        told.clear()
        best_line(race_yard(), race(0, (2, 0), (2, 2)), 0, 8).clear()
        self.assertEqual(best_lines(race_yard(), race(0, (2, 0), (2, 2)), 0, 8), whole)
        self.assertEqual(best_line(race_yard(), race(0, (2, 0), (2, 2)), 0, 8), whole[0])


class NumbersTest(unittest.TestCase):
    def test_as_the_document_tells(self):
        for yard in small_yards():
            for position in chance_positions(yard, 4, 3, 63):
                for side in (0, 1):
                    for line in (lines(yard, position, 2) + lines(yard, position, 1) + [[]])[::5]:
                        told = numbers(yard, position, side, 2, line)
                        self.assertEqual(told, naive.numbers(yard, position, side, 2, line))

    def test_of_no_moves(self):
        self.assertEqual(numbers(race_yard(), race(0, (3, 0), (2, 2)), 0, 0, []), [0])
        self.assertEqual(numbers(race_yard(), race(0, (3, 0), (2, 2)), 1, 8, []), [None])
        self.assertEqual(numbers(race_yard(), race(0, (2, 0), (2, 2)), 0, 8, []), [1])
        self.assertEqual(numbers(race_yard(), race(0, (2, 0), (2, 2)), 0, 0, []), [None])

    def test_of_best_ones_and_of_others(self):
        line = best_line(chess(), SEVEN, 0, 8)
        self.assertEqual(numbers(chess(), SEVEN, 0, 8, line), [7, 6, 5, 4, 3, 2, 1, 0])
        self.assertEqual(numbers(chess(), SEVEN, 0, 4, line), [None, None, None, 4, 3, 2, 1, 0])
        self.assertEqual(numbers(chess(), SEVEN, 1, 8, line), [None] * 8)
        wasted = [move for move in lines(chess(), SEVEN, 1) if move != line[:1]]
        for other in wasted:
            self.assertEqual(numbers(chess(), SEVEN, 0, 6, other), [None, None])

    def test_is_best(self):
        seen = set()
        for yard in small_yards():
            for position in chance_positions(yard, 10, 3, 64):
                for side in (0, 1):
                    number = least(yard, position, side, 3)
                    if number is not None:
                        best = best_lines(yard, position, side, 3)
                        for many in range(4):
                            for line in lines(yard, position, many)[:60]:
                                told = is_best(yard, position, side, 3, line)
                                self.assertIs(told, line in best)
                                seen.add((number, told))
                        for line in best:
                            self.assertIs(is_best(yard, position, side, 8, line), True)
        self.assertLessEqual({(number, told) for number in (1, 2, 3) for told in (True, False)}, seen)

    def test_beginnings_of_best_lines_are_none(self):
        line = best_line(chess(), FIVE, 1, 8)
        self.assertIs(is_best(chess(), FIVE, 1, 8, line), True)
        for many in range(5):
            self.assertIs(is_best(chess(), FIVE, 1, 8, line[:many]), False)

    def test_the_line_stays(self):
        line = best_line(chess(), FIVE, 1, 8)
        kept = list(line)
        told = numbers(chess(), FIVE, 1, 8, line)
        is_best(chess(), FIVE, 1, 8, line)
        self.assertEqual(line, kept)
        line.clear()
        self.assertEqual(told, [5, 4, 3, 2, 1, 0])
        told.clear()
        self.assertEqual(numbers(chess(), FIVE, 1, 8, kept), [5, 4, 3, 2, 1, 0])


class RefusalsTest(unittest.TestCase):
    WRONG = [((9, 9), (9, 9))]

    def refused(self, error, position, side, most):
        yard = race_yard()
        for asked in (best_lines, best_line):
            with self.assertRaises(error) as taken:
                asked(yard, position, side, most)
            self.assertIs(type(taken.exception), error)
        self.refused_lines(error, position, side, most, self.WRONG, (numbers, is_best))
        self.assertEqual(fields(yard), fields(race_yard()))

    def refused_lines(self, error, position, side, most, line, asked):
        kept = list(line)
        for one in asked:
            with self.assertRaises(error) as taken:
                one(race_yard(), position, side, most, line)
            self.assertIs(type(taken.exception), error)
            self.assertEqual(line, kept)

    def test_bad_positions_come_first(self):
        pieces = race(0, (2, 0), (2, 2))[1]
        for wrong in [(2, pieces), (0, pieces[::-1]), (0, ())]:
            for side in (0, 2, FAR):
                for most in (0, -1, 9):
                    self.refused(BadPosition, wrong, side, most)

    def test_bad_sides_come_second(self):
        for side in (-1, 2, 3, FAR, -FAR):
            for most in (0, 8, -1, 9, FAR):
                self.refused(BadSide, race(0, (2, 0), (2, 2)), side, most)

    def test_too_many_comes_third(self):
        for position in (race(0, (2, 0), (2, 2)), race(0, (3, 0), (2, 2))):
            for side in (0, 1):
                for most in (-1, 9, 10, 1000, FAR, -FAR):
                    self.refused(TooMany, position, side, most)

    def test_no_win_comes_ahead_of_ended_and_no_move(self):
        self.refused_lines(NoWin, race(0, (2, 0), (2, 2)), 0, 0, self.WRONG, [is_best])
        self.refused_lines(NoWin, race(0, (2, 0), (2, 2)), 1, 2, self.WRONG, [is_best])
        self.refused_lines(NoWin, race(0, (3, 0), (2, 2)), 1, 8, self.WRONG, [is_best])

    def test_lines_that_cannot_be_walked(self):
        position = race(0, (2, 0), (2, 2))
        for asked in (numbers, is_best):
            self.refused_lines(NoMove, position, 0, 8, self.WRONG, [asked])
            self.refused_lines(NoMove, position, 0, 8, [((2, 0), (2, 1))], [asked])
            self.refused_lines(Ended, position, 0, 8, [((2, 0), (3, 0))] + self.WRONG, [asked])
            self.refused_lines(Ended, race(0, (3, 0), (2, 2)), 0, 8, [((3, 0), (2, 0))], [asked])
        self.refused_lines(NoMove, position, 1, 0, self.WRONG, [numbers])
        self.refused_lines(Ended, race(0, (3, 0), (2, 2)), 1, 0, self.WRONG, [numbers])

    def test_not_at_the_bounds(self):
        self.assertEqual(best_line(race_yard(), race(0, (3, 0), (2, 2)), 0, 0), [])
        self.assertEqual(best_line(race_yard(), race(0, (3, 0), (2, 2)), 0, 8), [])
        self.assertIs(is_best(race_yard(), race(0, (3, 0), (2, 2)), 0, 0, []), True)
        self.assertIs(is_best(race_yard(), race(0, (3, 0), (2, 2)), 0, 8, []), True)


if __name__ == "__main__":
    unittest.main()
