import copy
import unittest

from pieceyard.errors import BadPosition, Ended, NoMove, TooMany
from pieceyard.lines import count, lines, walked
from pieceyard.moves import after, moves
from pieceyard.positions import placed
from tests import naive
from tests.samples import (
    chance_positions, chess_yard, fields, no_two_are_one, parts, plain_yard, race_yard, small_yards,
)

FAR = 10 ** 5000


def begun():
    return placed(plain_yard(), 0, [((1, 0), 0, "k"), ((0, 2), 1, "k"), ((1, 2), 0, "p"), ((3, 1), 1, "r")])


def finished():
    return placed(plain_yard(), 1, [((3, 0), 0, "k"), ((0, 2), 1, "k")])


class WalkedTest(unittest.TestCase):
    def setUp(self):
        self.yard = plain_yard()
        self.line = [((1, 0), (2, 0)), ((0, 2), (1, 1)), ((2, 0), (3, 0))]

    def test_a_line_of_no_moves(self):
        self.assertEqual(walked(self.yard, begun(), []), [begun()])
        self.assertEqual(walked(self.yard, finished(), []), [finished()])

    def test_a_line_of_several(self):
        wanted = [begun()]
        for move in self.line:
            wanted.append(after(self.yard, wanted[-1], move))
        self.assertEqual(walked(self.yard, begun(), self.line), wanted)
        self.assertEqual(walked(self.yard, begun(), self.line[:1]), wanted[:2])
        self.assertEqual(walked(self.yard, begun(), self.line)[1][0], 1)

    def refused(self, error, position, line):
        kept = copy.deepcopy(line)
        with self.subTest(position=position, line=line):
            with self.assertRaises(error) as taken:
                walked(self.yard, position, line)
            self.assertIs(type(taken.exception), error)
            self.assertEqual(line, kept)

    def test_wrong_moves(self):
        wrong = ((3, 2), (3, 3))
        for at in range(3):
            self.refused(NoMove, begun(), self.line[:at] + [wrong] + self.line[at + 1:])
        self.refused(NoMove, begun(), [self.line[1]])
        self.refused(NoMove, begun(), [self.line[0], self.line[0]])

    def test_behind_an_end(self):
        self.refused(Ended, begun(), self.line + [((1, 1), (0, 2))])
        self.refused(Ended, begun(), self.line + [((9, 9), (-9, 9))])
        self.refused(Ended, finished(), [((0, 2), (1, 2))])

    def test_the_first_wrong_move_tells(self):
        self.refused(NoMove, begun(), [((9, 9), (9, 9))] + self.line + self.line)
        self.refused(Ended, begun(), self.line + [((0, 0), (0, 1)), ((9, 9), (9, 9))])

    def test_bad_positions_come_first(self):
        self.refused(BadPosition, (0, begun()[1][::-1]), [((9, 9), (9, 9))])
        self.refused(BadPosition, (1, finished()[1][::-1]), self.line)
        self.refused(BadPosition, (2, begun()[1]), [])

    def test_nothing_is_kept_or_changed(self):
        line = list(self.line)
        told = walked(self.yard, begun(), line)
        whole = list(told)
        self.assertEqual(line, self.line)
        line.clear()
        self.assertEqual(told, whole)
        told.clear()
        self.assertEqual(walked(self.yard, begun(), self.line), whole)
        self.assertEqual(fields(self.yard), parts())


class LinesTest(unittest.TestCase):
    def test_of_no_moves(self):
        self.assertEqual(lines(plain_yard(), begun(), 0), [[]])
        self.assertEqual(lines(plain_yard(), finished(), 0), [[]])
        self.assertEqual(count(plain_yard(), begun(), 0), 1)
        self.assertEqual(count(plain_yard(), finished(), 0), 1)

    def test_of_one_move(self):
        told = lines(plain_yard(), begun(), 1)
        self.assertEqual(told, [[move] for move in moves(plain_yard(), begun())])
        self.assertEqual(count(plain_yard(), begun(), 1), len(told))

    def test_from_an_ended_position(self):
        for many in (1, 2, 3, 4):
            self.assertEqual(lines(plain_yard(), finished(), many), [])
        for many in (1, 2, 3, 4, 5, 6):
            self.assertEqual(count(plain_yard(), finished(), many), 0)

    def test_lines_that_end_early_are_none(self):
        # The crown steps onto its goal or aside; only behind the latter there are two moves.
        yard = race_yard()
        position = placed(yard, 0, [((2, 0), 0, "c"), ((1, 2), 1, "c"), ((0, 2), 0, "p")])
        told = lines(yard, position, 2)
        self.assertEqual(told, naive.lines(yard, position, 2))
        self.assertNotIn(((2, 0), (3, 0)), [line[0] for line in told])
        self.assertTrue(told)

    def test_as_the_document_tells(self):
        for yard in small_yards():
            for position in chance_positions(yard, 4, 5, 6):
                for many in (0, 1, 2, 3):
                    with self.subTest(yard=fields(yard), position=position, many=many):
                        told = lines(yard, position, many)
                        self.assertEqual(told, naive.lines(yard, position, many))
                        self.assertEqual(told, sorted(told))
                        self.assertEqual(count(yard, position, many), len(told))
                        self.assertTrue(all(len(line) == many for line in told))
                        for line in told:
                            self.assertEqual(len(walked(yard, position, line)), many + 1)

    def test_of_four_moves(self):
        for yard in (chess_yard(2, 2, "lost"), race_yard()):
            for position in chance_positions(yard, 6, 4, 7):
                told = lines(yard, position, 4)
                self.assertEqual(told, naive.lines(yard, position, 4))
                self.assertEqual(count(yard, position, 4), len(told))

    def test_count_of_five_and_six(self):
        yard = chess_yard(1, 5, "lost")
        position = placed(yard, 0, [((0, 0), 0, "k"), ((0, 4), 1, "k")])
        for many in (5, 6):
            self.assertEqual(count(yard, position, many), len(naive.lines(yard, position, many)))
            self.assertGreater(count(yard, position, many), 0)

    def test_no_two_lists_are_one(self):
        for many in (0, 1, 2, 3):
            told = lines(plain_yard(), begun(), many)
            self.assertTrue(no_two_are_one(told))
            whole = copy.deepcopy(told)
            for line in told:
                line.append(((0, 0), (0, 0)))
            told.clear()
            self.assertEqual(lines(plain_yard(), begun(), many), whole)

    def refused(self, asked, error, position, many):
        with self.subTest(asked=asked.__name__, error=error.__name__):
            with self.assertRaises(error) as taken:
                asked(plain_yard(), position, many)
            self.assertIs(type(taken.exception), error)

    def test_too_many(self):
        for position in (begun(), finished()):
            for many in (-1, 5, 6, -5, 1000, FAR, -FAR):
                self.refused(lines, TooMany, position, many)
            for many in (-1, 7, 8, -6, 1000, FAR, -FAR):
                self.refused(count, TooMany, position, many)

    def test_not_at_the_bounds(self):
        yard = chess_yard(1, 3, "lost")
        position = placed(yard, 0, [((0, 0), 0, "k"), ((0, 2), 1, "k")])
        self.assertEqual(lines(yard, position, 4), naive.lines(yard, position, 4))
        self.assertEqual(count(yard, position, 6), len(naive.lines(yard, position, 6)))

    def test_bad_positions_come_first(self):
        bad = (0, begun()[1][::-1])
        for many in (-1, 0, 1, 4, 5, 7, FAR):
            self.refused(lines, BadPosition, bad, many)
            self.refused(count, BadPosition, bad, many)

    def test_the_yard_stays(self):
        yard = plain_yard()
        lines(yard, begun(), 2)
        count(yard, begun(), 3)
        self.assertEqual(fields(yard), parts())


if __name__ == "__main__":
    unittest.main()
