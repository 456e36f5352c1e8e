import copy
import unittest

from pieceyard.contrary import not_holds
from pieceyard.ends import verdict
from pieceyard.errors import BadPosition, Ended, NoProblem, TooMany
from pieceyard.helps import least_positions
from pieceyard.kin import bears, move_over, taken_over
from pieceyard.moves import after, moves
from pieceyard.positions import placed
from pieceyard.problems import keys, solution, sound, tries
from pieceyard.trees import least, win_holds
from pieceyard.yards import Yard
from tests import naive
from tests.samples import (
    chance_positions, chess_yard, fields, no_two_are_one, race, race_yard, small_yards, square_yard,
)

FAR = 10 ** 5000
WON = ("won",)

# Sound problems on a board three by three, of kings and rooks: for 3, 5 and 7 moves.
CHESS = {
    3: (1, (((0, 0), 1, "k"), ((1, 0), 0, "k"), ((1, 1), 1, "k"), ((1, 2), 0, "k"), ((2, 2), 0, "r"))),
    5: (1, (((0, 1), 0, "k"), ((2, 0), 1, "k"), ((2, 2), 1, "r"))),
    7: (0, (((0, 1), 1, "k"), ((1, 0), 0, "r"), ((1, 2), 0, "k"), ((2, 2), 1, "k"))),
}


def chess():
    return chess_yard(3, 3, "lost")


def going_on(yard, many, most_pieces, seed):
    return [place for place in chance_positions(yard, many, most_pieces, seed) if verdict(yard, place) is None]


class KeysTest(unittest.TestCase):
    def test_as_the_document_tells(self):
        seen = set()
        for yard in small_yards():
            for position in going_on(yard, 8, 4, 41):
                for many in (1, 2, 3):
                    with self.subTest(yard=fields(yard), position=position, many=many):
                        told = keys(yard, position, many)
                        self.assertEqual(told, naive.keys(yard, position, many))
                        self.assertIs(sound(yard, position, many), naive.sound(yard, position, many))
                        seen.add((many, min(len(told), 2), sound(yard, position, many)))
        for many in (1, 3):
            for wanted in [(many, 0, False), (many, 1, True), (many, 2, False)]:
                self.assertIn(wanted, seen)

    def test_by_hand(self):
        # The crown has three ways to the far edge in the midst, two at the side, and one if two are taken by its own.
        yard = race_yard()
        position = race(0, (2, 1), (1, 1))
        wanted = [((2, 1), (3, 0)), ((2, 1), (3, 1)), ((2, 1), (3, 2))]
        self.assertEqual(keys(yard, position, 1), wanted)
        self.assertEqual(keys(yard, position, 7), wanted)
        self.assertIs(sound(yard, position, 1), False)
        blocked = placed(yard, 0, [((2, 0), 0, "c"), ((1, 1), 1, "c"), ((3, 0), 0, "p")])
        self.assertEqual(keys(yard, blocked, 1), [((2, 0), (3, 1))])
        self.assertIs(sound(yard, blocked, 1), True)
        self.assertIs(sound(yard, blocked, 2), True)
        self.assertEqual(keys(yard, race(0, (0, 1), (3, 1)), 1), [])
        self.assertIs(sound(yard, race(0, (0, 1), (3, 1)), 1), False)

    def test_what_is_won_sooner_is_not_sound(self):
        yard = race_yard()
        blocked = placed(yard, 0, [((2, 0), 0, "c"), ((1, 1), 1, "c"), ((3, 0), 0, "p")])
        # One key for one move and for three alike, but for three it is won within one.
        self.assertEqual(len(keys(yard, blocked, 3)), 1)
        self.assertIs(sound(yard, blocked, 3), False)
        self.assertIs(sound(yard, blocked, 7), False)
        for many in (3, 5, 7):
            self.assertIs(sound(chess(), CHESS[many], many), True)
            for other in range(1, many):
                self.assertIs(sound(chess(), CHESS[many], other), False)

    def test_seven_moves(self):
        yard = chess()
        position = CHESS[7]
        self.assertEqual(keys(yard, position, 7), [((1, 2), (0, 1))])
        self.assertEqual(least(yard, position, 0, 8), 7)
        for move in moves(yard, position):
            wins = least(yard, after(yard, position, move), 0, 6) is not None
            self.assertEqual(wins, move == ((1, 2), (0, 1)))

    def test_what_was_told_may_be_changed(self):
        position = race(0, (2, 1), (1, 1))
        told = keys(race_yard(), position, 1)
        told.clear()
        self.assertEqual(len(keys(race_yard(), position, 1)), 3)


class SolutionTest(unittest.TestCase):
    def check(self, yard, position, many):
        key, tree = solution(yard, position, many)
        self.assertEqual([key], keys(yard, position, many))
        behind = after(yard, position, key)
        self.assertIs(win_holds(yard, behind, position[0], many - 1, tree), True)
        self.assertTrue(no_two_are_one(tree))
        return key, tree

    def test_as_the_document_tells(self):
        found = 0
        for yard in small_yards():
            for position in going_on(yard, 12, 4, 42):
                for many in (1, 2, 3):
                    if naive.sound(yard, position, many):
                        key, tree = self.check(yard, position, many)
                        behind = naive.after(position, key)
                        self.assertEqual(tree, naive.solved(yard, behind, position[0], many - 1))
                        found += many == 3
                    else:
                        with self.assertRaises(NoProblem):
                            solution(yard, position, many)
        self.assertGreater(found, 0)

    def test_of_one_move(self):
        yard = race_yard()
        blocked = placed(yard, 0, [((2, 0), 0, "c"), ((1, 1), 1, "c"), ((3, 0), 0, "p")])
        self.assertEqual(solution(yard, blocked, 1), (((2, 0), (3, 1)), WON))

    def test_of_three(self):
        key, tree = self.check(chess(), CHESS[3], 3)
        self.assertEqual(key, ((0, 0), (1, 0)))
        self.assertEqual(tree, naive.solved(chess(), after(chess(), CHESS[3], key), 1, 2))

    def test_of_five_and_seven(self):
        for many in (5, 7):
            key, tree = self.check(chess(), CHESS[many], many)
            self.look(chess(), after(chess(), CHESS[many], key), CHESS[many][0], tree)

    def look(self, yard, position, side, tree):
        # Each move of the tree is the first of those behind which the least number is least.
        if tree[0] == "all":
            for move, rest in tree[1]:
                self.look(yard, after(yard, position, move), side, rest)
        if tree[0] == "move":
            numbers = [(least(yard, after(yard, position, move), side, 8), move) for move in moves(yard, position)]
            self.assertEqual(min(row for row in numbers if row[0] is not None)[1], tree[1])
            self.look(yard, after(yard, position, tree[1]), side, tree[2])

    def test_what_was_told_may_be_changed(self):
        told = solution(chess(), CHESS[3], 3)
        whole = copy.deepcopy(told)
        self.assertEqual(told[1][0], "all")
        told[1][1].clear()
        self.assertEqual(solution(chess(), CHESS[3], 3), whole)


class TriesTest(unittest.TestCase):
    def test_as_the_document_tells(self):
        found = 0
        for yard in small_yards():
            for position in going_on(yard, 8, 4, 43):
                for many in (1, 2, 3, 4):
                    if many < 4 or yard.height == 1:
                        told = tries(yard, position, many)
                        self.assertEqual([row[:2] for row in told], naive.tries(yard, position, many))
                        found += len(told)
                        self.check(yard, position, many, told)
        self.assertGreater(found, 0)

    def check(self, yard, position, many, told):
        self.assertTrue(no_two_are_one(told))
        self.assertEqual([row[0] for row in told], sorted(row[0] for row in told))
        for move, answer, tree in told:
            behind = after(yard, after(yard, position, move), answer)
            self.assertIs(not_holds(yard, behind, position[0], many - 2, tree), True)
            self.assertNotIn(move, keys(yard, position, many))

    def test_five_and_seven_moves(self):
        for many, number in ((5, 5), (7, 1)):
            told = tries(chess(), CHESS[many], many)
            self.assertEqual(len(told), number)
            self.check(chess(), CHESS[many], many, told)
            for move, answer, tree in told:
                behind = after(chess(), CHESS[many], move)
                for other in moves(chess(), behind):
                    wins = least(chess(), after(chess(), behind, other), CHESS[many][0], many - 2) is not None
                    self.assertEqual(wins, other != answer)

    def test_none_for_one_move(self):
        for yard in small_yards():
            for position in going_on(yard, 6, 4, 44):
                self.assertEqual(tries(yard, position, 1), [])

    def test_refuted_in_two_ways_or_with_a_single_answer(self):
        single = double = 0
        for yard in small_yards():
            for position in going_on(yard, 12, 4, 45):
                told = [row[0] for row in tries(yard, position, 3)]
                for move in naive.moves(yard, position):
                    behind = naive.after(position, move)
                    answers = naive.moves(yard, behind)
                    wrong = [a for a in answers if not naive.wins(yard, naive.after(behind, a), position[0], 1)]
                    if len(answers) == 1 and wrong:
                        single += 1
                        self.assertNotIn(move, told)
                    if len(wrong) == 2:
                        double += 1
                        self.assertNotIn(move, told)
        self.assertGreater(single, 0)
        self.assertGreater(double, 0)

    def test_by_hand(self):
        # Side 0's crown must be behind the midst to take the other one; going straight on, it is passed by on one side.
        yard = race_yard()
        told = tries(yard, race(0, (0, 0), (3, 2)), 3)
        self.assertEqual([row[:2] for row in told], [(((0, 0), (1, 0)), ((3, 2), (2, 2)))])
        self.assertEqual(keys(yard, race(0, (0, 0), (3, 2)), 3), [((0, 0), (1, 1))])

    def test_what_was_told_may_be_changed(self):
        told = tries(chess(), CHESS[5], 5)
        whole = copy.deepcopy(told)
        for move, answer, tree in told:
            if tree[0] == "all":
                tree[1].clear()
        told.clear()
        self.assertEqual(tries(chess(), CHESS[5], 5), whole)


class KinTest(unittest.TestCase):
    def test_problems_go_along(self):
        found = 0
        for yard in (race_yard(), square_yard(), chess()):
            for position in going_on(yard, 6, 4, 46):
                for name in bears(yard)[::3]:
                    over = taken_over(yard, name, position)
                    for many in (1, 3):
                        wanted = sorted(move_over(yard, name, move) for move in keys(yard, position, many))
                        self.assertEqual(keys(yard, over, many), wanted)
                        self.assertIs(sound(yard, over, many), sound(yard, position, many))
                        wanted = sorted(
                            (move_over(yard, name, row[0]), move_over(yard, name, row[1]))
                            for row in tries(yard, position, many)
                        )
                        self.assertEqual([row[:2] for row in tries(yard, over, many)], wanted)
                        if sound(yard, position, many):
                            found += 1
                            wanted = sorted(
                                taken_over(yard, name, place) for place in least_positions(yard, position, many)
                            )
                            self.assertEqual(least_positions(yard, over, many), wanted)
        self.assertGreater(found, 0)


class RefusalsTest(unittest.TestCase):
    ASKED = (keys, sound, solution, tries, least_positions)

    def refused(self, error, yard, position, many, asked=ASKED):
        kept = copy.deepcopy(fields(yard))
        for one in asked:
            with self.subTest(asked=one.__name__):
                with self.assertRaises(error) as taken:
                    one(yard, position, many)
                self.assertIs(type(taken.exception), error)
        self.assertEqual(fields(yard), kept)

    def test_bad_positions_come_first(self):
        pieces = race(0, (3, 0), (2, 2))[1]
        for wrong in [(2, pieces), (0, pieces[::-1]), (0, ())]:
            for many in (1, 0, 8, FAR):
                self.refused(BadPosition, race_yard(), wrong, many)

    def test_too_many_comes_second(self):
        for position in (race(0, (2, 0), (2, 2)), race(0, (3, 0), (2, 2))):
            for many in (0, 8, -1, 9, 1000, FAR, -FAR):
                self.refused(TooMany, race_yard(), position, many)

    def test_ended_comes_third(self):
        stuck = Yard(1, 3, [], {"k": ([], [], 1)}, ([], []), "drawn")
        for many in (1, 2, 7):
            self.refused(Ended, race_yard(), race(0, (3, 0), (2, 2)), many)
            self.refused(Ended, race_yard(), race(0, (2, 0), (0, 2)), many)
            self.refused(Ended, stuck, placed(stuck, 0, [((0, 0), 0, "k"), ((0, 2), 1, "k")]), many)

    def test_no_problem_comes_last(self):
        for position in (race(0, (2, 1), (1, 1)), race(0, (0, 1), (3, 1))):
            self.refused(NoProblem, race_yard(), position, 1, (solution, least_positions))

    def test_not_at_the_bounds(self):
        for many in (1, 7):
            keys(race_yard(), race(0, (2, 1), (1, 1)), many)
            sound(race_yard(), race(0, (2, 1), (1, 1)), many)
            tries(race_yard(), race(0, (2, 1), (1, 1)), many)
        # Without its rook the side has too little left to win: the problem itself is the least.
        self.assertEqual(least_positions(chess(), CHESS[7], 7), [CHESS[7]])
        self.assertEqual(solution(chess(), CHESS[7], 7)[0], ((1, 2), (0, 1)))


if __name__ == "__main__":
    unittest.main()
