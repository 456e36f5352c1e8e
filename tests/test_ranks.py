import copy
import unittest

from pieceyard.ends import verdict
from pieceyard.errors import BadPaper, BadPosition, NoWin, TooMany
from pieceyard.moves import after, moves
from pieceyard.positions import placed
from pieceyard.ranks import ranks, ranks_hold, reach, win_move
from pieceyard.trees import least
from pieceyard.yards import Yard
from tests import naive
from tests.samples import (
    chess_yard, fields, just_150, just_151, lanes, lanes_yard, no_two_are_one, one_way_yard, race, race_yard,
    ranked_samples,
)

FAR = 10 ** 5000


class ReachTest(unittest.TestCase):
    def test_of_an_ended_position(self):
        position = race(0, (3, 0), (2, 2))
        self.assertEqual(reach(race_yard(), position), [position])
        self.assertEqual(ranks(race_yard(), position), {position: (0, 0)})

    def test_to_and_fro(self):
        wanted = [
            (0, (((0, 0), 0, "k"), ((1, 0), 1, "k"))),
            (0, (((0, 1), 0, "k"), ((1, 1), 1, "k"))),
            (1, (((0, 0), 0, "k"), ((1, 1), 1, "k"))),
            (1, (((0, 1), 0, "k"), ((1, 0), 1, "k"))),
        ]
        for place in wanted:
            self.assertEqual(reach(lanes_yard(), place), wanted)

    def test_as_the_document_tells(self):
        for yard, position, told in ranked_samples():
            wanted = naive.reach(yard, position)
            self.assertEqual(reach(yard, position), wanted)
            self.assertEqual(wanted, sorted(set(wanted)))
            self.assertIn(position, wanted)

    def test_just_150(self):
        yard, position = just_150()
        told = reach(yard, position)
        self.assertEqual(len(told), 150)
        self.assertEqual(told, naive.reach(yard, position))
        self.assertEqual(list(ranks(yard, position)), told)

    def test_just_151(self):
        yard, position = just_151()
        self.assertEqual(len(naive.reach(yard, position)), 151)
        for asked in (reach, ranks):
            with self.assertRaises(TooMany):
                asked(yard, position)

    def test_far_more(self):
        yard = chess_yard(5, 5, "lost")
        position = placed(yard, 0, [((0, 0), 0, "k"), ((4, 4), 1, "k"), ((2, 2), 0, "r")])
        for asked in (reach, ranks):
            with self.assertRaises(TooMany):
                asked(yard, position)

    def test_bad_positions_come_first(self):
        yard, position = just_151()
        for wrong in [(2, position[1]), (0, position[1][::-1]), (0, ())]:
            for asked in (reach, ranks):
                with self.assertRaises(BadPosition):
                    asked(yard, wrong)

    def test_what_was_told_may_be_changed(self):
        yard = lanes_yard()
        told = reach(yard, lanes())
        whole = list(told)
        told.clear()
        self.assertEqual(reach(yard, lanes()), whole)
        paper = ranks(yard, lanes())
        whole = dict(paper)
        paper.clear()
        self.assertEqual(ranks(yard, lanes()), whole)
        self.assertEqual(fields(yard), fields(lanes_yard()))


class RanksTest(unittest.TestCase):
    def test_as_the_document_tells(self):
        seen = set()
        for yard, position, wanted in ranked_samples():
            told = ranks(yard, position)
            self.assertEqual(told, wanted)
            self.assertTrue(no_two_are_one(told))
            seen.update(told.values())
        # The sample is worth something only if it has them all.
        for side in (0, 1):
            for number in range(5):
                self.assertIn((side, number), seen)
        self.assertIn(None, seen)

    def test_drawn_ends_beside_won_ones(self):
        yard = one_way_yard()
        position = (0, (((0, 0), 0, "k"), ((1, 2), 1, "k")))
        told = ranks(yard, position)
        self.assertEqual(told, naive.ranks(yard, position))
        self.assertIn("drawn", [verdict(yard, place) for place in told])
        self.assertEqual(set(told.values()), {None, (0, 0), (0, 1), (0, 2), (0, 3)})
        self.assertIs(ranks_hold(yard, told), True)

    def test_they_are_least_numbers(self):
        for yard, position, wanted in ranked_samples():
            told = ranks(yard, position)[position]
            for side in (0, 1):
                number = least(yard, position, side, 8)
                if told is not None and told[0] == side and told[1] <= 8:
                    self.assertEqual(told, (side, number))
                else:
                    self.assertIsNone(number)

    def test_drawn_and_endless(self):
        yard = Yard(1, 3, [], {"k": ([], [], 1)}, ([], []), "drawn")
        position = placed(yard, 0, [((0, 0), 0, "k"), ((0, 2), 1, "k")])
        self.assertEqual(ranks(yard, position), {position: None})
        self.assertEqual(set(ranks(lanes_yard(), lanes()).values()), {None})

    def test_kinds(self):
        told = ranks(race_yard(), race(0, (1, 0), (2, 2)))
        self.assertIs(type(told), dict)
        for place, rank in told.items():
            self.assertIs(type(place), tuple)
            if rank is not None:
                self.assertEqual([type(part) for part in rank], [int, int])
                self.assertIs(type(rank), tuple)


class RanksHoldTest(unittest.TestCase):
    def test_true_ones(self):
        for yard, position, told in ranked_samples():
            kept = copy.deepcopy(told)
            self.assertIs(ranks_hold(yard, told), True)
            self.assertIs(ranks_hold(yard, dict(reversed(told.items()))), True)
            self.assertEqual(told, kept)

    def test_the_empty_paper(self):
        self.assertIs(ranks_hold(race_yard(), {}), True)

    def test_papers_of_two_reaches_at_once(self):
        yard = race_yard()
        told = ranks(yard, race(0, (1, 0), (2, 2)))
        told.update(ranks(yard, race(1, (0, 1), (3, 1))))
        self.assertIs(ranks_hold(yard, told), True)

    def test_one_wrong_rank(self):
        for yard, position, told in ranked_samples()[::3]:
            for place in list(told)[:12]:
                right = told[place]
                wrong = [None, (0, 0), (1, 0), (0, FAR)]
                if right is not None:
                    wrong.extend([(right[0], right[1] + 1), (right[0], max(0, right[1] - 1)), (1 - right[0], right[1])])
                for rank in wrong:
                    if rank != right:
                        self.assertIs(ranks_hold(yard, {**told, place: rank}), False)

    def test_a_position_left_out(self):
        for yard, position, told in ranked_samples()[::3]:
            targets = {after(yard, place, move) for place in told for move in moves(yard, place)}
            for place in list(told)[:12]:
                less = {other: rank for other, rank in told.items() if other != place}
                self.assertIs(ranks_hold(yard, less), place not in targets)

    def test_wrong_ranks_in_a_circle(self):
        yard = lanes_yard()
        places = reach(yard, lanes())
        for own, other in [((0, 3), (0, 2)), ((0, 1), (0, 2)), ((0, 3), (0, 4)), ((1, 2), (1, 3)), ((0, 5), (0, 5))]:
            told = {place: (own, other)[place[0]] for place in places}
            self.assertIs(ranks_hold(yard, told), False)
        self.assertIs(ranks_hold(yard, {place: None for place in places}), True)

    def test_ended_ones(self):
        yard = race_yard()
        position = race(0, (3, 0), (2, 2))
        self.assertIs(ranks_hold(yard, {position: (0, 0)}), True)
        for rank in [None, (0, 1), (1, 0)]:
            self.assertIs(ranks_hold(yard, {position: rank}), False)
        yard = Yard(1, 3, [], {"k": ([], [], 1)}, ([], []), "drawn")
        position = placed(yard, 0, [((0, 0), 0, "k"), ((0, 2), 1, "k")])
        self.assertIs(ranks_hold(yard, {position: None}), True)
        for rank in [(0, 0), (1, 0), (0, 1)]:
            self.assertIs(ranks_hold(yard, {position: rank}), False)

    def test_bad_papers(self):
        yard = race_yard()
        good = ranks(yard, race(0, (2, 0), (2, 2)))
        pieces = race(0, (2, 0), (2, 2))[1]
        for wrong in [(2, pieces), (0, pieces[::-1]), (0, ()), (0, pieces[:1] + (((9, 9), 1, "c"),)), (), (0,)]:
            for rank in (None, (0, 0)):
                with self.assertRaises(BadPaper):
                    ranks_hold(yard, {wrong: rank})
                with self.assertRaises(BadPaper):
                    ranks_hold(yard, {**good, wrong: rank})
        for rank in [(2, 0), (-1, 0), (FAR, 0), (0, -1), (1, -FAR), (0,), (), (0, 0, 0), (0, 1, None), (0, None), (None, 0)]:
            with self.assertRaises(BadPaper):
                ranks_hold(yard, {(0, pieces): rank})
            with self.assertRaises(BadPaper):
                ranks_hold(yard, {**good, (0, pieces): rank})

    def test_bad_paper_comes_ahead_of_false(self):
        yard = race_yard()
        pieces = race(0, (2, 0), (2, 2))[1]
        with self.assertRaises(BadPaper):
            ranks_hold(yard, {(0, pieces): (1, 7), (1, pieces): (0, -1)})
        with self.assertRaises(BadPaper):
            ranks_hold(yard, {(0, pieces): (1, 7), (2, pieces): None})


class WinMoveTest(unittest.TestCase):
    def test_the_first_such_move(self):
        found = 0
        for yard, position, told in ranked_samples():
            for place, rank in told.items():
                if rank is not None and rank[0] == place[0] and rank[1] > 0:
                    wanted = [
                        move for move in moves(yard, place) if told[after(yard, place, move)] == (rank[0], rank[1] - 1)
                    ]
                    self.assertEqual(win_move(yard, told, place), wanted[0])
                    found += len(wanted) > 1
        self.assertGreater(found, 0)

    def test_it_is_not_just_any_winning_move(self):
        # One move steps nearer, others only keep what is won.
        for yard, position, told in ranked_samples():
            for place, rank in told.items():
                if rank is not None and rank[0] == place[0] and rank[1] > 0:
                    behind = told[after(yard, place, win_move(yard, told, place))]
                    self.assertEqual(behind, (rank[0], rank[1] - 1))

    def refused(self, error, yard, told, position):
        with self.assertRaises(error) as taken:
            win_move(yard, told, position)
        self.assertIs(type(taken.exception), error)

    def test_no_win(self):
        yard = race_yard()
        told = ranks(yard, race(0, (2, 0), (2, 2)))
        others = 0
        for sample, position, paper in ranked_samples():
            for place, rank in paper.items():
                if verdict(sample, place) is not None or rank is None or rank[0] != place[0]:
                    self.refused(NoWin, sample, paper, place)
                    others += rank is not None and rank[1] > 0
        # Among them are some from which the other side wins, and which go on.
        self.assertGreater(others, 0)
        self.refused(NoWin, yard, told, race(0, (2, 1), (2, 2)))
        self.refused(NoWin, yard, {}, race(0, (2, 0), (2, 2)))
        self.refused(NoWin, yard, {race(0, (3, 0), (2, 2)): (0, 0)}, race(0, (3, 0), (2, 2)))
        self.refused(NoWin, lanes_yard(), ranks(lanes_yard(), lanes()), lanes())

    def test_bad_positions(self):
        yard = race_yard()
        pieces = race(0, (2, 0), (2, 2))[1]
        told = ranks(yard, (0, pieces))
        for wrong in [(2, pieces), (0, pieces[::-1]), (0, ())]:
            self.refused(BadPosition, yard, told, wrong)
            self.refused(BadPosition, yard, {}, wrong)

    def test_the_paper_stays(self):
        yard = race_yard()
        told = ranks(yard, race(0, (2, 0), (2, 2)))
        kept = dict(told)
        win_move(yard, told, race(0, (2, 0), (2, 2)))
        ranks_hold(yard, told)
        self.assertEqual(told, kept)
        self.assertEqual(fields(yard), fields(race_yard()))


if __name__ == "__main__":
    unittest.main()
