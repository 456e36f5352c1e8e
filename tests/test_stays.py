import unittest

from pieceyard.ends import verdict
from pieceyard.errors import BadPaper, BadPosition, BadSide, NoMove, TooMany
from pieceyard.moves import after, moves
from pieceyard.positions import placed
from pieceyard.ranks import reach
from pieceyard.stays import stay, stay_holds, stay_move
from pieceyard.yards import Yard
from tests import naive
from tests.samples import fields, just_150, just_151, lanes, lanes_yard, race, race_yard, ranked_samples

FAR = 10 ** 5000


class StayTest(unittest.TestCase):
    def test_as_the_document_tells(self):
        kinds = set()
        for yard, position, ranks in ranked_samples():
            for side in (0, 1):
                told = stay(yard, position, side)
                safe = [place for place in sorted(ranks) if ranks[place] is None or ranks[place][0] == side]
                self.assertEqual(told, safe if position in safe else None)
                if told is not None:
                    self.assertIs(stay_holds(yard, position, side, told), True)
                kinds.add((side, ranks[position] and ranks[position][0]))
        # For both sides: where it wins, where the other one does, where neither does.
        self.assertEqual(kinds, {(side, who) for side in (0, 1) for who in (0, 1, None)})

    def test_to_and_fro(self):
        for side in (0, 1):
            self.assertEqual(stay(lanes_yard(), lanes(), side), reach(lanes_yard(), lanes()))

    def test_ended_ones(self):
        position = race(0, (3, 0), (2, 2))
        self.assertEqual(stay(race_yard(), position, 0), [position])
        self.assertIsNone(stay(race_yard(), position, 1))
        yard = Yard(1, 3, [], {"k": ([], [], 1)}, ([], []), "drawn")
        position = placed(yard, 0, [((0, 0), 0, "k"), ((0, 2), 1, "k")])
        for side in (0, 1):
            self.assertEqual(stay(yard, position, side), [position])

    def test_just_150_and_151(self):
        yard, position = just_150()
        stay(yard, position, 0)
        yard, position = just_151()
        for side in (0, 1):
            with self.assertRaises(TooMany):
                stay(yard, position, side)

    def test_refusals_in_their_order(self):
        yard, position = just_151()
        for side in (0, 1, 2, -1, FAR):
            with self.assertRaises(BadPosition):
                stay(yard, (0, position[1][::-1]), side)
        for side in (-1, 2, 3, FAR, -FAR):
            with self.assertRaises(BadSide):
                stay(yard, position, side)
            with self.assertRaises(BadSide):
                stay(lanes_yard(), lanes(), side)

    def test_what_was_told_may_be_changed(self):
        told = stay(lanes_yard(), lanes(), 0)
        whole = list(told)
        told.clear()
        self.assertEqual(stay(lanes_yard(), lanes(), 0), whole)


class StayHoldsTest(unittest.TestCase):
    def test_one_left_out_or_added(self):
        answers = set()
        for yard, position, ranks in ranked_samples():
            for side in (0, 1):
                told = stay(yard, position, side) or sorted(ranks)
                lists = [[other for other in told if other != place] for place in told[:10]]
                lists += [sorted(told + [place]) for place in sorted(ranks)[:10]]
                lists += [told, told[::-1], [], [position]]
                for other in lists:
                    wanted = naive.stay_holds(yard, position, side, other)
                    self.assertIs(stay_holds(yard, position, side, other), wanted)
                    answers.add(wanted)
        self.assertEqual(answers, {True, False})

    def test_by_hand(self):
        # Side 1's crown is caught between walls; side 0's crown goes to and fro and never loses.
        yard = lanes_yard()
        told = reach(yard, lanes())
        self.assertIs(stay_holds(yard, lanes(), 0, told), True)
        self.assertIs(stay_holds(yard, lanes(), 1, told), True)
        self.assertIs(stay_holds(yard, lanes(), 0, told[::-1]), False)
        self.assertIs(stay_holds(yard, lanes(), 0, told + told[-1:]), False)
        self.assertIs(stay_holds(yard, lanes(), 0, told[:1] + told), False)
        self.assertIs(stay_holds(yard, lanes(), 0, told[1:]), False)
        # Without the last the circle is broken, for either side.
        for side in (0, 1):
            self.assertIs(stay_holds(yard, lanes(), side, told[:-1]), False)
            self.assertIs(stay_holds(yard, lanes(), side, []), False)

    def test_any_other_list_that_does(self):
        # With two crowns side 0 may keep to one of them: a list smaller than the one that is told.
        yard = Yard(3, 2, [], {"k": ([(0, -1), (0, 1)], [], 1)}, ([], []), "lost")
        position = placed(yard, 0, [((0, 0), 0, "k"), ((1, 0), 0, "k"), ((2, 0), 1, "k")])
        told = stay(yard, position, 0)
        smaller = [place for place in told if ((1, 0), 0, "k") in place[1]]
        self.assertLess(len(smaller), len(told))
        self.assertIs(stay_holds(yard, position, 0, told), True)
        self.assertIs(stay_holds(yard, position, 0, smaller), True)
        self.assertIs(stay_holds(yard, position, 1, smaller), False)
        # More than the reach, from which it can't be come to.
        apart = placed(yard, 0, [((0, 0), 0, "k"), ((2, 1), 1, "k")])
        both = sorted(told + stay(yard, apart, 0))
        self.assertIs(stay_holds(yard, position, 0, both), True)
        self.assertIs(stay_holds(yard, apart, 0, both), True)

    def test_a_lost_position(self):
        position = race(0, (3, 0), (2, 2))
        self.assertIs(stay_holds(race_yard(), position, 0, [position]), True)
        self.assertIs(stay_holds(race_yard(), position, 1, [position]), False)

    def test_refusals_in_their_order(self):
        yard = lanes_yard()
        told = reach(yard, lanes())
        no_position = (2, lanes()[1])
        for side in (0, 2):
            with self.assertRaises(BadPosition):
                stay_holds(yard, no_position, side, [no_position])
        for side in (-1, 2, FAR):
            with self.assertRaises(BadSide):
                stay_holds(yard, lanes(), side, [no_position])
        for wrong in [no_position, (0, lanes()[1][::-1]), (0, ()), (), (0,)]:
            for other in ([wrong], told + [wrong], [wrong] + told, told[::-1] + [wrong]):
                with self.assertRaises(BadPaper):
                    stay_holds(yard, lanes(), 0, other)

    def test_the_list_stays(self):
        told = stay(lanes_yard(), lanes(), 0)
        kept = list(told)
        stay_holds(lanes_yard(), lanes(), 0, told)
        stay_move(lanes_yard(), told, lanes())
        self.assertEqual(told, kept)


class StayMoveTest(unittest.TestCase):
    def test_the_first_move_that_leads_into_it(self):
        chosen = 0
        for yard, position, ranks in ranked_samples():
            for side in (0, 1):
                told = stay(yard, position, side)
                for place in told or []:
                    into = [move for move in moves(yard, place) if after(yard, place, move) in told]
                    if into:
                        self.assertEqual(stay_move(yard, told, place), into[0])
                        chosen += into[0] != moves(yard, place)[0]
                    else:
                        self.assertIsNotNone(verdict(yard, place))
                        with self.assertRaises(NoMove):
                            stay_move(yard, told, place)
        self.assertGreater(chosen, 0)

    def test_no_move(self):
        yard = lanes_yard()
        told = reach(yard, lanes())
        # Not in it; in it, but no move leads into it; ended.
        for told_less in (told[1:], [], told[:1]):
            with self.assertRaises(NoMove):
                stay_move(yard, told_less, lanes())
        ended = race(0, (3, 0), (2, 2))
        with self.assertRaises(NoMove):
            stay_move(race_yard(), [ended], ended)

    def test_bad_positions(self):
        told = reach(lanes_yard(), lanes())
        for wrong in [(2, lanes()[1]), (0, lanes()[1][::-1]), (0, ())]:
            with self.assertRaises(BadPosition):
                stay_move(lanes_yard(), told, wrong)
            with self.assertRaises(BadPosition):
                stay_move(lanes_yard(), [], wrong)

    def test_the_yard_stays(self):
        yard = lanes_yard()
        stay_move(yard, stay(yard, lanes(), 1), lanes())
        self.assertEqual(fields(yard), fields(lanes_yard()))


if __name__ == "__main__":
    unittest.main()
