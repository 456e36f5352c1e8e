import copy
import unittest

from pieceyard.contrary import not_holds, not_tree
from pieceyard.errors import BadPaper, BadPosition, BadSide, NoKin, TooMany
from pieceyard.kin import bears, move_over, taken_over
from pieceyard.moves import after, moves
from pieceyard.positions import placed
from pieceyard.trees import Search, depth, least, turned_tree, win_holds, win_tree
from pieceyard.yards import Yard
from tests import naive
from tests.papers import MOVE, NO_TREES, branch
from tests.samples import (
    chance_positions, chess_yard, fields, no_two_are_one, parts, plain_yard, race, race_yard, small_yards,
    square_yard,
)

FAR = 10 ** 5000
WON = ("won",)
NOT = ("not",)


def changed(tree, moves_too):
    # Trees that differ from one in a single place.
    found = [WON, NOT, ("move", MOVE, tree), ("all", [(MOVE, tree)])]
    if tree[0] == "move":
        found.extend(("move", tree[1], rest) for rest in changed(tree[2], moves_too))
        found.extend(("move", move, tree[2]) for move in moves_too)
        found.append(("all", [(tree[1], tree[2])]))
        found.append(tree[2])
    if tree[0] == "all":
        rows = tree[1]
        found.append(("all", rows[::-1]))
        found.append(("move", rows[0][0], rows[0][1]))
        for at, (move, rest) in enumerate(rows):
            found.append(("all", rows[:at] + rows[at + 1:]))
            found.append(("all", rows[:at] + [rows[at]] + rows[at:]))
            found.append(("all", rows[:at] + [(((9, -9), (0, 0)), rest)] + rows[at + 1:]))
            found.extend(("all", rows[:at] + [(move, other)] + rows[at + 1:]) for other in changed(rest, moves_too))
    return found


def is_of(tree, leaf):
    # Of one kind of leaves, and with rows.
    if tree[0] == "move":
        return is_of(tree[2], leaf)
    if tree[0] == "all":
        return bool(tree[1]) and all(is_of(rest, leaf) for move, rest in tree[1])
    return tree == leaf


class LeastTest(unittest.TestCase):
    def test_by_hand(self):
        # The crowns race; who comes first to the far edge wins, and none can be taken.
        for position, side, wanted in [
            (race(0, (3, 0), (2, 2)), 0, 0),
            (race(1, (3, 0), (2, 2)), 0, 0),
            (race(1, (2, 0), (0, 2)), 1, 0),
            (race(0, (2, 0), (2, 2)), 0, 1),
            (race(1, (2, 0), (2, 2)), 0, 2),
            (race(1, (2, 0), (1, 2)), 1, 1),
            (race(0, (1, 0), (3, 2)), 0, 3),
            (race(0, (0, 0), (1, 2)), 1, 2),
            (race(1, (0, 0), (2, 2)), 1, 3),
        ]:
            with self.subTest(position=position, side=side):
                self.assertEqual(naive.least(race_yard(), position, side, 5), wanted)
                for most in range(9):
                    told = least(race_yard(), position, side, most)
                    self.assertEqual(told, wanted if most >= wanted else None)
                    if most < 4:
                        self.assertIsNone(least(race_yard(), position, 1 - side, most))

    def test_as_the_document_tells(self):
        for yard in small_yards():
            for position in chance_positions(yard, 12, 4, 21):
                for side in (0, 1):
                    for most in range(4):
                        with self.subTest(yard=fields(yard), position=position, side=side, most=most):
                            told = least(yard, position, side, most)
                            self.assertEqual(told, naive.least(yard, position, side, most))

    def test_deep_ones(self):
        found = []
        for yard in (race_yard(), chess_yard(1, 5, "lost"), small_yards()[5], small_yards()[6]):
            for position in chance_positions(yard, 12, 4, 22):
                for side in (0, 1):
                    wanted = naive.least(yard, position, side, 6)
                    found.append(wanted)
                    self.assertEqual(least(yard, position, side, 6), wanted)
        # The sample is worth something only if it has them all.
        self.assertLessEqual({None, 0, 1, 2, 3, 4}, set(found))

    def test_drawn_is_no_win(self):
        yard = Yard(1, 3, [], {"k": ([], [], 1)}, ([], []), "drawn")
        position = placed(yard, 0, [((0, 0), 0, "k"), ((0, 2), 1, "k")])
        for side in (0, 1):
            self.assertIsNone(least(yard, position, side, 8))
            self.assertIsNone(win_tree(yard, position, side, 8))
            self.assertEqual(not_tree(yard, position, side, 8), NOT)


class SearchTest(unittest.TestCase):
    def test_asked_again_with_other_bounds(self):
        # One search is asked for numbers of many positions, deep and shallow by turns; what it keeps misleads nobody.
        greater = 0
        for yard in (race_yard(), chess_yard(1, 5, "lost"), chess_yard(2, 3, "lost"), small_yards()[6]):
            for position in chance_positions(yard, 4, 3, 28):
                for side in (0, 1):
                    search = Search(yard, side)
                    places = [position] + [after(yard, position, move) for move in moves(yard, position)]
                    for most in (4, 0, 2, 1, 5, 3, 4):
                        for place in places:
                            told = search.number(place, most)
                            self.assertEqual(told, least(yard, place, side, most))
                            greater += told is None and least(yard, place, side, 5) is not None
        self.assertGreater(greater, 0)


class ToldTreesTest(unittest.TestCase):
    def check(self, yard, position, side, many):
        won = win_tree(yard, position, side, many)
        kept_off = not_tree(yard, position, side, many)
        wins = naive.wins(yard, position, side, many)
        self.assertEqual(won is not None, wins)
        self.assertEqual(kept_off is None, wins)
        if wins:
            self.assertIs(win_holds(yard, position, side, many, won), True)
            self.assertTrue(naive.win_holds(yard, position, side, many, won))
            self.assertTrue(no_two_are_one(won))
            self.assertLessEqual(depth(won), many)
        else:
            self.assertIs(not_holds(yard, position, side, many, kept_off), True)
            self.assertTrue(naive.not_holds(yard, position, side, many, kept_off))
            self.assertTrue(no_two_are_one(kept_off))
            self.assertLessEqual(depth(kept_off), many)

    def test_just_one_of_the_two_is_told(self):
        for yard in small_yards():
            for position in chance_positions(yard, 12, 4, 23):
                for side in (0, 1):
                    for many in range(4):
                        with self.subTest(yard=fields(yard), position=position, side=side, many=many):
                            self.check(yard, position, side, many)

    def test_deep_ones(self):
        for yard in (race_yard(), small_yards()[5]):
            for position in chance_positions(yard, 8, 4, 24):
                for side in (0, 1):
                    for many in (4, 5, 6):
                        self.check(yard, position, side, many)

    def test_eight_moves(self):
        yard = chess_yard(2, 3, "lost")
        position = placed(yard, 0, [((0, 0), 0, "k"), ((1, 2), 1, "k")])
        for side in (0, 1):
            told = not_tree(yard, position, side, 8) or win_tree(yard, position, side, 8)
            holds = not_holds if not_tree(yard, position, side, 8) else win_holds
            self.assertIs(holds(yard, position, side, 8, told), True)

    def test_leaves(self):
        position = race(0, (3, 0), (2, 2))
        for many in (0, 1, 8):
            self.assertEqual(win_tree(race_yard(), position, 0, many), WON)
            self.assertEqual(not_tree(race_yard(), position, 1, many), NOT)
            self.assertIsNone(win_tree(race_yard(), position, 1, many))
            self.assertIsNone(not_tree(race_yard(), position, 0, many))
        going = race(0, (1, 0), (2, 2))
        self.assertEqual(not_tree(race_yard(), going, 0, 0), NOT)
        self.assertEqual(not_tree(race_yard(), going, 1, 0), NOT)

    def test_what_was_told_may_be_changed(self):
        position = race(1, (2, 0), (2, 2))
        for asked, side in ((win_tree, 0), (not_tree, 1)):
            told = asked(race_yard(), position, side, 2)
            whole = copy.deepcopy(told)
            self.assertIn("all", str(whole))
            self.spoil(told)
            self.assertNotEqual(told, whole)
            self.assertEqual(asked(race_yard(), position, side, 2), whole)

    def spoil(self, tree):
        if tree[0] == "move":
            self.spoil(tree[2])
        if tree[0] == "all":
            for move, rest in tree[1]:
                self.spoil(rest)
            tree[1].clear()


class HoldsTest(unittest.TestCase):
    def test_trees_changed_in_one_place(self):
        looked_at = []
        for yard in (race_yard(), square_yard(), small_yards()[5], small_yards()[6]):
            for position in chance_positions(yard, 5, 4, 25):
                for side in (0, 1):
                    for many in (0, 1, 2, 3):
                        looked_at.extend(self.look(yard, position, side, many))
        self.assertLessEqual({True, False}, set(looked_at))

    def look(self, yard, position, side, many):
        tree = win_tree(yard, position, side, many)
        leaf, holds, wanted = WON, win_holds, naive.win_holds
        if tree is None:
            tree = not_tree(yard, position, side, many)
            leaf, holds, wanted = NOT, not_holds, naive.not_holds
        answers = []
        others = [((0, 0), (9, 9))] + moves(yard, position)[:2]
        for other in [tree] + changed(tree, others)[:150]:
            if is_of(other, leaf):
                for more in (-1, 0, 1):
                    if many + more >= 0:
                        told = holds(yard, position, side, many + more, other)
                        self.assertIs(told, wanted(yard, position, side, many + more, other))
                        answers.append(told)
            else:
                with self.assertRaises(BadPaper):
                    holds(yard, position, side, many, other)
        return answers

    def test_by_hand(self):
        yard = race_yard()
        position = race(1, (2, 0), (2, 2))
        rows = [(((2, 2), (1, 1)), ("move", ((2, 0), (3, 0)), WON)), (((2, 2), (1, 2)), ("move", ((2, 0), (3, 1)), WON))]
        self.assertIs(win_holds(yard, position, 0, 2, ("all", rows)), True)
        self.assertIs(win_holds(yard, position, 0, 8, ("all", rows)), True)
        # Too few moves, the other side, rows missing, doubled, not rising, a wrong move, a leaf too early.
        self.assertIs(win_holds(yard, position, 0, 1, ("all", rows)), False)
        self.assertIs(win_holds(yard, position, 0, 0, ("all", rows)), False)
        self.assertIs(win_holds(yard, position, 1, 2, ("all", rows)), False)
        self.assertIs(win_holds(yard, position, 0, 2, ("all", rows[:1])), False)
        self.assertIs(win_holds(yard, position, 0, 2, ("all", rows[1:])), False)
        self.assertIs(win_holds(yard, position, 0, 2, ("all", rows + rows[1:])), False)
        self.assertIs(win_holds(yard, position, 0, 2, ("all", rows[::-1])), False)
        self.assertIs(win_holds(yard, position, 0, 2, ("move",) + rows[0]), False)
        self.assertIs(win_holds(yard, position, 0, 2, WON), False)
        self.assertIs(win_holds(yard, position, 0, 2, ("all", [rows[0], (rows[1][0], WON)])), False)
        wrong = (rows[1][0], ("move", ((2, 0), (3, 2)), WON))
        self.assertIs(win_holds(yard, position, 0, 2, ("all", [rows[0], wrong])), False)
        # Of another position, and of an ended one.
        self.assertIs(win_holds(yard, race(1, (2, 0), (2, 1)), 0, 2, ("all", rows)), False)
        self.assertIs(win_holds(yard, race(1, (3, 0), (2, 2)), 0, 2, ("all", rows)), False)
        late = [rows[0], (rows[1][0], ("move", ((2, 0), (3, 1)), ("all", [(MOVE, WON)])))]
        self.assertIs(win_holds(yard, position, 0, 8, ("all", late)), False)

    def test_contrary_by_hand(self):
        yard = race_yard()
        position = race(1, (2, 0), (2, 2))
        self.assertIs(not_holds(yard, position, 1, 0, NOT), True)
        self.assertIs(not_holds(yard, position, 0, 0, NOT), True)
        self.assertIs(not_holds(yard, position, 1, 1, NOT), False)
        rows = [(((2, 2), (1, 1)), NOT), (((2, 2), (1, 2)), NOT)]
        self.assertIs(not_holds(yard, position, 1, 1, ("all", rows)), True)
        self.assertIs(not_holds(yard, position, 1, 0, ("all", rows)), False)
        self.assertIs(not_holds(yard, position, 1, 2, ("all", rows)), False)
        self.assertIs(not_holds(yard, position, 1, 1, ("all", rows[::-1])), False)
        self.assertIs(not_holds(yard, position, 1, 1, ("all", rows[:1])), False)
        self.assertIs(not_holds(yard, position, 1, 1, ("all", rows + rows)), False)
        self.assertIs(not_holds(yard, position, 0, 1, ("all", rows)), False)
        self.assertIs(not_holds(yard, position, 0, 1, ("move", ((2, 2), (1, 1)), NOT)), True)
        self.assertIs(not_holds(yard, position, 0, 1, ("move", ((2, 2), (2, 1)), NOT)), False)
        ended = race(1, (3, 0), (2, 2))
        for many in (0, 1, 8):
            self.assertIs(not_holds(yard, ended, 1, many, NOT), True)
            self.assertIs(not_holds(yard, ended, 0, many, NOT), False)
        self.assertIs(not_holds(yard, ended, 1, 8, ("all", rows)), False)
        self.assertIs(not_holds(yard, ended, 1, 8, ("move", rows[0][0], NOT)), False)

    def test_bad_papers(self):
        yard = race_yard()
        position = race(1, (2, 0), (2, 2))
        for name, tree in NO_TREES.items():
            with self.subTest(name=name):
                for asked in (win_holds, not_holds):
                    with self.assertRaises(BadPaper):
                        asked(yard, position, 0, 2, tree)
        for many in (0, 1, 2, 12):
            with self.assertRaises(BadPaper):
                win_holds(yard, position, 0, 2, branch(many, NOT))
            with self.assertRaises(BadPaper):
                not_holds(yard, position, 0, 2, branch(many, WON))
            self.assertIs(win_holds(yard, position, 0, 2, branch(many, WON)), False)
            self.assertIs(not_holds(yard, position, 0, 2, branch(many, NOT)), False)

    def test_bad_paper_where_the_position_has_ended(self):
        with self.assertRaises(BadPaper):
            win_holds(race_yard(), race(1, (3, 0), (2, 2)), 0, 0, ())
        with self.assertRaises(BadPaper):
            not_holds(race_yard(), race(1, (3, 0), (2, 2)), 1, 0, WON)

    def test_moves_off_the_board(self):
        tree = ("move", ((-9, 9), (9, -9)), WON)
        self.assertIs(win_holds(race_yard(), race(0, (2, 0), (2, 2)), 0, 1, tree), False)

    def test_the_tree_stays(self):
        yard = race_yard()
        position = race(1, (2, 0), (2, 2))
        for asked, told in ((win_holds, win_tree(yard, position, 0, 2)), (not_holds, not_tree(yard, position, 1, 2))):
            kept = copy.deepcopy(told)
            asked(yard, position, 0, 2, told)
            asked(yard, position, 1, 2, told)
            self.assertEqual(told, kept)


class DepthTest(unittest.TestCase):
    def test_of_one_way_down(self):
        for leaf in (WON, NOT):
            for many in range(13):
                self.assertEqual(depth(branch(many, leaf)), many)

    def test_the_longest_way(self):
        for at in range(3):
            rows = [(MOVE, branch(2, WON)) for row in range(3)]
            rows[at] = (MOVE, branch(5, WON))
            self.assertEqual(depth(("all", rows)), 6)
        self.assertEqual(depth(("all", [(MOVE, WON)])), 1)
        self.assertEqual(depth(("move", ((-9, 9), (9, 9)), NOT)), 1)

    def test_bad_papers(self):
        for name, tree in NO_TREES.items():
            with self.subTest(name=name):
                with self.assertRaises(BadPaper):
                    depth(tree)

    def test_of_told_trees(self):
        for position in chance_positions(race_yard(), 10, 4, 26):
            tree = win_tree(race_yard(), position, 0, 4) or not_tree(race_yard(), position, 0, 4)
            self.assertEqual(depth(tree), naive.depth(tree))


class TurnedTreeTest(unittest.TestCase):
    def test_it_holds_for_the_position_taken_over(self):
        for yard in (race_yard(), square_yard(), chess_yard(2, 3, "drawn")):
            for position in chance_positions(yard, 5, 4, 27):
                for side in (0, 1):
                    for many in (0, 2, 3):
                        tree = win_tree(yard, position, side, many)
                        holds = win_holds
                        if tree is None:
                            tree = not_tree(yard, position, side, many)
                            holds = not_holds
                        self.check(yard, position, side, many, tree, holds)

    def check(self, yard, position, side, many, tree, holds):
        kept = copy.deepcopy(tree)
        for name in bears(yard):
            over = turned_tree(yard, name, tree)
            place = taken_over(yard, name, position)
            other = 1 - side if name.startswith("x") else side
            self.assertIs(holds(yard, place, other, many, over), True)
            self.assertEqual(depth(over), depth(tree))
            self.assertTrue(no_two_are_one([over, tree]))
            self.assertEqual(tree, kept)

    def test_rows_rise(self):
        yard = race_yard()
        tree = ("all", [(((2, 0), (1, 0)), WON), (((2, 0), (1, 1)), ("move", ((2, 2), (3, 1)), WON))])
        wanted = ("all", [(((2, 2), (1, 1)), ("move", ((2, 0), (3, 1)), WON)), (((2, 2), (1, 2)), WON)])
        self.assertEqual(turned_tree(yard, "flip0", tree), wanted)
        self.assertEqual(turned_tree(yard, "turn0", ("all", tree[1][::-1])), tree)
        self.assertEqual(turned_tree(yard, "turn0", tree), tree)

    def test_rows_of_one_move(self):
        rows = [(MOVE, ("move", MOVE, WON)), (MOVE, ("all", [(MOVE, WON)])), (MOVE, WON), (MOVE, ("all", [(MOVE, WON)]))]
        told = turned_tree(race_yard(), "turn0", ("all", rows))
        self.assertEqual([row[0] for row in told[1]], [MOVE] * 4)
        self.assertEqual(sorted(str(row) for row in told[1]), sorted(str(row) for row in rows))

    def test_moves_off_the_board(self):
        tree = ("move", ((-1, 0), (4, 9)), NOT)
        # On a board four high and three wide: mirrored by 2 - c, turned twice by 3 - r and 2 - c.
        self.assertEqual(turned_tree(race_yard(), "flip0", tree), ("move", ((-1, 2), (4, -7)), NOT))
        self.assertEqual(turned_tree(race_yard(), "xturn2", tree), ("move", ((4, 2), (-1, -7)), NOT))
        tree = ("move", ((-9, 9), (0, 0)), WON)
        self.assertEqual(turned_tree(square_yard(), "turn1", tree), ("move", ((9, 11), (0, 2)), WON))

    def test_moves_are_taken_over(self):
        for name in bears(square_yard()):
            told = turned_tree(square_yard(), name, ("move", ((0, 1), (2, 2)), WON))
            self.assertEqual(told, ("move", move_over(square_yard(), name, ((0, 1), (2, 2))), WON))
            self.assertEqual(turned_tree(square_yard(), name, NOT), NOT)

    def test_refusals(self):
        for name in ["turn1", "flip3", "xturn0", "", "turn", "turn4"]:
            with self.assertRaises(NoKin):
                turned_tree(race_yard(), name, WON)
            with self.assertRaises(NoKin):
                turned_tree(race_yard(), name, ())
        for name, tree in NO_TREES.items():
            with self.subTest(name=name):
                with self.assertRaises(BadPaper):
                    turned_tree(race_yard(), "turn0", tree)
                with self.assertRaises(BadPaper):
                    turned_tree(race_yard(), "xflip2", tree)


class RefusalsTest(unittest.TestCase):
    def refused(self, error, position, side, many):
        yard = race_yard()
        for asked in (win_tree, not_tree, least):
            with self.assertRaises(error) as taken:
                asked(yard, position, side, many)
            self.assertIs(type(taken.exception), error)
        for asked in (win_holds, not_holds):
            for tree in (WON, NOT, (), ("all", [])):
                with self.assertRaises(error) as taken:
                    asked(yard, position, side, many, tree)
                self.assertIs(type(taken.exception), error)
        self.assertEqual(fields(yard), fields(race_yard()))

    def test_bad_positions_come_first(self):
        for position in [(2, race(0, (2, 0), (2, 2))[1]), (0, race(0, (2, 0), (2, 2))[1][::-1]), (0, ())]:
            for side in (0, -1, 2, FAR):
                for many in (0, -1, 9, FAR):
                    self.refused(BadPosition, position, side, many)

    def test_bad_sides_come_second(self):
        for position in (race(0, (2, 0), (2, 2)), race(0, (3, 0), (2, 2))):
            for side in (-1, 2, 3, 1000, FAR, -FAR):
                for many in (0, 8, -1, 9, FAR):
                    self.refused(BadSide, position, side, many)

    def test_too_many_comes_third(self):
        for position in (race(0, (2, 0), (2, 2)), race(0, (3, 0), (2, 2))):
            for side in (0, 1):
                for many in (-1, 9, 10, -8, 1000, FAR, -FAR):
                    self.refused(TooMany, position, side, many)

    def test_not_at_the_bounds(self):
        yard = race_yard()
        position = race(0, (2, 0), (2, 2))
        for many in (0, 8):
            for side in (0, 1):
                least(yard, position, side, many)
                win_tree(yard, position, side, many)
                not_tree(yard, position, side, many)
                self.assertIs(win_holds(yard, position, side, many, WON), False)
                self.assertIs(not_holds(yard, position, side, many, NOT), many == 0)

    def test_the_yard_stays(self):
        yard = plain_yard()
        position = placed(yard, 0, [((1, 0), 0, "k"), ((1, 2), 1, "k")])
        for side in (0, 1):
            tree = win_tree(yard, position, side, 3) or not_tree(yard, position, side, 3)
            least(yard, position, side, 3)
            turned_tree(yard, "turn0", tree)
        self.assertEqual(fields(yard), parts())
        self.assertEqual(after(yard, position, moves(yard, position)[0])[0], 1)


if __name__ == "__main__":
    unittest.main()
