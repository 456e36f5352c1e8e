import copy
import unittest

from pieceyard.errors import BadYard, YardError
from pieceyard.yards import Yard
from tests.samples import fields, king_steps, parts, plain_yard, rook_steps, yard_of

LETTERS = "abcdefghijklmnopqrstuvwxyz"


def lists_within(yard):
    found = [yard.holes, yard.goals[0], yard.goals[1]]
    for kind in yard.kinds.values():
        found.extend(kind[:2])
    return found


class OrdinaryYardsTest(unittest.TestCase):
    def made(self, changes):
        wanted = parts()
        wanted.update(copy.deepcopy(changes))
        yard = yard_of(changes)
        self.assertEqual(fields(yard), wanted)
        return yard

    def test_fields_are_as_handed_in(self):
        self.made({})

    def test_fields_have_their_kinds(self):
        yard = plain_yard()
        self.assertIs(type(yard.height), int)
        self.assertIs(type(yard.width), int)
        self.assertIs(type(yard.holes), list)
        self.assertIs(type(yard.kinds), dict)
        self.assertIs(type(yard.goals), tuple)
        self.assertEqual([type(own) for own in yard.goals], [list, list])
        self.assertIs(type(yard.stuck), str)
        for kind in yard.kinds.values():
            self.assertEqual([type(part) for part in kind], [list, list, int])
            self.assertIs(type(kind), tuple)

    def test_arguments_are_named_as_told(self):
        self.assertEqual(fields(Yard(**parts())), parts())

    def test_every_size(self):
        for height in range(1, 6):
            for width in range(1, 6):
                with self.subTest(height=height, width=width):
                    yard = self.made({"height": height, "width": width, "holes": [], "goals": ([], [])})
                    board = [(r, c) for r in range(height) for c in range(width)]
                    self.assertEqual(yard.cells(), board)

    def test_without_holes_goals_leaps_rides(self):
        self.made({"holes": [], "goals": ([], []), "kinds": {"k": ([], [], 1)}})

    def test_leaps_alone_and_rides_alone(self):
        self.made({"kinds": {"k": (king_steps(), [], 1), "r": ([], rook_steps(), 0)}})

    def test_no_crown_among_the_kinds(self):
        self.made({"kinds": {"r": ([], rook_steps(), 0)}})

    def test_one_kind_of_every_letter(self):
        for letter in LETTERS:
            with self.subTest(letter=letter):
                self.made({"kinds": {letter: (king_steps(), [], 1)}})

    def test_one_to_six_kinds(self):
        for many in range(1, 7):
            with self.subTest(many=many):
                self.made({"kinds": {letter: ([], [(1, 1)], 1) for letter in LETTERS[-many:]}})

    def test_all_steps(self):
        steps = [(dr, dc) for dr in range(-4, 5) for dc in range(-4, 5) if (dr, dc) != (0, 0)]
        self.made({"kinds": {"k": (steps, [], 1), "q": ([], steps, 0)}})

    def test_both_words(self):
        self.made({"stuck": "lost"})
        self.made({"stuck": "drawn"})

    def test_goals_of_both_sides_on_one_cell(self):
        self.made({"goals": ([(3, 0)], [(3, 0)])})

    def test_goals_in_every_corner(self):
        corners = [(0, 0), (0, 4), (4, 0), (4, 4)]
        self.made({"height": 5, "width": 5, "holes": [], "goals": (corners, corners)})

    def test_holes_everywhere(self):
        yard = self.made({"height": 1, "width": 2, "holes": [(0, 0), (0, 1)], "goals": ([], [])})
        self.assertEqual(yard.cells(), [])


class CellsTest(unittest.TestCase):
    def test_holes_are_left_out(self):
        wanted = [(0, 0), (0, 2), (1, 0), (1, 1), (1, 2), (2, 0), (2, 1), (3, 0), (3, 1), (3, 2)]
        self.assertEqual(plain_yard().cells(), wanted)

    def test_one_cell(self):
        yard = yard_of({"height": 1, "width": 1, "holes": [], "goals": ([(0, 0)], [])})
        self.assertEqual(yard.cells(), [(0, 0)])

    def test_it_is_a_list_of_tuples(self):
        told = plain_yard().cells()
        self.assertIs(type(told), list)
        self.assertEqual({type(cell) for cell in told}, {tuple})

    def test_what_was_told_may_be_changed(self):
        yard = plain_yard()
        told = yard.cells()
        whole = list(told)
        told.clear()
        self.assertEqual(yard.cells(), whole)
        yard.cells().append((9, 9))
        self.assertEqual(yard.cells(), whole)
        self.assertEqual(fields(yard), parts())


class NothingHangsTogetherTest(unittest.TestCase):
    def test_what_is_handed_in_stays_as_it_was(self):
        handed = parts()
        yard = Yard(**handed)
        yard.cells()
        self.assertEqual(handed, parts())

    def check_change(self, change):
        handed = parts()
        yard = Yard(**handed)
        cells = yard.cells()
        change(handed)
        self.assertNotEqual(handed, parts())
        self.assertEqual(fields(yard), parts())
        self.assertEqual(yard.cells(), cells)

    def test_holes_changed_later(self):
        self.check_change(lambda handed: handed["holes"].append((3, 1)))
        self.check_change(lambda handed: handed["holes"].clear())

    def test_goals_changed_later(self):
        self.check_change(lambda handed: handed["goals"][0].pop())
        self.check_change(lambda handed: handed["goals"][1].append((1, 1)))

    def test_kinds_changed_later(self):
        self.check_change(lambda handed: handed["kinds"].clear())
        self.check_change(lambda handed: handed["kinds"].update({"z": ([], [], 1)}))
        self.check_change(lambda handed: handed["kinds"].update({"k": ([], [], 0)}))

    def test_steps_changed_later(self):
        self.check_change(lambda handed: handed["kinds"]["k"][0].reverse())
        self.check_change(lambda handed: handed["kinds"]["k"][1].append((1, 1)))
        self.check_change(lambda handed: handed["kinds"]["r"][0].clear())
        self.check_change(lambda handed: handed["kinds"]["r"][1].pop())

    def test_one_list_handed_in_for_several_places(self):
        steps = [(0, 1), (1, 0)]
        yard = Yard(2, 2, steps, {"k": (steps, steps, 1), "q": (steps, steps, 0)}, ([], []), "lost")
        found = lists_within(yard)
        self.assertEqual(len({id(one) for one in found}), len(found))
        goals = [(0, 0), (1, 1)]
        yard = yard_of({"holes": [], "goals": (goals, goals)})
        self.assertIsNot(yard.goals[0], yard.goals[1])

    def test_two_yards_of_the_same_parts(self):
        handed = parts()
        one = Yard(**handed)
        other = Yard(**handed)
        self.assertIsNot(one.kinds, other.kinds)
        for left in lists_within(one):
            for right in lists_within(other):
                self.assertIsNot(left, right)
        self.assertIsNot(one.cells(), other.cells())

    def test_a_yard_of_another_ones_fields(self):
        one = plain_yard()
        other = Yard(**fields(one))
        self.assertEqual(fields(other), parts())
        for left in lists_within(one):
            for right in lists_within(other):
                self.assertIsNot(left, right)


class NoYardsTest(unittest.TestCase):
    def refused(self, changes):
        kept = copy.deepcopy(changes)
        with self.subTest(changes=str(sorted(changes))):
            with self.assertRaises(BadYard) as taken:
                yard_of(changes)
            self.assertIsInstance(taken.exception, YardError)
            self.assertIsInstance(taken.exception, ValueError)
            self.assertEqual(changes, kept)

    def test_sizes(self):
        for size in [0, 6, 7, -1, -5, 1000, -1000, 10 ** 30, 10 ** 5000, -(10 ** 5000)]:
            for other in [1, 5]:
                self.refused({"height": size, "width": other, "holes": [], "goals": ([], [])})
                self.refused({"height": other, "width": size, "holes": [], "goals": ([], [])})
            self.refused({"height": size, "width": size, "holes": [], "goals": ([], [])})

    def test_true_and_false_are_no_numbers(self):
        bare = {"height": 1, "width": 1, "holes": [], "goals": ([], [])}
        self.refused({**bare, "height": True})
        self.refused({**bare, "width": True})
        self.refused({**bare, "holes": [(False, 0)]})
        self.refused({**bare, "kinds": {"k": ([], [], True)}})
        self.refused({**bare, "kinds": {"k": ([(True, 0)], [], 1)}})

    def off_the_board(self):
        far = 10 ** 5000
        return [(-1, 0), (0, -1), (4, 0), (0, 3), (4, 3), (3, 3), (-4, -3), (9, 9), (far, 0), (0, -far)]

    def test_holes_off_the_board(self):
        for cell in self.off_the_board():
            self.refused({"holes": [cell], "goals": ([], [])})
            self.refused({"holes": sorted([cell, (1, 1)]), "goals": ([], [])})

    def test_holes_not_rising(self):
        self.refused({"holes": [(2, 2), (0, 1)]})
        self.refused({"holes": [(1, 1), (1, 0)]})
        self.refused({"holes": [(0, 1), (1, 2), (1, 1)]})

    def test_holes_twice(self):
        self.refused({"holes": [(0, 1), (0, 1)]})
        self.refused({"holes": [(0, 1), (1, 1), (0, 1)]})

    def test_goals_off_the_board(self):
        for cell in self.off_the_board():
            self.refused({"goals": ([cell], [])})
            self.refused({"goals": ([], [cell])})
            self.refused({"goals": (sorted([cell, (1, 1)]), [])})

    def test_goals_not_rising(self):
        self.refused({"goals": ([(3, 2), (3, 0)], [])})
        self.refused({"goals": ([], [(3, 0), (1, 1)])})

    def test_goals_twice(self):
        self.refused({"goals": ([(3, 0), (3, 0)], [])})
        self.refused({"goals": ([], [(3, 0), (3, 0)])})

    def test_goals_on_holes(self):
        for hole in parts()["holes"]:
            self.refused({"goals": ([hole], [])})
            self.refused({"goals": ([], [hole])})
        self.refused({"goals": ([(1, 1), (2, 2), (3, 0)], [])})

    def test_goals_of_one_side_or_of_three(self):
        self.refused({"goals": ()})
        self.refused({"goals": ([],)})
        self.refused({"goals": ([], [], [])})

    def test_no_kinds_and_seven_kinds(self):
        self.refused({"kinds": {}})
        self.refused({"kinds": {letter: ([], [], 1) for letter in "abcdefg"}})
        self.refused({"kinds": {letter: ([], [], 1) for letter in LETTERS}})

    def test_names_of_kinds(self):
        for name in ["", "ab", "kk", "K", "A", "Z", "0", "7", "-", " ", "\n", "`", "{", "_", "k ", "\u00e9", "\u00df"]:
            self.refused({"kinds": {name: ([], [], 1)}})
            self.refused({"kinds": {"k": ([], [], 1), name: ([], [], 0)}})

    def test_thirds_of_kinds(self):
        for third in [-1, 2, 3, 10, -10 ** 30]:
            self.refused({"kinds": {"k": ([], [], third)}})
            self.refused({"kinds": {"k": ([], [], 1), "r": ([], [], third)}})

    def test_kinds_of_another_length(self):
        self.refused({"kinds": {"k": ()}})
        self.refused({"kinds": {"k": ([], [])}})
        self.refused({"kinds": {"k": ([], [], 1, 1)}})

    def refused_steps(self, steps):
        self.refused({"kinds": {"k": (steps, [], 1)}})
        self.refused({"kinds": {"k": ([], steps, 1)}})
        self.refused({"kinds": {"k": ([], [], 1), "r": (steps, [], 0)}})
        self.refused({"kinds": {"k": ([], [], 1), "r": ([], steps, 0)}})

    def test_a_step_of_nought(self):
        self.refused_steps([(0, 0)])
        self.refused_steps([(-1, 0), (0, 0), (1, 0)])

    def test_steps_too_far(self):
        for number in [5, -5, 6, 100, 10 ** 5000, -(10 ** 5000)]:
            for other in [-4, 0, 4]:
                self.refused_steps([(number, other)])
                self.refused_steps([(other, number)])
        self.refused_steps([(1, 0), (5, 0)])

    def test_steps_twice(self):
        self.refused_steps([(1, 0), (1, 0)])
        self.refused_steps([(0, 1), (1, 0), (1, 0)])

    def test_steps_not_rising(self):
        self.refused_steps([(1, 0), (0, 1)])
        self.refused_steps([(1, 1), (1, -1)])
        self.refused_steps([(-1, 0), (1, 0), (0, 1)])

    def test_words(self):
        for word in ["", "won", "Lost", "LOST", "draw", "drawn ", " lost", "lost\n", "lostdrawn", "los"]:
            self.refused({"stuck": word})

    def test_parts_of_another_form(self):
        self.refused({"holes": [(0,)]})
        self.refused({"holes": [(0, 1, 2)]})
        self.refused({"kinds": {"k": ([(1,)], [], 1)}})
        self.refused({"kinds": {"k": ([(1, 1, 1)], [], 1)}})

    def test_parts_of_another_kind(self):
        self.refused({"height": "4"})
        self.refused({"holes": ((0, 1), (2, 2))})
        self.refused({"holes": [[0, 1]]})
        self.refused({"kinds": [("k", ([], [], 1))]})
        self.refused({"kinds": {7: ([], [], 1)}})
        self.refused({"kinds": {"k": [[], [], 1]}})
        self.refused({"kinds": {"k": (((1, 0),), [], 1)}})
        self.refused({"kinds": {"k": ([], ((1, 0),), 1)}})
        self.refused({"goals": [[], []]})
        self.refused({"goals": ((), [])})
        self.refused({"stuck": None})


if __name__ == "__main__":
    unittest.main()
