"""What the document promises over the whole program: the interface, and that nothing hangs together."""

import copy
import importlib
import inspect
import unittest

from pieceyard.desk import Desk, read_desk
from pieceyard.yards import Yard
from tests.samples import fields, lists_within, no_two_are_one, race, race_yard

INTERFACE = {
    "yards": {"Yard": "height width holes kinds goals stuck"},
    "positions": {"is_position": "yard position", "placed": "yard turn pieces"},
    "moves": {"moves": "yard position", "after": "yard position move", "shown_by": "yard position move"},
    "ends": {"verdict": "yard position"},
    "lines": {"walked": "yard position line", "lines": "yard position many", "count": "yard position many"},
    "kin": {
        "bears": "yard", "taken_over": "yard name position", "move_over": "yard name move", "kin": "yard position",
        "first_kin": "yard position",
    },
    "trees": {
        "win_tree": "yard position side many", "win_holds": "yard position side many tree",
        "least": "yard position side most", "depth": "tree", "turned_tree": "yard name tree",
    },
    "contrary": {"not_tree": "yard position side many", "not_holds": "yard position side many tree"},
    "ranks": {
        "reach": "yard position", "ranks": "yard position", "ranks_hold": "yard told",
        "win_move": "yard told position",
    },
    "stays": {
        "stay": "yard position side", "stay_holds": "yard position side told", "stay_move": "yard told position",
    },
    "problems": {
        "keys": "yard position many", "sound": "yard position many", "solution": "yard position many",
        "tries": "yard position many",
    },
    "helps": {"together": "yard position side many", "least_positions": "yard position many"},
    "best": {
        "best_lines": "yard position side most", "best_line": "yard position side most",
        "numbers": "yard position side most line", "is_best": "yard position side most line",
    },
    "notes": {
        "yard_text": "yard", "read_yard": "text", "position_text": "yard position", "read_position": "yard text",
        "line_text": "line", "read_line": "text",
    },
    "treenotes": {"tree_text": "tree", "read_tree": "text"},
    "desk": {"Desk": "yard position", "read_desk": "text"},
}

METHODS = {"position": "", "line": "", "play": "move", "back": "", "tried": "line", "told": "side many", "note": ""}

# What tells the papers and texts that others are handed.
PAPERS = [
    ("trees", "win_tree"), ("contrary", "not_tree"), ("ranks", "ranks"), ("stays", "stay"), ("notes", "yard_text"),
    ("notes", "position_text"), ("notes", "line_text"), ("treenotes", "tree_text"),
]


def lane_parts():
    # A row of five in which two crowns meet: small enough for ranks, and the side to move wins within three.
    return {
        "height": 1, "width": 5, "holes": [], "kinds": {"k": ([(0, -1), (0, 1)], [], 1), "p": ([], [(0, 1)], 0)},
        "goals": ([], []), "stuck": "lost",
    }


def lane():
    return Yard(**lane_parts())


def handed_in():
    # Made anew at each call; the names are those of the interface.
    position = (0, (((0, 0), 0, "k"), ((0, 3), 1, "k")))
    line = [((0, 0), (0, 1)), ((0, 3), (0, 4)), ((0, 1), (0, 2)), ((0, 4), (0, 3)), ((0, 2), (0, 3))]
    return {
        **lane_parts(), "yard": lane(), "position": position, "turn": 0, "pieces": list(position[1])[::-1],
        "move": ((0, 0), (0, 1)), "line": line, "many": 3, "most": 8, "side": 0, "name": "turn0",
    }


def value_of(value):
    # What can be compared: a yard's fields, a desk's note.
    if isinstance(value, Yard):
        return fields(value)
    if isinstance(value, Desk):
        return value.note()
    return value


def spoil(value):
    # Changes whatever can be changed within.
    for one in lists_within(value):
        one.clear()
    if isinstance(value, Yard):
        spoil([value.holes, value.kinds, value.goals])
    if isinstance(value, Desk):
        spoil(value.line())
        spoil(value.tried([]))


class InterfaceTest(unittest.TestCase):
    def test_names_and_arguments(self):
        for module, names in INTERFACE.items():
            held = importlib.import_module(f"pieceyard.{module}")
            for name, arguments in names.items():
                with self.subTest(module=module, name=name):
                    known = inspect.signature(getattr(held, name)).parameters
                    self.assertEqual(list(known), arguments.split())
                    self.assertTrue(all(one.default is one.empty for one in known.values()))

    def test_methods(self):
        for name, arguments in METHODS.items():
            known = list(inspect.signature(getattr(Desk, name)).parameters)
            self.assertEqual(known, ["self"] + arguments.split())
        self.assertEqual(list(inspect.signature(Yard.cells).parameters), ["self"])

    def test_the_interface_binds_nothing_of_the_same_name_elsewhere(self):
        names = [name for held in INTERFACE.values() for name in held]
        self.assertEqual(len(names), len(set(names)))


class NothingHangsTogetherTest(unittest.TestCase):
    def called(self, module, name):
        asked = getattr(importlib.import_module(f"pieceyard.{module}"), name)
        return asked, INTERFACE[module][name].split()

    def arguments(self, name, wanted):
        handed = handed_in()
        yard, position = handed["yard"], handed["position"]
        ask = {key: self.called(*key)[0] for key in PAPERS}
        handed["text"] = {
            "read_yard": lambda: ask["notes", "yard_text"](yard),
            "read_position": lambda: ask["notes", "position_text"](yard, position),
            "read_line": lambda: ask["notes", "line_text"](handed["line"]),
            "read_tree": lambda: ask["treenotes", "tree_text"](ask["trees", "win_tree"](yard, position, 0, 5)),
            "read_desk": lambda: Desk(yard, position).note(),
        }.get(name, str)()
        if "tree" in wanted:
            kind = ("contrary", "not_tree") if name == "not_holds" else ("trees", "win_tree")
            handed["tree"] = ask[kind](yard, position, 0, 3 if name == "not_holds" else 5)
            handed["many"] = 3 if name == "not_holds" else 5
        if "told" in wanted:
            of_ranks = name in ("ranks_hold", "win_move")
            handed["told"] = ask["ranks", "ranks"](yard, position) if of_ranks else ask["stays", "stay"](yard, position, 0)
        if name in ("keys", "sound", "solution", "tries", "least_positions", "win_tree"):
            handed["many"] = 5
        if name == "tries":
            handed.update({"yard": race_yard(), "position": race(0, (0, 0), (3, 2)), "many": 3})
        return [handed[one] for one in wanted]

    def test_each_function(self):
        for module, names in INTERFACE.items():
            for name in names:
                with self.subTest(module=module, name=name):
                    self.check(module, name)

    def check(self, module, name):
        asked, wanted = self.called(module, name)
        handed = self.arguments(name, wanted)
        kept = [copy.deepcopy(value_of(one)) for one in handed]
        told = asked(*handed)
        whole = copy.deepcopy(value_of(told))
        # What is handed in stays as it was, and no list of it is told or kept.
        self.assertEqual([value_of(one) for one in handed], kept)
        own = told if not isinstance(told, Yard) else [told.holes, told.kinds, told.goals]
        if not isinstance(told, Desk):
            self.assertTrue(no_two_are_one(own))
            ids = {id(one) for one in lists_within(own)}
            for one in handed:
                parts_of = [one.holes, one.kinds, one.goals] if isinstance(one, Yard) else one
                self.assertFalse(ids & {id(part) for part in lists_within(parts_of)})
        # What was told, changed within, changes no later answer, nor what was handed in.
        spoil(told)
        self.assertEqual([value_of(one) for one in handed], kept)
        self.assertEqual(value_of(asked(*handed)), whole)
        # What was handed in, changed later, changes nothing that was told.
        again = asked(*handed)
        for one in handed:
            spoil(one)
        self.assertEqual(value_of(again), whole)

    def test_the_samples_are_worth_something(self):
        # So that lists and dicts are told where they can be.
        empty = []
        for module, names in INTERFACE.items():
            for name in names:
                asked, wanted = self.called(module, name)
                told = value_of(asked(*self.arguments(name, wanted)))
                if told in ([], {}, None, "") and name != "verdict":
                    empty.append(name)
        self.assertEqual(empty, [])

    def test_each_method_of_a_desk(self):
        yard, position, line = handed_in()["yard"], handed_in()["position"], handed_in()["line"]
        desk = Desk(yard, position)
        spoil(yard)
        desk.play(line[0])
        for asked in (
            lambda: desk.line(), lambda: desk.tried(line[1:]), lambda: desk.told(0, 4), lambda: desk.told(1, 4),
            lambda: desk.note(), lambda: desk.position(),
        ):
            told = asked()
            whole = copy.deepcopy(told)
            self.assertTrue(told)
            self.assertTrue(no_two_are_one(told))
            spoil(told)
            self.assertEqual(asked(), whole)
        tried = line[1:]
        desk.tried(tried)
        self.assertEqual(tried, line[1:])

    def test_a_desk_read_of_its_note(self):
        desk = Desk(lane(), handed_in()["position"])
        for move in handed_in()["line"]:
            desk.play(move)
        self.assertEqual(read_desk(desk.note()).line(), handed_in()["line"])


if __name__ == "__main__":
    unittest.main()
