"""Parts of yards for the tests, made anew at each call so that a test may change them."""

import random

from pieceyard.positions import placed
from pieceyard.yards import Yard
from tests import naive


def king_steps():
    return [(-1, -1), (-1, 0), (-1, 1), (0, -1), (0, 1), (1, -1), (1, 0), (1, 1)]


def rook_steps():
    return [(-1, 0), (0, -1), (0, 1), (1, 0)]


def parts():
    # Higher than wide, and without any symmetry of its holes: so rows and columns can't be mixed up unseen.
    return {
        "height": 4,
        "width": 3,
        "holes": [(0, 1), (2, 2)],
        "kinds": {"k": (king_steps(), [], 1), "r": ([(2, 1)], rook_steps(), 0), "p": ([(1, 0)], [], 0)},
        "goals": ([(3, 0), (3, 2)], [(0, 0)]),
        "stuck": "lost",
    }


def yard_of(changes):
    handed = parts()
    handed.update(changes)
    return Yard(
        handed["height"], handed["width"], handed["holes"], handed["kinds"], handed["goals"], handed["stuck"]
    )


def plain_yard():
    return yard_of({})


def wide_yard():
    return yard_of({"height": 5, "width": 5, "holes": [], "goals": ([], [])})


def fields(yard):
    return {
        "height": yard.height,
        "width": yard.width,
        "holes": yard.holes,
        "kinds": yard.kinds,
        "goals": yard.goals,
        "stuck": yard.stuck,
    }


def chess_yard(height, width, stuck):
    # Kings and rooks, no goals.
    kinds = {"k": (king_steps(), [], 1), "r": ([], rook_steps(), 0)}
    return Yard(height, width, [], kinds, ([], []), stuck)


def race_yard():
    # Crowns that race to the far edge; runners that go by leaps ahead and rides aside.
    kinds = {"c": ([(1, -1), (1, 0), (1, 1)], [], 1), "p": ([(1, 0), (2, 0)], [(0, -1), (0, 1)], 0)}
    return Yard(4, 3, [], kinds, ([(3, 0), (3, 1), (3, 2)], [(0, 0), (0, 1), (0, 2)]), "drawn")


def square_yard():
    # A yard that bears all sixteen names.
    kinds = {"k": (king_steps(), [], 1), "r": ([], rook_steps(), 0)}
    return Yard(3, 3, [(1, 1)], kinds, ([], []), "lost")


def small_yards():
    return [
        plain_yard(),
        chess_yard(3, 3, "lost"),
        chess_yard(2, 4, "drawn"),
        race_yard(),
        square_yard(),
        Yard(1, 5, [], {"k": ([(0, 1)], [(0, -1)], 1), "a": ([(0, 2)], [], 0)}, ([(0, 4)], [(0, 0)]), "drawn"),
        Yard(3, 2, [], {"k": (rook_steps(), [], 1), "b": ([], [(-1, -1), (1, 1)], 1)}, ([], [(0, 1)]), "lost"),
    ]


def chance_positions(yard, many, most_pieces, seed):
    # The same ones at every run: the seed is written, and so is the way of drawing.
    source = random.Random(seed)
    cells = yard.cells()
    crowns = sorted(kind for kind in yard.kinds if yard.kinds[kind][2] == 1)
    found = []
    while len(found) < many:
        number = source.randrange(2, most_pieces + 1)
        chosen = source.sample(cells, min(number, len(cells)))
        pieces = [(chosen[0], 0, source.choice(crowns)), (chosen[1], 1, source.choice(crowns))]
        for cell in chosen[2:]:
            pieces.append((cell, source.randrange(2), source.choice(sorted(yard.kinds))))
        found.append(placed(yard, source.randrange(2), pieces))
    return found


def lanes_yard():
    # Each crown goes to and fro in a row of its own, for ever.
    return Yard(2, 2, [], {"k": ([(0, -1), (0, 1)], [], 1)}, ([], []), "lost")


def lanes():
    return placed(lanes_yard(), 0, [((0, 0), 0, "k"), ((1, 0), 1, "k")])


def one_way_yard():
    # Crowns that never go back: they meet, or stand still at last, which is drawn.
    return Yard(2, 3, [], {"k": ([(0, 1), (1, 0)], [], 1)}, ([], []), "drawn")


def race(turn, own, other):
    return placed(race_yard(), turn, [(own, 0, "c"), (other, 1, "c")])


def just_150():
    kinds = {"k": ([(0, -2), (0, 1)], [], 1), "p": ([(1, 0)], [], 0)}
    yard = Yard(3, 4, [], kinds, ([], []), "drawn")
    return yard, (1, (((0, 0), 0, "p"), ((0, 2), 1, "k"), ((1, 2), 1, "k"), ((1, 3), 0, "k")))


def just_151():
    kinds = {"k": ([(0, -1), (2, 1)], [], 1), "p": ([(-1, -2)], [], 0)}
    yard = Yard(3, 4, [], kinds, ([], []), "drawn")
    pieces = (((0, 0), 0, "k"), ((0, 1), 1, "p"), ((0, 2), 0, "k"), ((2, 0), 1, "k"), ((2, 3), 1, "k"))
    return yard, (0, pieces)


def ranked_samples():
    # Yards, positions and their true ranks, where the reach is small enough.
    found = []
    rows = (chess_yard(1, 5, "lost"), small_yards()[5], small_yards()[6])
    for yard in (race_yard(), lanes_yard(), one_way_yard()) + rows:
        for position in chance_positions(yard, 8, 3, 31):
            if len(naive.reach(yard, position)) <= 150:
                found.append((yard, position, naive.ranks(yard, position)))
    return found


def lists_within(value):
    # Every list and dict in what was told, itself too, to see that no two are one.
    found = []
    if isinstance(value, (list, dict)):
        found.append(value)
    if isinstance(value, dict):
        value = list(value.items())
    if isinstance(value, (list, tuple)):
        for part in value:
            found.extend(lists_within(part))
    return found


def no_two_are_one(value):
    found = lists_within(value)
    return len({id(one) for one in found}) == len(found)
