"""Parts of yards for the tests, made anew at each call so that a test may change them."""

from pieceyard.yards import Yard


def king_steps():
    return [(-1, -1), (-1, 0), (-1, 1), (0, -1), (0, 1), (1, -1), (1, 0), (1, 1)]


def rook_steps():
    return [(-1, 0), (0, -1), (0, 1), (1, 0)]


def parts():
    # Higher than wide, and without any symmetry of its holes: so rows and columns can't be mixed up unseen.
    return {
        "height": 4,
        "width": 3,
        "holes": [(0, 1), (2, 2)],
        "kinds": {"k": (king_steps(), [], 1), "r": ([(2, 1)], rook_steps(), 0), "p": ([(1, 0)], [], 0)},
        "goals": ([(3, 0), (3, 2)], [(0, 0)]),
        "stuck": "lost",
    }


def yard_of(changes):
    handed = parts()
    handed.update(changes)
    return Yard(
        handed["height"], handed["width"], handed["holes"], handed["kinds"], handed["goals"], handed["stuck"]
    )


def plain_yard():
    return yard_of({})


def wide_yard():
    return yard_of({"height": 5, "width": 5, "holes": [], "goals": ([], [])})
