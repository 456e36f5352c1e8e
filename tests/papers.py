"""Trees for the tests: of one way down, and what is no tree."""

WON = ("won",)
NOT = ("not",)
MOVE = ((0, 0), (0, 1))

# Trees of neither kind, however they are looked at.
NO_TREES = {
    "the empty tuple": (),
    "no word": ("",),
    "another word": ("lost",),
    "a great letter": ("Won",),
    "a blank": ("won ",),
    "a leaf of two": ("won", WON),
    "another leaf of two": ("not", NOT),
    "a leaf with a move": ("won", MOVE),
    "move alone": ("move",),
    "move without a tree": ("move", MOVE),
    "move and two trees": ("move", MOVE, WON, WON),
    "move of other trees": ("move", MOVE, ("lost",)),
    "move over nothing": ("move", MOVE, ()),
    "all alone": ("all",),
    "all without rows": ("all", []),
    "all and two lists": ("all", [(MOVE, WON)], [(MOVE, WON)]),
    "all of a move and a tree": ("all", MOVE, WON),
    "all over nothing": ("all", [(MOVE, ())]),
    "a row of a wrong tree": ("all", [(MOVE, WON), (((0, 0), (1, 1)), ("all", []))]),
    "a row of one": ("all", [(MOVE,)]),
    "a row of three": ("all", [(MOVE, WON, WON)]),
    "another word with a move": ("go", MOVE, WON),
    "another word with rows": ("any", [(MOVE, WON)]),
    "leaves of both kinds": ("all", [(MOVE, WON), (((0, 0), (1, 1)), NOT)]),
    "leaves of both kinds further down": (
        "all", [(MOVE, ("move", MOVE, WON)), (((0, 0), (1, 1)), ("all", [(MOVE, NOT)]))]
    ),
    "a move of one cell": ("move", ((0, 0),), WON),
    "a move of three cells": ("move", ((0, 0), (0, 1), (0, 2)), WON),
    "a move of shorter cells": ("move", ((0,), (1,)), WON),
    "a move that is none": ("move", (), WON),
    "a row's move of one cell": ("all", [(((0, 0),), NOT)]),
    "a cell of texts": ("all", [(((0, 0), ("0", "1")), NOT)]),
    "rows in a tuple": ("all", ((MOVE, WON),)),
    "deep down no tree": ("move", MOVE, ("all", [(MOVE, ("move", MOVE, ("all", [(MOVE, ("move", MOVE))])))])),
}


def branch(many, leaf):
    # A tree so many moves deep, one way down.
    tree = leaf
    for at in range(many):
        tree = ("move", MOVE, tree) if at % 2 else ("all", [(MOVE, tree)])
    return tree
