"""Trees written as texts, and read again."""

from pieceyard.errors import BadText
from pieceyard.notes import move_text, read_move
from pieceyard.trees import NOT_WON, WON, check_tree, is_tree

DEEPEST = 12
MOVE_SIGNS = 7


def tree_text(tree):
    check_tree(tree, [WON, NOT_WON])
    return text_of(tree)


def read_tree(text):
    found = tree_from(text, 0, DEEPEST)
    check_sign(found[1] == len(text))
    check_sign(is_tree(found[0], WON) or is_tree(found[0], NOT_WON))
    return found[0]


def text_of(tree):
    if tree[0] == "move":
        return "(" + row_text(tree[1:]) + ")"
    if tree[0] == "all":
        return "[" + "|".join([row_text(row) for row in tree[1]]) + "]"
    return "!" if tree == WON else "?"


def row_text(row):
    return move_text(row[0]) + " " + text_of(row[1])


def check_sign(is_right):
    if not is_right:
        raise BadText("this is not as a tree is written")


def tree_from(text, at, left):
    # A tuple (tree, where its text ends). How deep it may still go is counted, so that no text leads too deep.
    sign = text[at:at + 1]
    if sign == "!":
        return (WON, at + 1)
    if sign == "?":
        return (NOT_WON, at + 1)
    check_sign(left > 0)
    if sign == "(":
        found = row_from(text, at + 1, left)
        check_sign(text[found[1]:found[1] + 1] == ")")
        return (("move", found[0][0], found[0][1]), found[1] + 1)
    check_sign(sign == "[")
    return rows_from(text, at, left)


def rows_from(text, at, left):
    # From `[` on; each row begins behind one sign, `[` or `|`.
    rows = []
    ahead = at
    while not rows or text[ahead:ahead + 1] == "|":
        found = row_from(text, ahead + 1, left)
        rows.append(found[0])
        ahead = found[1]
    check_sign(text[ahead:ahead + 1] == "]")
    return (("all", rows), ahead + 1)


def row_from(text, at, left):
    behind = at + MOVE_SIGNS
    move = read_move(text[at:behind])
    check_sign(text[behind:behind + 1] == " ")
    found = tree_from(text, behind + 1, left - 1)
    return ((move, found[0]), found[1])
