"""Win trees: told, looked at, measured and taken over; and the search for how soon a side wins."""

from pieceyard.ends import verdict_by
from pieceyard.errors import BadPaper
from pieceyard.forms import is_number, is_tuple
from pieceyard.kin import check_borne, move_by
from pieceyard.moves import moves_by, rows_by
from pieceyard.positions import check_asked
from pieceyard.steps import Steps, moved

MOST_MOVES = 8
WON = ("won",)
NOT_WON = ("not",)


def win_tree(yard, position, side, many):
    check_asked(yard, position, side, many, MOST_MOVES)
    search = Search(yard, side)
    if search.number(position, many) is None:
        return None
    return won_by(search, position, many)


def win_holds(yard, position, side, many, tree):
    check_asked(yard, position, side, many, MOST_MOVES)
    check_tree(tree, [WON])
    return wins_by(Steps(yard), position, side, many, tree)


def least(yard, position, side, most):
    check_asked(yard, position, side, most, MOST_MOVES)
    return Search(yard, side).number(position, most)


def depth(tree):
    check_tree(tree, [WON, NOT_WON])
    return depth_of(tree)


def turned_tree(yard, name, tree):
    check_borne(yard, name)
    check_tree(tree, [WON, NOT_WON])
    return tree_by(yard, name, tree)


class Search:
    # Looks for one side's least numbers in one yard. What it finds is kept, since many lines come to one position:
    # `found` has least numbers, `ruled_out` the greatest numbers within which the side was seen not to win.
    def __init__(self, yard, side):
        self.steps = Steps(yard)
        self.side = side
        self.found = {}
        self.ruled_out = {}

    def number(self, position, most):
        # The side's least number, if it is no greater than most, else None.
        ended = verdict_by(self.steps, position)
        if ended is not None:
            return 0 if ended == self.side else None
        # A move of the other side never makes a verdict for this one, so every win ends with a move of this side:
        # its numbers are odd where it is to move, and even where it isn't.
        first = 1 if position[0] == self.side else 2
        last = most - (most - first) % 2
        if last < first or self.is_ruled_out(position, last):
            return None
        if position in self.found:
            return self.found[position] if self.found[position] <= last else None
        return self.looked_up(position, first, last)

    def is_ruled_out(self, position, many):
        return self.ruled_out.get(position, 0) >= many

    def looked_up(self, position, first, last):
        if first == 1:
            number = self.own_number(position, last)
        else:
            number = self.other_number(position, last)
        if number is None:
            self.ruled_out[position] = last
        else:
            self.found[position] = number
        return number

    def own_number(self, position, last):
        rows = rows_by(self.steps, position)
        # Short wins first: they are the ones that are wanted, and cost least to find.
        for many in range(1, last + 1, 2):
            if not self.is_ruled_out(position, many):
                for row in rows:
                    if self.number(row[1], many - 1) is not None:
                        return many
        return None

    def other_number(self, position, last):
        behind = [row[1] for row in rows_by(self.steps, position)]
        if any([self.is_refuted(place, last - 1) for place in behind]):
            return None
        greatest = 0
        for place in behind:
            number = self.number(place, last - 1)
            if number is None:
                return None
            greatest = max(greatest, number)
        return greatest + 1

    def is_refuted(self, place, many):
        # What can be seen without looking further: behind the other side's move an end is never this side's win.
        return self.is_ruled_out(place, many) or verdict_by(self.steps, place) is not None


def won_by(search, position, many):
    # By least numbers alone, so that the tree is as low as can be; many is no less than the least number.
    number = search.number(position, many)
    if number == 0:
        return WON
    rows = rows_by(search.steps, position)
    if position[0] == search.side:
        for move, behind in rows:
            if search.number(behind, number - 1) is not None:
                return ("move", move, won_by(search, behind, number - 1))
    return ("all", [(move, won_by(search, behind, number - 1)) for move, behind in rows])


def wins_by(steps, position, side, many, tree):
    if tree == WON:
        return verdict_by(steps, position) == side
    branches = branches_of(steps, position, side, tree)
    if many == 0 or not branches:
        return False
    return all([wins_by(steps, behind, side, many - 1, rest) for behind, rest in branches])


def branches_of(steps, position, chooser, tree):
    # What a tree leads to, as tuples (position, tree); none where it is a leaf or doesn't fit the position.
    allowed = moves_by(steps, position)
    rows = []
    if position[0] == chooser and tree[0] == "move" and tree[1] in allowed:
        rows = [tree[1:]]
    if position[0] != chooser and tree[0] == "all" and [row[0] for row in tree[1]] == allowed:
        rows = tree[1]
    return [(moved(position, row[0]), row[1]) for row in rows]


def check_tree(tree, leaves):
    if not any([is_tree(tree, leaf) for leaf in leaves]):
        raise BadPaper("this is no tree of the kind that is wanted")


def is_tree(tree, leaf):
    if is_tuple(tree, 3) and tree[0] == "move":
        return is_row(tree[1:], leaf)
    if is_tuple(tree, 2) and tree[0] == "all":
        return isinstance(tree[1], list) and tree[1] != [] and all([is_row(row, leaf) for row in tree[1]])
    return tree == leaf


def is_row(row, leaf):
    return is_tuple(row, 2) and is_pair_of_cells(row[0]) and is_tree(row[1], leaf)


def is_pair_of_cells(move):
    # With numbers of any size: a tree may speak of cells beyond the board, and then just doesn't hold.
    return is_tuple(move, 2) and all([is_pair_of_numbers(cell) for cell in move])


def is_pair_of_numbers(cell):
    return is_tuple(cell, 2) and all([is_number(number) for number in cell])


def depth_of(tree):
    if tree[0] == "move":
        return 1 + depth_of(tree[2])
    if tree[0] == "all":
        return 1 + max([depth_of(row[1]) for row in tree[1]])
    return 0


def tree_by(yard, name, tree):
    if tree[0] == "move":
        return ("move", move_by(yard, name, tree[1]), tree_by(yard, name, tree[2]))
    if tree[0] == "all":
        return ("all", sorted([(move_by(yard, name, row[0]), tree_by(yard, name, row[1])) for row in tree[1]]))
    return tree
