"""Ranks: who wins from a position and how soon, told for all that can be come to."""

from pieceyard.ends import verdict_by
from pieceyard.errors import BadPaper, NoWin, TooMany
from pieceyard.forms import is_number, is_tuple
from pieceyard.moves import rows_by
from pieceyard.positions import check_position, is_position, is_side
from pieceyard.steps import Steps

MOST_REACHED = 150


def reach(yard, position):
    check_position(yard, position)
    return sorted(reached(Steps(yard), position))


def ranks(yard, position):
    check_position(yard, position)
    return ranks_by(Steps(yard), position)


def ranks_hold(yard, told):
    check_rank_paper(yard, told)
    steps = Steps(yard)
    return all([rank_holds(steps, told, place) for place in told])


def win_move(yard, told, position):
    check_position(yard, position)
    rank = told.get(position)
    if rank is None or rank[0] != position[0]:
        raise NoWin("the paper has no win for the side to move")
    for move, behind in rows_by(Steps(yard), position):
        if told.get(behind) == (rank[0], rank[1] - 1):
            return move
    raise NoWin("the position goes on no more")


def reached(steps, position):
    # A dict from each position of the reach to the list of those behind its moves.
    listed = [position]
    seen = {position: True}
    behind = {}
    while len(behind) < len(listed):
        place = listed[len(behind)]
        behind[place] = [row[1] for row in rows_by(steps, place)]
        for other in behind[place]:
            if other not in seen:
                seen[other] = True
                listed.append(other)
        if len(listed) > MOST_REACHED:
            raise TooMany(f"the reach is of more than {MOST_REACHED} positions")
    return behind


def ranks_by(steps, position):
    behind = reached(steps, position)
    known = {}
    # Each round finds the ranks with the next number, out of those of the rounds before it alone.
    fresh = won_at_once(steps, behind)
    while fresh:
        known.update(fresh)
        fresh = next_ranks(behind, known)
    told = {}
    for place in sorted(behind):
        told[place] = known.get(place)
    return told


def won_at_once(steps, behind):
    fresh = {}
    for place in behind:
        rank = rank_at_end(verdict_by(steps, place))
        if rank is not None:
            fresh[place] = rank
    return fresh


def next_ranks(behind, known):
    fresh = {}
    for place, others in behind.items():
        if others and place not in known:
            rank = rank_ahead(place[0], [known.get(other) for other in others])
            if rank is not None:
                fresh[place] = rank
    return fresh


def rank_at_end(ended):
    return (ended, 0) if ended in (0, 1) else None


def rank_ahead(turn, behind):
    # The rank of a position out of the ranks behind its moves.
    own = [rank[1] for rank in behind if rank is not None and rank[0] == turn]
    if own:
        return (turn, min(own) + 1)
    if None in behind:
        return None
    return (1 - turn, max([rank[1] for rank in behind]) + 1)


def check_rank_paper(yard, told):
    for place, rank in told.items():
        if not is_position(yard, place):
            raise BadPaper("the paper has what is no position of the yard")
        if rank is not None and not is_rank(rank):
            raise BadPaper("the paper has what is no rank")


def is_rank(rank):
    return is_tuple(rank, 2) and is_side(rank[0]) and is_number(rank[1]) and rank[1] >= 0


def rank_holds(steps, told, place):
    ended = verdict_by(steps, place)
    if ended is not None:
        return told[place] == rank_at_end(ended)
    behind = [row[1] for row in rows_by(steps, place)]
    if not all([other in told for other in behind]):
        return False
    return told[place] == rank_ahead(place[0], [told[other] for other in behind])
