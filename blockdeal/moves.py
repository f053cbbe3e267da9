"""Moves: how what is out is moved, by the fewest moves, until a block of a height is free for a name.

A stand is what is out, as in a deal. The levels have the stands by how many moves at least lead to them.
"""

from blockdeal.blocks import apart, around
from blockdeal.dealing import exchanged, fitting
from blockdeal.deals import free_for
from blockdeal.patches import both, end_of


def least_moves(deal, name, height, stays, most):
    """The fewest moves to a free block and the levels ahead, or all levels where none do, or that this is open."""
    if most >= 0 and fitting(deal, name, height) is not None:
        return ("moves", (), ())
    # How each stand was come to: the stand ahead of it and the move.
    ways = {deal[1]: None}
    levels = []
    level = [deal[1]]
    while len(ways) <= most:
        levels.append(tuple(sorted(level)))
        moves = moves_from(deal, name, height, stays, level, ways)
        if moves is not None:
            return ("moves", moves, tuple(levels))
        level = next_level(deal, stays, level, ways, most)
        if not level:
            return ("never", tuple(levels))
    return ("open", None)


def moves_from(deal, name, height, stays, level, ways):
    """The moves that lead to a stand of a level and by one move on to a free block, or None."""
    for stand in level:
        last = freeing_move(at_stand(deal, stand), name, height, stays)
        if last is not None:
            return tuple(path_to(ways, stand) + [last])
    return None


def next_level(deal, stays, level, ways, most):
    """The stands that are come to from a level and by no way so far; these ways are written down.

    It may break off where more than most are known.
    """
    found = []
    for stand in level:
        for move, behind in moves_of(at_stand(deal, stand), stays, most + 1):
            if behind not in ways:
                ways[behind] = (stand, move)
                found.append(behind)
        if len(ways) > most:
            break
    return found


def at_stand(deal, stand):
    """The deal with this stand in place of its own."""
    return (deal[0], stand, deal[2])


def path_to(ways, stand):
    """The list of the moves by which a stand was come to."""
    path = []
    way = ways[stand]
    while way is not None:
        ahead, move = way
        path.append(move)
        way = ways[ahead]
    return path[::-1]


def moves_of(deal, stays, many):
    """At most so many of the moves that can be done to a deal, as pairs of the move and the stand behind it.

    No two moves lead to one stand, so who knows fewer stands than that can tell that some lead elsewhere.
    """
    found = []
    free = {}
    for block, owner in deal[1]:
        if owner in stays:
            continue
        if owner not in free:
            free[owner] = free_for(deal, owner)
        for to in places(free[owner], block[1], many - len(found)):
            found.append((("move", owner, block, to), exchanged(deal, owner, (block,), (to,))[1]))
    return found


def places(patch, height, many):
    """At most so many of the blocks of a height that are in a fewest patch."""
    found = []
    for begin, tall in patch:
        if tall >= height:
            room = min(many - len(found), 1 << (tall - height))
            found.extend([(begin + (at << height), height) for at in range(room)])
    return found


def freeing_move(deal, name, height, stays):
    """A move behind which a block of the height is free for the name, where none is yet, or None."""
    bits, outs, kept = deal
    unkept = free_for((bits, (), kept), name)
    for at, (block, owner) in enumerate(outs):
        # What can become free has the moved block, or is a part of it.
        region = around(block, max(height, block[1]))
        if owner in stays or not is_alone(outs, at, region):
            continue
        if not any([tall >= height for begin, tall in both((region,), unkept)]):
            continue
        # A free block that isn't apart from the region lies in it, beside the moved block.
        free = [other for other in free_for(deal, owner) if other[1] >= block[1] and apart(other, region)]
        if free:
            return ("move", owner, block, (free[0][0], block[1]))
    return None


def is_alone(outs, at, region):
    """Whether no other block of outs than that at this place has an address of a region that holds it."""
    if at > 0 and end_of(outs[at - 1][0]) > region[0]:
        return False
    return at + 1 == len(outs) or outs[at + 1][0][0] >= end_of(region)
