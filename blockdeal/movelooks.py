"""Papers of moves looked through: that moves make a block free and no fewer do, or that none ever do."""

from blockdeal.dealing import done, fitting
from blockdeal.deals import is_deal
from blockdeal.deeds import is_deed
from blockdeal.errors import NoRoom, NotTheirs
from blockdeal.moves import at_stand, moves_of


def shows_moves(deal, name, height, stays, moves, levels):
    """Whether moves and levels, whatever they are, show the fewest moves to a free block."""
    if not are_moves(deal[0], stays, moves) or not are_levels(deal, levels) or len(moves) != len(levels):
        return False
    if levels and deal[1] not in levels[0]:
        return False
    if not makes_free(deal, name, height, moves) or is_free_in(deal, name, height, levels):
        return False
    return leads_on(deal, stays, levels)


def shows_never(deal, name, height, stays, levels):
    """Whether levels, whatever they are, show that no moves ever lead to a free block."""
    if not are_levels(deal, levels) or not levels or deal[1] not in levels[0]:
        return False
    if is_free_in(deal, name, height, levels):
        return False
    known = {stand: True for level in levels for stand in level}
    return all([stays_within(deal, stays, level, known) for level in levels])


def are_moves(bits, stays, thing):
    """Whether a thing, whatever it is, is a tuple of moves of names that don't stay."""
    if not isinstance(thing, tuple) or not all([is_deed(bits, deed) for deed in thing]):
        return False
    return all([deed[0] == "move" and deed[1] not in stays for deed in thing])


def are_levels(deal, thing):
    """Whether a thing, whatever it is, is a tuple of rising tuples of stands."""
    return isinstance(thing, tuple) and all([are_stands(deal, level) for level in thing])


def are_stands(deal, thing):
    """Whether a thing, whatever it is, is a rising tuple of stands."""
    if not isinstance(thing, tuple) or not all([is_deal(at_stand(deal, stand)) for stand in thing]):
        return False
    return all([one < other for one, other in zip(thing, thing[1:])])


def makes_free(deal, name, height, moves):
    """Whether the moves can be done one by one, and behind them a block of the height is free for the name."""
    now = deal
    for move in moves:
        try:
            now = done(now, move)[0]
        except (NotTheirs, NoRoom):
            return False
    return fitting(now, name, height) is not None


def is_free_in(deal, name, height, levels):
    """Whether a block of the height is free for the name in some stand of the levels."""
    return any([fitting(at_stand(deal, stand), name, height) is not None for level in levels for stand in level])


def leads_on(deal, stays, levels):
    """Whether each move of each level but the last leads to a stand of that level, of one ahead or of the next."""
    known = {stand: True for level in levels[:1] for stand in level}
    for level, following in zip(levels, levels[1:]):
        known.update({stand: True for stand in following})
        if not stays_within(deal, stays, level, known):
            return False
    return True


def stays_within(deal, stays, level, known):
    """Whether each move of each stand of a level leads to a known one."""
    for stand in level:
        # Of more moves than there are known stands one leads elsewhere.
        for move, behind in moves_of(at_stand(deal, stand), stays, len(known) + 1):
            if behind not in known:
                return False
    return True
