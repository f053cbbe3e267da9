"""Dealing: deeds done to a deal, each telling the deal behind it and what the deed tells."""

from blockdeal.blocks import around, other_half
from blockdeal.deals import blocks_of, free_for
from blockdeal.deeds import is_deed
from blockdeal.errors import NoDeed, NoRoom, NotTheirs
from blockdeal.patches import block_about, end_of, has_all, without


def take(deal, deed):
    """The first block of a height, out of the least that is free for the name and great enough."""
    name, height = deed[1:]
    block = fitting(deal, name, height)
    if block is None:
        raise NoRoom()
    return (exchanged(deal, name, (), (block,)), block)


def near(deal, deed):
    """The block of a height, free for the name, that is nearest to an address."""
    name, height, address = deed[1:]
    spots = [nearest_to(address, block) for block in free_for(deal, name) if block[1] >= height]
    if not spots:
        raise NoRoom()
    far, block = min([(abs(address - spot), around((spot, 0), height)) for spot in spots])
    return (exchanged(deal, name, (), (block,)), block)


def give(deal, deed):
    """A block back, also a part of one; the rest of that one stays out."""
    name, block = deed[1:]
    held = block_about(blocks_of(deal[1], name), block)
    if held is None:
        raise NotTheirs()
    rest = without((held,), (block,))
    return (exchanged(deal, name, (held,), rest), rest)


def grow(deal, deed):
    """A block joined with its other half."""
    name, block = deed[1:]
    if (block, name) not in deal[1]:
        raise NotTheirs()
    if block[1] == deal[0] or not has_all(free_for(deal, name), other_half(block)):
        raise NoRoom()
    joined = around(block, block[1] + 1)
    return (exchanged(deal, name, (block,), (joined,)), joined)


def keep(deal, deed):
    """A block kept free for the name."""
    name, block = deed[1:]
    bits, outs, kept = deal
    if not has_all(free_for(deal, None), block):
        raise NoRoom()
    return ((bits, outs, tuple(sorted(list(kept) + [(block, name)]))), None)


def loose(deal, deed):
    """A block kept no more."""
    name, block = deed[1:]
    bits, outs, kept = deal
    if (block, name) not in kept:
        raise NotTheirs()
    return ((bits, outs, tuple([pair for pair in kept if pair != (block, name)])), None)


def move(deal, deed):
    """A block exchanged for another of its height."""
    name, block, to = deed[1:]
    if (block, name) not in deal[1]:
        raise NotTheirs()
    if not has_all(free_for(deal, name), to):
        raise NoRoom()
    return (exchanged(deal, name, (block,), (to,)), None)


DEEDS = {"take": take, "near": near, "give": give, "grow": grow, "keep": keep, "loose": loose, "move": move}


def done(deal, deed):
    """The pair of the deal behind a deed, whatever was handed in as one, and what it tells, or a refusal."""
    if not is_deed(deal[0], deed):
        raise NoDeed()
    act = DEEDS[deed[0]]
    return act(deal, deed)


def fitting(deal, name, height):
    """The block of a height that the name takes, or None where there is no room for one."""
    return first_fit(free_for(deal, name), height)


def first_fit(free, height):
    """The first block of a height in the least block of a patch that is great enough, or None."""
    fits = [(tall, begin) for begin, tall in free if tall >= height]
    if not fits:
        return None
    tall, begin = min(fits)
    return (begin, height)


def nearest_to(address, block):
    """The address of a block that is nearest to an address."""
    return min(max(address, block[0]), end_of(block) - 1)


def exchanged(deal, name, gone, come):
    """The deal in which the blocks gone are out no more, and the blocks come are out to the name."""
    bits, outs, kept = deal
    staying = [pair for pair in outs if pair[0] not in gone]
    return (bits, tuple(sorted(staying + [(block, name) for block in come])), kept)
