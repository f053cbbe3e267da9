"""Deals: tuples (bits, outs, kept) of what is out to whom and kept for whom, and what of the row is free."""

from blockdeal.blocks import apart, is_whole
from blockdeal.names import is_name
from blockdeal.patches import block_with, end_of, fewest, is_patch, rest_of


def is_deal(thing):
    """Whether a thing, whatever it is, is a deal."""
    if not isinstance(thing, tuple) or len(thing) != 3:
        return False
    bits, outs, kept = thing
    if not is_whole(bits) or not 1 <= bits <= 64:
        return False
    return are_shares(bits, outs) and are_shares(bits, kept) and agree(outs, kept)


def free_for(deal, name):
    """The fewest patch of what is free for a name, or for all where the name is None."""
    bits, outs, kept = deal
    return rest_of(bits, fewest(all_blocks(outs) + kept_from(deal, name)))


def out_to(deal, name):
    """The fewest patch of what is out to a name."""
    return fewest(blocks_of(deal[1], name))


def holder(deal, address):
    """Who has an address, a tuple (word, name, block): it is out to the name, kept for it, or free."""
    bits, outs, kept = deal
    for word, pairs in (("out", outs), ("kept", kept)):
        block = block_with(all_blocks(pairs), address)
        if block is not None:
            return (word, dict(pairs)[block], block)
    return ("free", None, block_with(free_for(deal, None), address))


def are_shares(bits, thing):
    """Whether a thing, whatever it is, is a rising tuple of pairs (block, name), each two blocks apart."""
    if not isinstance(thing, tuple) or not all([is_pair(pair) for pair in thing]):
        return False
    # Blocks apart from one another never begin alike, so the pairs rise just as their blocks do.
    return is_patch(bits, all_blocks(thing)) and all([is_name(name) for block, name in thing])


def is_pair(thing):
    """Whether a thing, whatever it is, is a tuple of two things."""
    return isinstance(thing, tuple) and len(thing) == 2


def agree(outs, kept):
    """Whether each block of outs and each block of kept are apart or have one name."""
    at = 0
    by = 0
    while at < len(outs) and by < len(kept):
        one, name = outs[at]
        other, theirs = kept[by]
        if name != theirs and not apart(one, other):
            return False
        # The block that ends first is apart from all that follow in the other tuple.
        if end_of(one) < end_of(other):
            at += 1
        else:
            by += 1
    return True


def all_blocks(pairs):
    """The blocks of a tuple of pairs (block, name)."""
    return tuple([block for block, name in pairs])


def blocks_of(pairs, name):
    """The blocks of those pairs (block, name) that have this name."""
    return tuple([block for block, theirs in pairs if theirs == name])


def kept_from(deal, name):
    """The blocks that are kept for another name than this, which may be None."""
    return tuple([block for block, theirs in deal[2] if theirs != name])
