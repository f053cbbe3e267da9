"""Rules: pairs (block, sign), of which that of the least block that has an address decides it."""

from blockdeal.blocks import around, is_block, is_whole
from blockdeal.patches import end_of, fewest, span


def are_rules(bits, thing):
    """Whether a thing, whatever it is, is a tuple of rules of the row of so many bits."""
    if not isinstance(thing, tuple):
        return False
    if not all([is_rule(bits, rule) for rule in thing]):
        return False
    # Blocks alone are compared: one block with both signs would rise as a pair.
    return all([one[0] < other[0] for one, other in zip(thing, thing[1:])])


def decided(rules, address):
    """The sign by which the rules decide an address."""
    deciding = [(block[1], sign) for block, sign in rules if block[0] <= address < end_of(block)]
    if not deciding:
        return 0
    # Blocks that have one address are of unlike heights.
    return min(deciding)[1]


def patch_by(bits, rules):
    """The fewest patch of all addresses that the rules decide 1."""
    signs = dict(rules)
    # From each edge of a block up to the next one all addresses are decided alike.
    edges = sorted({edge for block, sign in rules for edge in (block[0], end_of(block))})
    runs = [(low, high) for low, high in zip(edges, edges[1:]) if sign_at(bits, signs, low) == 1]
    return fewest([block for low, high in runs for block in span(low, high)])


def is_rule(bits, thing):
    """Whether a thing, whatever it is, is a pair of a block and a sign."""
    if not isinstance(thing, tuple) or len(thing) != 2:
        return False
    block, sign = thing
    return is_block(bits, block) and is_whole(sign) and 0 <= sign <= 1


def sign_at(bits, signs, address):
    """The sign by which an address is decided, by a dict of the signs of blocks."""
    for height in range(bits + 1):
        block = around((address, 0), height)
        if block in signs:
            return signs[block]
    return 0
