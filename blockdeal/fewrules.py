"""The fewest rules that decide 1 just the addresses of a patch.

The pair (a, b) of a block: a is how many rules at least are wanted within the block where an address that no
rule there decides is 0, b where it is 1.
"""

from blockdeal.blocks import halves
from blockdeal.patches import fewest, has_all, has_none


def fewest_rules(bits, patch):
    """Rules that decide 1 just the addresses of a patch, as few as can be."""
    pairs = pairs_of(bits, patch)
    # The sign that is decided in a block without a rule for the block or within it.
    ahead = {(0, bits): 0}
    rules = []
    # Backwards, each block stands ahead of its halves.
    for block in reversed(list(pairs)):
        sign = best_sign(pairs, block, ahead[block])
        if sign != ahead[block]:
            rules.append((block, sign))
        for half in parted_halves(pairs, block):
            ahead[half] = sign
    return tuple(sorted(rules))


def many_rules(bits, patch):
    """How many rules the fewest are that decide 1 just the addresses of a patch."""
    return pairs_of(bits, patch)[(0, bits)][0]


def pairs_of(bits, patch):
    """A dict of the pairs of the whole row and of both halves of each block that is in a patch in part.

    Halves stand there ahead of their block.
    """
    wanted = fewest(patch)
    pairs = {}
    # A block's pair comes of those of its halves.
    for block in reversed(parts_of(bits, wanted)):
        pairs[block] = best_pair(wanted, pairs, block)
    return pairs


def parts_of(bits, patch):
    """The whole row, and both halves of each block there that is in a fewest patch in part, behind it."""
    parts = [(0, bits)]
    at = 0
    while at < len(parts):
        block = parts[at]
        if not has_all(patch, block) and not has_none(patch, block):
            parts.extend(halves(block))
        at += 1
    return parts


def best_pair(patch, pairs, block):
    """The greatest pair that a block can have beside the pairs of its halves, by a fewest patch.

    None where it is in the patch in part and the pair of a half is not there.
    """
    if has_none(patch, block):
        return (0, 1)
    if has_all(patch, block):
        return (1, 0)
    lower, upper = halves(block)
    if lower not in pairs or upper not in pairs:
        return None
    zeros = pairs[lower][0] + pairs[upper][0]
    ones = pairs[lower][1] + pairs[upper][1]
    # Either no rule is for the block itself, or one that exchanges what is decided without a rule within it.
    return (min(zeros, ones + 1), min(ones, zeros + 1))


def best_sign(pairs, block, ahead):
    """The sign that is best decided in a block without a rule within it, where ahead is decided about it."""
    within = parted_halves(pairs, block)
    if not within:
        # All its addresses are decided alike: by the sign of which no rule more is wanted.
        return pairs[block].index(0)
    costs = [sum([pairs[half][sign] for half in within]) for sign in (0, 1)]
    return ahead if costs[ahead] <= costs[1 - ahead] + 1 else 1 - ahead


def parted_halves(pairs, block):
    """The halves of a block of which the pairs are there; none of a block that isn't parted."""
    if block[1] == 0:
        return ()
    lower, upper = halves(block)
    return (lower, upper) if lower in pairs else ()
