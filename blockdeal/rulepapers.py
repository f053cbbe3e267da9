"""Papers that no fewer rules do: rows (block, a, b), of the pairs (a, b) of blocks."""

from blockdeal.blocks import is_block, is_whole
from blockdeal.fewrules import best_pair, pairs_of
from blockdeal.patches import fewest


def rules_paper(bits, patch):
    """A paper that no fewer rules than the fewest decide 1 just the addresses of a patch."""
    pairs = pairs_of(bits, patch)
    return tuple([(block, pairs[block][0], pairs[block][1]) for block in pairs])


def shows_many(bits, patch, many, paper):
    """Whether a paper, whatever it is, shows that at least so many rules are wanted for a patch."""
    if not isinstance(paper, tuple) or not all([is_row(bits, row) for row in paper]):
        return False
    pairs = {block: (a, b) for block, a, b in paper}
    if len(pairs) != len(paper) or (0, bits) not in pairs:
        return False
    if pairs[(0, bits)][0] < many:
        return False
    wanted = fewest(patch)
    return all([is_right(wanted, pairs, block) for block in pairs])


def is_row(bits, thing):
    """Whether a thing, whatever it is, is a row of a block and two whole numbers from 0."""
    if not isinstance(thing, tuple) or len(thing) != 3:
        return False
    block, a, b = thing
    return is_block(bits, block) and is_count(a) and is_count(b)


def is_count(thing):
    """Whether a thing, whatever it is, is a whole number from 0."""
    return is_whole(thing) and thing >= 0


def is_right(patch, pairs, block):
    """Whether the pair of a block is no greater than a fewest patch and the pairs of its halves allow."""
    most = best_pair(patch, pairs, block)
    if most is None:
        return False
    a, b = pairs[block]
    return a <= most[0] and b <= most[1]
