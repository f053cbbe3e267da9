"""Refusals shown: papers that no block of a height is free for a name, as pairs (block, word) that fill the row."""

from blockdeal.blocks import other_half
from blockdeal.dealing import fitting
from blockdeal.deals import all_blocks, free_for, is_pair, kept_from
from blockdeal.patches import block_about, count_of, is_patch, without

WORDS = ("out", "kept", "free")


def had(deal, name, height):
    """The block that take would tell, behind "block", or a paper that there is none, behind "none"."""
    block = fitting(deal, name, height)
    if block is not None:
        return ("block", block)
    return ("none", refusal_paper(deal, name))


def shows_none(deal, name, height, paper):
    """Whether a paper, whatever it is, shows that no block of the height is free for the name."""
    if not is_paper(deal[0], paper):
        return False
    outs = all_blocks(deal[1])
    kept = kept_from(deal, name)
    free = {block: True for block, word in paper if word == "free"}
    for block, word in paper:
        if word == "out" and block_about(outs, block) is None:
            return False
        if word == "kept" and block_about(kept, block) is None:
            return False
        if word == "free" and (block[1] >= height or other_half(block) in free):
            return False
    return True


def refusal_paper(deal, name):
    """The row in blocks of what is out, of what is kept for others and not out, and of what is free for the name."""
    outs = all_blocks(deal[1])
    rows = [(block, "out") for block in outs]
    # Block by block: one that joins what is kept in two blocks would be held by neither.
    rows += [(part, "kept") for block in kept_from(deal, name) for part in without((block,), outs)]
    rows += [(block, "free") for block in free_for(deal, name)]
    return tuple(sorted(rows))


def is_paper(bits, thing):
    """Whether a thing, whatever it is, is a rising tuple of pairs (block, word), the blocks together the row."""
    if not isinstance(thing, tuple) or not all([is_pair(row) for row in thing]):
        return False
    if not all([isinstance(word, str) and word in WORDS for block, word in thing]):
        return False
    blocks = all_blocks(thing)
    return is_patch(bits, blocks) and count_of(blocks) == 1 << bits
