"""Blocks of a row of addresses: what one is, and how two of them stand to one another."""


def is_whole(thing):
    """Whether a thing is a whole number; True and False are none."""
    return isinstance(thing, int) and not isinstance(thing, bool)


def is_block(bits, thing):
    """Whether a thing, whatever it is, is a block of the row of so many bits."""
    if not isinstance(thing, tuple) or len(thing) != 2:
        return False
    begin, height = thing
    if not is_whole(begin) or not is_whole(height):
        return False
    # The height is bounded ahead of the shift, which can't be done by a number below 0 or a huge one.
    if height < 0 or height > bits:
        return False
    return 0 <= begin < (1 << bits) and begin % (1 << height) == 0


def size_of(block):
    """How many addresses a block has."""
    return 1 << block[1]


def holds(one, other):
    """Whether the one block has all addresses of the other."""
    return one[1] >= other[1] and around(other, one[1]) == one


def apart(one, other):
    """Whether no address is in both blocks."""
    return not holds(one, other) and not holds(other, one)


def halves(block):
    """The two halves of a block of a height from 1, the lower one first."""
    begin, height = block
    lower = (begin, height - 1)
    return (lower, other_half(lower))


def around(block, height):
    """The block of a height, no less than the block's own, that holds the block."""
    return (block[0] >> height << height, height)


def other_half(block):
    """The block with which this one makes a block of twice the size."""
    begin, height = block
    return (begin ^ (1 << height), height)
