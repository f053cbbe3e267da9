"""Deeds: what can be done to a deal, as tuples of a word, a name and what the word wants."""

from blockdeal.blocks import is_block, is_whole
from blockdeal.names import is_name

# What stands behind the name in a deed of each word.
PARTS = {
    "take": ("height",),
    "near": ("height", "address"),
    "give": ("block",),
    "grow": ("block",),
    "keep": ("block",),
    "loose": ("block",),
    "move": ("block", "block"),
}


def is_deed(bits, thing):
    """Whether a thing, whatever it is, is a deed in the row of so many bits."""
    if not isinstance(thing, tuple) or len(thing) < 2:
        return False
    word, name, *parts = thing
    # A word is known for a text ahead of being looked up: not everything can be a key.
    if not isinstance(word, str) or word not in PARTS or not is_name(name):
        return False
    kinds = PARTS[word]
    if len(parts) != len(kinds):
        return False
    if not all([is_part(bits, kind, part) for kind, part in zip(kinds, parts)]):
        return False
    return word != "move" or parts[0][1] == parts[1][1]


def is_part(bits, kind, thing):
    """Whether a thing, whatever it is, is a height, an address or a block, as the kind says."""
    if kind == "height":
        return is_height(bits, thing)
    if kind == "address":
        return is_address(bits, thing)
    return is_block(bits, thing)


def is_height(bits, thing):
    """Whether a thing, whatever it is, is the height of blocks of the row of so many bits."""
    return is_whole(thing) and 0 <= thing <= bits


def is_address(bits, thing):
    """Whether a thing, whatever it is, is an address of the row of so many bits."""
    return is_whole(thing) and 0 <= thing < (1 << bits)
