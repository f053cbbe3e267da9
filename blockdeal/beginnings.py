"""Beginnings: blocks written as the figures with which all their addresses begin."""


def beginning(bits, block):
    """The text of a block of the row of so many bits."""
    begin, height = block
    figures = ["1" if begin >> (bits - 1 - at) & 1 else "0" for at in range(bits - height)]
    return "".join(figures) + ("*" if height > 0 else "")


def block_of(bits, text):
    """The block whose beginning a text is, or None where it is that of no block."""
    starred = text.endswith("*")
    figures = text[:-1] if starred else text
    height = bits - len(figures)
    # A single address is written without a star, every greater block with one.
    if height < 0 or starred != (height > 0):
        return None
    begin = 0
    for figure in figures:
        if figure not in ("0", "1"):
            return None
        begin = 2 * begin + int(figure)
    return (begin << height, height)
