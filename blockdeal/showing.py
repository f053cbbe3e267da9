"""Showing: deals and rules written as texts, row by row."""

from blockdeal.beginnings import beginning


def show_deal(deal):
    """The text of a deal: its bits, then what is out, then what is kept, each in a row."""
    bits, outs, kept = deal
    rows = [f"bits {bits}"]
    for word, pairs in (("out", outs), ("kept", kept)):
        rows.extend([f"{word} {beginning(bits, block)} {name}" for block, name in pairs])
    return "\n".join(rows)


def show_rules(bits, rules):
    """The text of rules, each in a row; the empty one for none."""
    return "\n".join([f"{beginning(bits, block)} {sign}" for block, sign in rules])
