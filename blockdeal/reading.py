"""Reading: deals and rules out of their texts."""

from blockdeal.beginnings import block_of
from blockdeal.deals import is_deal
from blockdeal.errors import NoText
from blockdeal.figures import number_of
from blockdeal.names import is_name
from blockdeal.rules import are_rules


def read_deal(text):
    """The deal that a text, whatever it is, writes, or a refusal."""
    if not isinstance(text, str):
        raise NoText(0)
    first, *rows = text.split("\n")
    bits = bits_in(first)
    if bits is None:
        raise NoText(0)
    shares = {"out": [], "kept": []}
    for at, row in enumerate(rows):
        word, share = share_in(bits, row)
        if share is None or (word == "out" and shares["kept"]):
            raise NoText(at + 1)
        shares[word].append(share)
    deal = (bits, tuple(shares["out"]), tuple(shares["kept"]))
    if not is_deal(deal):
        raise NoText(len(rows) + 1)
    return deal


def read_rules(bits, text):
    """The rules of the row of so many bits that a text, whatever it is, writes, or a refusal."""
    if not isinstance(text, str):
        raise NoText(0)
    # The empty text has no row, though parting it gives one.
    rows = text.split("\n") if text else []
    rules = [rule_in(bits, row) for row in rows]
    if None in rules:
        raise NoText(rules.index(None))
    if not are_rules(bits, tuple(rules)):
        raise NoText(len(rows))
    return tuple(rules)


def bits_in(row):
    """The bits that a deal's first row writes, or None where it has no such form."""
    word, blank, figures = row.partition(" ")
    bits = number_of(figures)
    if word != "bits" or bits is None or not 1 <= bits <= 64:
        return None
    return bits


def share_in(bits, row):
    """The word and the pair (block, name) that a row of what is out or kept writes, or None twice."""
    words = row.split(" ")
    if len(words) != 3 or words[0] not in ("out", "kept"):
        return (None, None)
    word, figures, name = words
    block = block_of(bits, figures)
    if block is None or not is_name(name):
        return (None, None)
    return (word, (block, name))


def rule_in(bits, row):
    """The pair (block, sign) that a row of rules writes, or None where it has no such form."""
    figures, blank, sign = row.partition(" ")
    block = block_of(bits, figures)
    if block is None or sign not in ("0", "1"):
        return None
    return (block, int(sign))
