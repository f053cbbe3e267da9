"""Tests of blockdeal.showing and blockdeal.reading: promises [16], [3] (g) and [2]."""

import re
import unittest
from unittest.mock import ANY

from blockdeal.deals import is_deal
from blockdeal.errors import NoText
from blockdeal.reading import read_deal, read_rules
from blockdeal.rules import are_rules
from blockdeal.showing import show_deal, show_rules
from tests.helper import (
    Text, all_deals, chance, is_told, no_names, rule_sets, some_deal, some_rules, spoilt, spoilt_blocks,
    strange_things,
)

WIDTHS = (1, 2, 3, 8, 31, 32, 33, 63, 64)


def written_block(bits, figures, star):
    """The block of so many figures and a star, or None."""
    height = bits - len(figures)
    if height < 0 or (star == "*") != (height > 0):
        return None
    return (int(figures or "0", 2) << height, height)


def deal_in(text):
    """The deal that a text writes, or the row at which it is refused, row by row as promised."""
    rows = text.split("\n")
    first = re.fullmatch("bits ([1-9][0-9]?)", rows[0])
    if not first or int(first[1]) > 64:
        return 0
    bits, shares = int(first[1]), {"out": [], "kept": []}
    for at, row in enumerate(rows[1:], 1):
        found = re.fullmatch(r"(out|kept) ([01]*)(\*?) ([a-z]{1,8})", row)
        block = found and written_block(bits, found[2], found[3])
        if not block or (found[1] == "out" and shares["kept"]):
            return at
        shares[found[1]].append((block, found[4]))
    deal = (bits, tuple(shares["out"]), tuple(shares["kept"]))
    return deal if is_deal(deal) else len(rows)


def rules_in(bits, text):
    """The rules that a text writes, or the row at which it is refused, row by row as promised."""
    rows = text.split("\n") if text != "" else []
    rules = []
    for at, row in enumerate(rows):
        found = re.fullmatch(r"([01]*)(\*?) ([01])", row)
        block = found and written_block(bits, found[1], found[2])
        if not block:
            return at
        rules.append((block, int(found[3])))
    return tuple(rules) if are_rules(bits, tuple(rules)) else len(rows)


def read(reader, *things):
    """What is read, or the row at which it is refused."""
    try:
        return reader(*things)
    except NoText as refusal:
        return refusal.row


def spoilt_text(source, text):
    """A text with a sign or a row left out, put in or exchanged."""
    if source.random() < 0.6:
        return "".join(spoilt(source, list(text), list("01* \nbitsoukepa%~79")))
    rows = text.split("\n")
    return "\n".join(spoilt(source, rows, rows + [""]))


class Written(unittest.TestCase):
    def test_deals(self):
        self.assertEqual(show_deal((1, (), ())), "bits 1")
        self.assertEqual(show_deal((64, (((0, 64), "abcdefgh"),), ())), "bits 64\nout * abcdefgh")
        self.assertEqual(show_deal((3, (((0, 1), "b"), ((4, 0), "a")), (((2, 1), "c"), ((6, 1), "b")))),
                         "bits 3\nout 00* b\nout 100 a\nkept 01* c\nkept 11* b")
        self.assertEqual(show_deal((2, (), (((3, 0), "z"),))), "bits 2\nkept 11 z")

    def test_rules(self):
        self.assertEqual(show_rules(3, ()), "")
        self.assertEqual(show_rules(3, (((0, 3), 1),)), "* 1")
        self.assertEqual(show_rules(3, (((0, 1), 0), ((0, 3), 1), ((7, 0), 0))), "00* 0\n* 1\n111 0")
        self.assertEqual(show_rules(64, (((2 ** 63, 63), 1),)), "1* 1")


class ThereAndBack(unittest.TestCase):
    def test_deals_of_small_rows(self):
        for bits, step in [(1, 1), (2, 7)]:
            for deal in all_deals(bits, ("a", "b"))[::step]:
                self.there_and_back(deal)

    def test_deals_of_every_width(self):
        source = chance(120)
        for bits in range(1, 65):
            for many in (1, 5, 40):
                self.there_and_back(some_deal(source, bits, many, names=("a", "bcd", "zzzzzzzz")))

    def there_and_back(self, deal):
        text = show_deal(deal)
        self.assertIs(type(text), str)
        self.assertEqual(deal_in(text), deal)
        told = read_deal(text)
        self.assertEqual(told, deal)
        self.assertTrue(is_told(told))
        self.assertEqual((show_deal(deal), read_deal(text)), (text, told))

    def test_two_hundred_blocks(self):
        source = chance(121)
        outs = tuple(sorted({((source.randrange(2 ** 60) << 4, 4), "a") for _ in range(200)}))
        self.there_and_back((64, outs, ()))

    def test_rules_of_small_rows(self):
        for bits in (1, 2):
            for many in (0, 1, 2, 3):
                for rules in rule_sets(bits, many):
                    self.rules_there_and_back(bits, rules)

    def test_rules_of_every_width(self):
        source = chance(122)
        for bits in range(1, 65):
            for many in (1, 5, 40):
                self.rules_there_and_back(bits, some_rules(source, bits, many))

    def rules_there_and_back(self, bits, rules):
        text = show_rules(bits, rules)
        self.assertIs(type(text), str)
        self.assertEqual(rules_in(bits, text), rules)
        told = read_rules(bits, text)
        self.assertEqual(told, rules)
        self.assertTrue(is_told(told))


class ReadDeal(unittest.TestCase):
    def refused(self, text, row):
        with self.assertRaises(NoText) as caught:
            read_deal(text)
        self.assertIs(type(caught.exception), NoText)
        self.assertIs(type(caught.exception.row), int)
        self.assertEqual(caught.exception.row, row, text)
        if isinstance(text, str):
            self.assertEqual(deal_in(text), row)

    def test_the_first_row(self):
        for row in ["", "\n", "bits", "bits ", "bits 0", "bits 00", "bits 01", "bits 08", "bits 65", "bits 100",
                    "bits 6 4", "bits -1", "bits +1", "bits  8", " bits 8", "bits 8 ", "bit 8", "Bits 8", "bits8", "8",
                    "bits x", "bits 8 8", "bits 1_0", "bits " + "1" * 5000, "bits 9" + "9" * 30, "out 0 a", "kept 0 a",
                    "out * a", "bits 0x8", "bits 8.", "bits *"]:
            for rest in ["", "\nout * a", "\nbits 8", "\nnonsense"]:
                self.refused(row + rest, 0)
        for bits in range(1, 65):
            self.assertEqual(read_deal(f"bits {bits}"), (bits, (), ()))

    def test_rows_of_no_form(self):
        for row in ["", " ", "out", "out 0*", "out 0* ", "out  0* a", "out 0*  a", " out 0* a", "out 0* a ", "Out 0* a",
                    "outs 0* a", "out 0*a", "out 0* A", "out 0* abcdefghi", "out 0* a1", "out 0* a b", "out a 0*",
                    "out 2* a", "out 0 a", "out 000* a", "out 0000 a", "out 0** a", "out *0 a", "out  a", "out 0x* a",
                    "free 0* a", "keep 0* a", "kept 0*", "kept 0* 1", "kept 0* a\t", "0* a", "0* 1", "nonsense", "out 0*  ",
                    "out -0* a", "kept", "bits"]:
            self.refused("bits 3\n" + row, 1)
            self.refused("bits 3\n" + row + "\nout 1* a", 1)
            self.refused("bits 3\nout 11* a\n" + row, 2)
            self.refused("bits 3\nout 11* a\nkept 10* b\n" + row + "\nnonsense", 3)

    def test_rows_where_they_may_not_stand(self):
        self.refused("bits 3\nbits 3", 1)
        self.refused("bits 3\nout 0* a\nbits 3", 2)
        self.refused("bits 3\nkept 0* a\nout 1* a", 2)
        self.refused("bits 3\nout 00* a\nkept 01* a\nkept 10* a\nout 11* a", 4)
        self.refused("out 0* a\nbits 3", 0)
        # The first such row is told, ahead of what else is wrong with the deal.
        self.refused("bits 3\nout 1* a\nout 0* a\nbits 3", 3)

    def test_line_feeds(self):
        self.refused("bits 3\n", 1)
        self.refused("\nbits 3", 0)
        self.refused("bits 3\n\nout 0* a", 1)
        self.refused("bits 3\nout 0* a\n", 2)
        self.refused("bits 3\nout 0* a\n\n", 2)

    def test_no_deal(self):
        for rows in [
            "out 1* a\nout 0* a", "out 0* a\nout 0* a", "out 0* a\nout 0* b", "out 0* a\nout 00* a", "out 00* a\nout 0* a",
            "kept 1* a\nkept 0* a", "kept * a\nkept 111 b", "out 0* a\nkept 0* b", "out * a\nkept 000 b",
            "out 000 b\nkept 0* a", "out 0* a\nkept 1* b\nkept 11* b",
        ]:
            self.refused("bits 3\n" + rows, rows.count("\n") + 2)
        self.assertEqual(read_deal("bits 3\nout 0* a\nkept 0* a"), (3, (((0, 2), "a"),), (((0, 2), "a"),)))

    def test_no_text(self):
        for thing in strange_things() + spoilt_blocks() + [ANY, b"bits 3", ["bits 3"], ("bits 3",), {"bits 3"}, 3,
                                                           bytearray(b"bits 3"), (3, (), ())]:
            self.refused(thing, 0)
        self.assertEqual(read_deal(Text("bits 3")), (3, (), ()))

    def test_no_names(self):
        for name in no_names():
            if isinstance(name, str) and name.isascii():
                row = 2 if name == "a\n" else 1
                self.refused(f"bits 3\nout 0* {name}", row)

    def test_spoilt_by_chance(self):
        source = chance(123)
        found = {"right": 0, "row": 0, "all": 0}
        for bits in WIDTHS:
            for _ in range(150):
                text = show_deal(some_deal(source, bits, source.choice((1, 3, 6))))
                for _ in range(source.choice((1, 1, 2))):
                    text = spoilt_text(source, text)
                wanted = deal_in(text)
                self.assertEqual(read(read_deal, text), wanted, text)
                rows = len(text.split("\n"))
                found["right" if isinstance(wanted, tuple) else "all" if wanted == rows else "row"] += 1
        self.assertGreater(min(found.values()), 20, found)


class ReadRules(unittest.TestCase):
    def refused(self, bits, text, row):
        with self.assertRaises(NoText) as caught:
            read_rules(bits, text)
        self.assertIs(type(caught.exception), NoText)
        self.assertEqual(caught.exception.row, row, text)
        if isinstance(text, str):
            self.assertEqual(rules_in(bits, text), row)

    def test_none(self):
        for bits in range(1, 65):
            self.assertEqual(read_rules(bits, ""), ())

    def test_rows_of_no_form(self):
        for row in ["", " ", "0*", "0* ", "0*  1", " 0* 1", "0* 1 ", "0* 2", "0* -1", "0* 01", "0* 10", "0* a", "1 0*",
                    "0 1", "000* 1", "0000 1", "0** 1", "*0 1", " 1", "1", "0* 1 1", "bits 3", "2* 1", "0*1", "0* True",
                    "out 0* a"]:
            if row:
                self.refused(3, row, 0)
            self.refused(3, row + "\n1* 1", 0)
            self.refused(3, "0* 1\n" + row, 1)
            self.refused(3, "0* 1\n1* 0\n" + row + "\nnonsense", 2)

    def test_no_rules(self):
        for text in ["1* 1\n0* 1", "0* 1\n0* 1", "0* 0\n0* 1", "0* 1\n0* 0", "* 1\n0* 1", "00* 1\n* 0\n0* 1"]:
            self.refused(3, text, text.count("\n") + 1)
        self.assertEqual(read_rules(3, "0* 1\n* 1"), (((0, 2), 1), ((0, 3), 1)))

    def test_line_feeds(self):
        for text, row in [("\n", 0), ("0* 1\n", 1), ("\n0* 1", 0), ("0* 1\n\n1* 1", 1)]:
            self.refused(3, text, row)

    def test_no_text(self):
        for thing in strange_things() + spoilt_blocks() + [ANY, b"", b"0* 1", ["0* 1"], (((0, 2), 1),)]:
            if thing == "" and isinstance(thing, str):
                continue
            self.refused(3, thing, 0)

    def test_spoilt_by_chance(self):
        source = chance(124)
        found = {"right": 0, "row": 0, "all": 0}
        for bits in WIDTHS:
            for _ in range(150):
                text = spoilt_text(source, show_rules(bits, some_rules(source, bits, source.choice((1, 3, 6)))))
                wanted = rules_in(bits, text)
                self.assertEqual(read(read_rules, bits, text), wanted, text)
                rows = len(text.split("\n"))
                found["right" if isinstance(wanted, tuple) else "all" if wanted == rows else "row"] += 1
        self.assertGreater(min(found.values()), 20, found)


if __name__ == "__main__":
    unittest.main()
