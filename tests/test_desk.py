"""Tests of blockdeal.desk: promises [17], [3] (g) and [2]."""

import re
import unittest
from unittest.mock import ANY

from blockdeal.beginnings import beginning, block_of
from blockdeal.dealing import done
from blockdeal.deals import free_for, holder, out_to
from blockdeal.desk import Desk
from blockdeal.errors import DealError, NoDeed, NoLine, NoRoom, NoText, NotTheirs
from blockdeal.fewrules import many_rules
from blockdeal.moves import least_moves
from blockdeal.reading import read_deal
from blockdeal.refusals import had, shows_none
from blockdeal.showing import show_deal
from tests.helper import (
    Text, chance, nested, no_names, some_block, some_deal, spoilt, spoilt_blocks, strange_things,
)

NAMES = ("a", "b", "c")
WIDTHS = (1, 2, 3, 5, 8, 31, 33, 63, 64)
NAME = "([a-z]{1,8})"
NUMBER = "(0|[1-9][0-9]{0,19})"
BLOCK = r"([01]*\*?)"
DEEDS = {
    "take": f"{NAME} {NUMBER}", "near": f"{NAME} {NUMBER} {NUMBER}", "give": f"{NAME} {BLOCK}", "grow": f"{NAME} {BLOCK}",
    "keep": f"{NAME} {BLOCK}", "loose": f"{NAME} {BLOCK}", "move": f"{NAME} {BLOCK} {BLOCK}",
}
REFUSALS = {NoDeed: "no deed", NotTheirs: "not theirs", NoRoom: "no room"}


class Model:
    """A desk by what done, free_for and the others tell, its lines told by patterns."""

    def __init__(self, text):
        self.deals = [read_deal(text)]

    def say(self, line):
        """The answer, or NoLine."""
        for ask in (self.deed, self.question):
            told = ask(self.deals[-1], line)
            if told is not None:
                return told
        if line == "back":
            if len(self.deals) == 1:
                return "-"
            self.deals.pop()
            return "ok"
        return NoLine

    def deed(self, deal, line):
        word, blank, rest = line.partition(" ")
        found = re.fullmatch(DEEDS[word], rest) if word in DEEDS and blank else None
        if not found:
            return None
        name, *parts = found.groups()
        blocks = word not in ("take", "near")
        parts = [block_of(deal[0], part) if blocks else int(part) for part in parts]
        if None in parts:
            return NoLine
        try:
            behind, told = done(deal, (word, name, *parts))
        except DealError as refusal:
            return REFUSALS[type(refusal)]
        self.deals.append(behind)
        if told is None:
            return "ok"
        return listed(deal[0], told if word == "give" else [told])

    def question(self, deal, line):
        bits = deal[0]
        if line == "deal":
            return show_deal(deal)
        if line == "free":
            return listed(bits, free_for(deal, None))
        if found := re.fullmatch(f"free {NAME}", line):
            return listed(bits, free_for(deal, found[1]))
        if found := re.fullmatch(f"out {NAME}", line):
            return listed(bits, out_to(deal, found[1]))
        if found := re.fullmatch(f"rules {NAME}", line):
            return str(many_rules(bits, out_to(deal, found[1])))
        if (found := re.fullmatch(f"who {NUMBER}", line)) and int(found[1]) < 2 ** bits:
            word, name, block = holder(deal, int(found[1]))
            return " ".join([word, name or "-", beginning(bits, block)])
        if (found := re.fullmatch(f"none {NAME} {NUMBER}", line)) and int(found[2]) <= bits:
            word, told = had(deal, found[1], int(found[2]))
            return "-" if word == "block" else ", ".join(f"{beginning(bits, block)} {kind}" for block, kind in told)
        if found := re.fullmatch(f"moves {NAME} {NUMBER} {NUMBER}", line):
            if int(found[2]) <= bits and int(found[3]) <= 3000:
                told = least_moves(deal, found[1], int(found[2]), (), int(found[3]))
                return str(len(told[1])) if told[0] == "moves" else told[0]
        return None


def listed(bits, blocks):
    """Blocks as a text."""
    return " ".join(beginning(bits, block) for block in blocks) or "-"


def said(desk, line):
    """What a desk tells, or the class that refuses."""
    try:
        return desk.say(line)
    except DealError as refusal:
        return type(refusal)


def some_line(source, deal):
    """A line for a desk with this deal, often such as can be done."""
    bits, outs, kept = deal
    word = source.choice(list(DEEDS) + ["take", "give", "free", "out", "who", "none", "rules", "moves", "back", "deal"])
    name = source.choice(NAMES)
    height = source.choice((0, 1, source.randrange(bits + 1), source.randrange(bits + 1), bits, bits + 1))
    address = source.choice((0, 2 ** bits - 1, 2 ** bits, source.randrange(2 ** bits)))
    block = some_block(source, bits)
    shares = kept if word == "loose" else outs
    if shares and word != "keep" and source.random() < 0.8:
        block, name = source.choice(shares)
    to = some_block(source, bits, [block[1]] if source.random() < 0.9 else None)
    if word == "give" and block[1] > 0 and source.random() < 0.4:
        block = (block[0], block[1] - 1)
    if word == "free":
        return source.choice(("free", f"free {name}"))
    most = source.choice((0, 1, 5, 20)) if bits <= 8 else source.choice((0, 5))
    behind = {
        "take": f" {name} {height}", "near": f" {name} {height} {address}", "out": f" {name}", "rules": f" {name}",
        "move": f" {name} {beginning(bits, block)} {beginning(bits, to)}", "who": f" {address}",
        "none": f" {name} {height}", "moves": f" {name} {height} {most}", "back": "", "deal": "",
    }
    return word + behind.get(word, f" {name} {beginning(bits, block)}")


def spoilt_line(source, line):
    """A line with a sign or a word left out, put in or exchanged."""
    if source.random() < 0.5:
        return "".join(spoilt(source, list(line), list("01* \nab9%-")))
    words = ["", "a", "0", "*", "00", "1*", "99", "free", "back", "3001"]
    return " ".join(spoilt(source, line.split(" "), words))


class Texts(unittest.TestCase):
    def test_refused_as_its_text_is_read(self):
        for text, row in [("", 0), ("bits 65", 0), ("bits 3\nout 2* a", 1), ("bits 3\nkept 0* a\nout 1* a", 2),
                          ("bits 3\nout 1* a\nout 0* a", 3), ("bits 3\n", 1), (None, 0), (3, 0), (b"bits 3", 0), (ANY, 0)]:
            with self.assertRaises(NoText) as caught:
                Desk(text)
            self.assertEqual(caught.exception.row, row)
        for thing in strange_things() + spoilt_blocks():
            with self.assertRaises(NoText) as caught:
                Desk(thing)
            self.assertEqual(caught.exception.row, 0)

    def test_its_own_text(self):
        source = chance(130)
        for bits in range(1, 65):
            text = show_deal(some_deal(source, bits, 6))
            self.assertEqual(Desk(text).say("deal"), text)
            self.assertEqual(Desk(text).say("back"), "-")


class ByHand(unittest.TestCase):
    def told(self, text, *pairs):
        desk = Desk(text)
        for line, wanted in pairs:
            told = desk.say(line)
            self.assertIs(type(told), str)
            self.assertEqual(told, wanted, line)
        return desk

    def test_deeds(self):
        self.told(
            "bits 3",
            ("take ann 1", "00*"), ("take ann 0", "010"), ("near bob 0 6", "110"), ("give ann 001", "000"),
            ("grow ann 000", "00*"), ("keep cy 10*", "ok"), ("take cy 1", "10*"), ("move ann 010 011", "ok"),
            ("give ann 00*", "-"), ("loose cy 10*", "ok"), ("give cy 101", "100"), ("take dee 1", "00*"),
            ("deal", "bits 3\nout 00* dee\nout 011 ann\nout 100 cy\nout 110 bob"),
            ("give dee 00*", "-"), ("take zz 3", "no room"),
        )
        self.told("bits 3", ("take ann 3", "*"), ("give ann 011", "00* 010 1*"), ("back", "ok"), ("out ann", "*"))
        self.told("bits 64", ("near ann 0 18446744073709551615", "1" * 64), ("near ann 63 0", "0*"),
                  ("near ann 0 18446744073709551616", "no deed"))

    def test_refused_deeds(self):
        desk = self.told(
            "bits 2\nout 0* ann\nkept 10 bob",
            ("take ann 1", "no room"), ("near cy 1 3", "no room"), ("give bob 0*", "not theirs"),
            ("give ann 11", "not theirs"), ("grow ann 00", "not theirs"), ("grow ann 0*", "no room"),
            ("keep bob 10", "no room"), ("loose ann 10", "not theirs"), ("move ann 0* 1*", "no room"),
            ("move bob 0* 1*", "not theirs"), ("move ann 0* 11", "no deed"), ("move ann 0* *", "no deed"),
            ("take ann 3", "no deed"), ("take ann 99999999999999999999", "no deed"), ("near ann 0 4", "no deed"),
            ("near ann 3 0", "no deed"), ("near ann 0 99999999999999999999", "no deed"),
            ("deal", "bits 2\nout 0* ann\nkept 10 bob"), ("back", "-"),
        )
        self.assertEqual(desk.say("take cy 0"), "11")
        self.assertEqual(desk.say("back"), "ok")

    def test_questions(self):
        self.told(
            "bits 3\nout 00* ann\nkept 1* bob",
            ("free", "01*"), ("free ann", "01*"), ("free bob", "01* 1*"), ("free zz", "01*"), ("out ann", "00*"),
            ("out bob", "-"), ("who 0", "out ann 00*"), ("who 2", "free - 01*"), ("who 7", "kept bob 1*"),
            ("none ann 2", "00* out, 01* free, 1* kept"), ("none ann 1", "-"), ("none bob 2", "-"),
            ("none bob 3", "00* out, 01* free, 1* free"), ("rules ann", "1"), ("rules bob", "0"),
            ("moves ann 1 0", "0"), ("moves ann 2 3000", "never"), ("moves ann 2 1", "open"), ("back", "-"),
        )
        self.told("bits 1\nout * ann", ("free", "-"), ("free ann", "-"), ("none ann 0", "* out"), ("rules ann", "1"))
        self.told("bits 2\nout 00 ann\nout 10 bob", ("moves cy 1 1", "1"), ("moves cy 1 0", "open"),
                  ("moves cy 0 0", "0"), ("free", "01 11"))
        self.told("bits 2\nout 00 ann\nout 01 ann\nout 1* ann", ("out ann", "*"), ("rules ann", "1"), ("who 0", "out ann 00"))
        self.told("bits 2\nout 00 ann\nout 01 ann\nout 10 ann", ("out ann", "0* 10"), ("rules ann", "2"))

    def test_back(self):
        self.told(
            "bits 2\nout 00 ann",
            ("back", "-"), ("take bob 0", "01"), ("take bob 0", "10"), ("take bob 2", "no room"), ("free", "11"),
            ("back", "ok"), ("out bob", "01"), ("keep cy 1*", "ok"), ("back", "ok"), ("back", "ok"), ("back", "-"),
            ("back", "-"), ("deal", "bits 2\nout 00 ann"), ("give ann 00", "-"), ("back", "ok"), ("out ann", "00"),
        )

    def test_two_desks(self):
        one, other = Desk("bits 3"), Desk("bits 3")
        one.say("take ann 1")
        self.assertEqual((other.say("deal"), other.say("back")), ("bits 3", "-"))
        self.assertEqual(one.say("out ann"), "00*")


class NoLines(unittest.TestCase):
    text = "bits 3\nout 00* ann\nkept 1* bob"

    def refused(self, line, desk=None):
        desk = desk or Desk(self.text)
        ahead = desk.say("deal")
        with self.assertRaises(NoLine) as caught:
            desk.say(line)
        self.assertIs(type(caught.exception), NoLine)
        self.assertEqual((desk.say("deal"), desk.say("back")), (ahead, "-"))

    def test_no_forms(self):
        right = ["take ann 0", "near ann 0 0", "give ann 00*", "grow ann 00*", "keep ann 01*", "loose bob 1*",
                 "move ann 00* 01*", "free", "free ann", "out ann", "who 0", "none ann 0", "rules ann", "moves ann 0 0",
                 "back", "deal"]
        for line in right:
            self.assertIsInstance(Desk(self.text).say(line), str)
            self.assertIsInstance(Desk(self.text).say(Text(line)), str)
            words = line.split(" ")
            for wrong in [" " + line, line + " ", line + "\n", "\n" + line, line.upper(), line.capitalize(),
                                line + " x x x", line.replace(" ", "  ") + " ", line + "\nfree", line + "\t", "x" + line,
                                line + " 0 0 0", line + "*", line + "\r"]:
                self.refused(wrong)
            if len(words) > 1:
                self.refused(line.replace(" ", "  ", 1))
                self.refused(line.replace(" ", "\n"))
                self.refused(line.replace(" ", "\t"))
                self.refused("".join(words))
                self.refused(" ".join(words[1:]))
                self.refused(" ".join(words[::-1]))
                if line != "free ann":
                    self.refused(" ".join(words[:-1]))
            if line != "free":
                self.refused(line + " ann")
        for line in ["", " ", "\n", "-", "ok", "help", "takes ann 0", "tak ann 0", "frees", "free ann bob", "back 1",
                     "deal 1", "bits 3", "out 00* ann", "kept 1* bob", "take", "near", "moves", "who", "out", "none"]:
            self.refused(line)

    def test_no_numbers(self):
        for number in ["00", "01", "007", "-1", "+1", "-0", "1_0", "0x1", "1.", "1.0", "", "a", "*", "1*", "one", "1e1",
                       "1" * 21, "9" * 21, "0" * 20, "1" * 5000, "0" * 21]:
            for line in [f"take ann {number}", f"near ann {number} 0", f"near ann 0 {number}", f"who {number}",
                         f"none ann {number}", f"moves ann {number} 0", f"moves ann 0 {number}"]:
                self.refused(line)
        for number in ["9" * 20, "1" + "0" * 19]:
            self.assertEqual(Desk(self.text).say(f"take ann {number}"), "no deed")

    def test_heights_and_addresses_that_are_none(self):
        for bits in (1, 3, 8, 64):
            text = f"bits {bits}"
            for line in [f"none ann {bits + 1}", f"moves ann {bits + 1} 5", f"who {2 ** bits}", "none ann " + "9" * 20,
                         "who " + "9" * 20, "moves ann " + "9" * 20 + " 5"]:
                self.refused(line, Desk(text))
            self.assertEqual(Desk(text).say(f"none ann {bits}"), "-")
            self.assertEqual(Desk(text).say(f"moves ann {bits} 5"), "0")
            self.assertEqual(Desk(text).say(f"who {2 ** bits - 1}"), "free - *")
            for line in [f"take ann {bits + 1}", f"near ann {bits + 1} 0", f"near ann 0 {2 ** bits}"]:
                self.assertEqual(Desk(text).say(line), "no deed")

    def test_a_most_beyond(self):
        self.assertEqual(Desk(self.text).say("moves ann 1 3000"), "0")
        for most in (3001, 4000, 10 ** 19):
            self.refused(f"moves ann 1 {most}")

    def test_blocks_that_are_none(self):
        for block in ["", "0", "01", "0000", "000*", "0**", "*0", "2*", "x", "0*1", "**", "-", "(0, 1)"]:
            for word in ("give", "grow", "keep", "loose"):
                self.refused(f"{word} ann {block}")
            self.refused(f"move ann {block} 00*")
            self.refused(f"move ann 00* {block}")

    def test_names_that_are_none(self):
        for name in no_names():
            if isinstance(name, str) and name.isascii():
                for behind in ["take {} 0", "near {} 0 0", "give {} 00*", "grow {} 00*", "keep {} 01*", "loose {} 1*",
                               "move {} 00* 01*", "free {}", "out {}", "none {} 0", "rules {}", "moves {} 0 0"]:
                    self.refused(behind.format(name))

    def test_anything(self):
        for thing in strange_things() + spoilt_blocks() + [ANY, b"free", ["free"], ("free",), {"free"}, {"free": 1},
                                                           ("take", "ann", 0), nested(58, "free"), bytearray(b"free")]:
            self.refused(thing)


class AsTheyDo(unittest.TestCase):
    def test_rows_of_lines(self):
        source = chance(131)
        seen = {}
        for bits in WIDTHS:
            for many in (0, 2, 6):
                text = show_deal(some_deal(source, bits, many))
                desk, model = Desk(text), Model(text)
                for _ in range(150):
                    line = some_line(source, model.deals[-1])
                    if source.random() < 0.2:
                        line = spoilt_line(source, line)
                    wanted = model.say(line)
                    self.assertEqual(said(desk, line), wanted, line)
                    self.assertEqual(desk.say("deal"), show_deal(model.deals[-1]))
                    seen[wanted] = seen.get(wanted, 0) + 1
        for told in ["no deed", "not theirs", "no room", "ok", "-", "never", "open", NoLine]:
            self.assertGreater(seen.get(told, 0), 1, told)

    def test_questions_change_nothing(self):
        source = chance(132)
        for bits in (2, 5, 8, 64):
            text = show_deal(some_deal(source, bits, 6))
            desk = Desk(text)
            for _ in range(60):
                line = some_line(source, read_deal(text))
                if line.split(" ")[0] in DEEDS or line == "back":
                    continue
                self.assertEqual(said(desk, line), said(desk, line))
                self.assertEqual(desk.say("deal"), text)
            self.assertEqual(desk.say("back"), "-")

    def test_papers_of_none_are_taken(self):
        source = chance(133)
        for bits in WIDTHS:
            deal = some_deal(source, bits, 8)
            desk = Desk(show_deal(deal))
            for name in NAMES:
                for height in {0, bits // 2, bits}:
                    told = desk.say(f"none {name} {height}")
                    self.assertIs(told == "-", had(deal, name, height)[0] == "block")
                    if told != "-":
                        rows = [row.split(" ") for row in told.split(", ")]
                        paper = tuple((block_of(bits, block), word) for block, word in rows)
                        self.assertIs(shows_none(deal, name, height, paper), True)


if __name__ == "__main__":
    unittest.main()
