"""Tests of blockdeal.deeds: promises [10] and [2]."""

import copy
import itertools
import unittest
from unittest.mock import ANY

from blockdeal.deeds import is_deed
from tests.helper import all_blocks, nested, no_names, spoilt_blocks, strange_things

TOP = 2 ** 64
ONE_BLOCK = ("give", "grow", "keep", "loose")
NO_NUMBERS = [True, False, None, "0", "", b"\x00", (), (0,), [0], {}, {0}, (0, 0), ("a",), nested(58), len, ANY]


def one_of_each(bits):
    """A deed of each word, of a row."""
    block, last = (0, bits - 1), (2 ** (bits - 1), bits - 1)
    deeds = [("take", "a", bits), ("near", "abcdefgh", 0, 2 ** bits - 1), ("move", "z", block, last)]
    return deeds + [(word, "zy", last) for word in ONE_BLOCK]


class IsDeed(unittest.TestCase):
    def test_deeds_of_every_width(self):
        for bits in range(1, 65):
            for deed in one_of_each(bits):
                self.assertIs(is_deed(bits, deed), True, deed)

    def test_every_height_and_address(self):
        for bits in (1, 2, 3, 4):
            for height in range(-2, bits + 3):
                right = 0 <= height <= bits
                self.assertIs(is_deed(bits, ("take", "a", height)), right)
                for address in range(-2, 2 ** bits + 2):
                    inside = 0 <= address < 2 ** bits
                    self.assertIs(is_deed(bits, ("near", "a", height, address)), right and inside)

    def test_edges_of_every_width(self):
        for bits in range(1, 65):
            self.assertIs(is_deed(bits, ("take", "a", 0)), True)
            self.assertIs(is_deed(bits, ("take", "a", bits + 1)), False)
            self.assertIs(is_deed(bits, ("take", "a", -1)), False)
            self.assertIs(is_deed(bits, ("near", "a", bits, 0)), True)
            self.assertIs(is_deed(bits, ("near", "a", bits, 2 ** bits)), False)
            self.assertIs(is_deed(bits, ("near", "a", bits + 1, 0)), False)
            self.assertIs(is_deed(bits, ("near", "a", bits, -1)), False)
            for word in ONE_BLOCK:
                self.assertIs(is_deed(bits, (word, "a", (0, bits))), True)
                self.assertIs(is_deed(bits, (word, "a", (0, bits + 1))), False)
                self.assertIs(is_deed(bits, (word, "a", (2 ** bits, 0))), False)
            self.assertIs(is_deed(bits, ("move", "a", (0, bits), (0, bits))), True)
            self.assertIs(is_deed(bits, ("move", "a", (0, 0), (2 ** bits, 0))), False)
            self.assertIs(is_deed(bits, ("move", "a", (2 ** bits, 0), (0, 0))), False)

    def test_every_two_blocks_of_a_move(self):
        for bits in (1, 2, 3):
            for block, to in itertools.product(all_blocks(bits), repeat=2):
                self.assertIs(is_deed(bits, ("move", "a", block, to)), block[1] == to[1], (block, to))

    def test_every_block_of_one_block(self):
        for word in ONE_BLOCK:
            for begin in range(-1, 10):
                for height in range(-1, 5):
                    right = (begin, height) in all_blocks(3)
                    self.assertIs(is_deed(3, (word, "a", (begin, height))), right)

    def test_other_words(self):
        words = ["", "Take", "TAKE", "take ", " take", "tak", "takes", "taken", "free", "out", "kept", "ask", "deed",
                 b"take", None, 0, True, ("take",), ["take"], {"take"}, {}, nested(58), "height", "block", ANY]
        for deed in one_of_each(3):
            for place, word in enumerate(words):
                self.assertIs(is_deed(3, (word,) + deed[1:]), False, place)

    def test_words_exchanged(self):
        words = ["take", "near", "move"] + list(ONE_BLOCK)
        for deed in one_of_each(3):
            for word in words:
                like = word == deed[0] or {word, deed[0]} <= set(ONE_BLOCK)
                self.assertIs(is_deed(3, (word,) + deed[1:]), like, (word, deed))

    def test_names_that_are_none(self):
        for deed in one_of_each(3):
            for place, name in enumerate(no_names()):
                self.assertIs(is_deed(3, deed[:1] + (name,) + deed[2:]), False, place)

    def test_heights_and_addresses_that_are_none(self):
        for place, thing in enumerate(NO_NUMBERS + [-1, TOP, -TOP, 2 ** 200]):
            self.assertIs(is_deed(3, ("take", "a", thing)), False, place)
            self.assertIs(is_deed(3, ("near", "a", thing, 0)), False, place)
            self.assertIs(is_deed(3, ("near", "a", 0, thing)), False, place)

    def test_blocks_that_are_none(self):
        for place, thing in enumerate(strange_things() + spoilt_blocks() + NO_NUMBERS[:9]):
            for word in ONE_BLOCK:
                self.assertIs(is_deed(3, (word, "a", thing)), False, place)
            self.assertIs(is_deed(3, ("move", "a", (0, 0), thing)), False, place)
            self.assertIs(is_deed(3, ("move", "a", thing, (0, 0))), False, place)
            self.assertIs(is_deed(3, ("move", "a", thing, thing)), False, place)

    def test_truths(self):
        for deed in [("take", "a", True), ("take", "a", False), ("near", "a", True, 0), ("near", "a", 0, True),
                     ("near", "a", 0, False), ("give", "a", (0, True)), ("grow", "a", (False, 0)),
                     ("move", "a", (0, 0), (True, 0)), ("move", "a", (0, False), (1, 0))]:
            self.assertIs(is_deed(3, deed), False, deed)

    def test_a_part_more_or_fewer(self):
        for deed in one_of_each(3):
            for place in range(len(deed)):
                fewer = deed[:place] + deed[place + 1:]
                self.assertIs(is_deed(3, fewer), False, fewer)
            for more in (None, 0, (0, 2), "a", ()):
                for place in range(len(deed) + 1):
                    self.assertIs(is_deed(3, deed[:place] + (more,) + deed[place:]), False, (deed, more, place))

    def test_lists(self):
        for deed in one_of_each(3):
            self.assertIs(is_deed(3, list(deed)), False, deed)
            self.assertIs(is_deed(3, (deed,)), False, deed)
            self.assertIs(is_deed(3, [deed]), False, deed)
            self.assertIs(is_deed(3, deed[:2] + (list(deed[2:]),)), False, deed)
            self.assertIs(is_deed(3, deed[:2] + (deed[2:],)), False, deed)
        self.assertIs(is_deed(3, ("give", "a", [0, 0])), False)
        self.assertIs(is_deed(3, ("move", "a", (0, 0), [1, 0])), False)

    def test_anything(self):
        for place, thing in enumerate(strange_things() + spoilt_blocks()):
            self.assertIs(is_deed(3, thing), False, place)
            self.assertIs(is_deed(64, thing), False, place)
            self.assertIs(is_deed(64, (thing, thing)), False, place)
            self.assertIs(is_deed(64, (thing, thing, thing)), False, place)

    def test_nothing_is_changed_and_the_same_is_told_again(self):
        things = one_of_each(8) + [["take", "a", 0], ("give", "a", [0, 0])]
        ahead = copy.deepcopy(things)
        for thing in things:
            self.assertIs(is_deed(8, thing), is_deed(8, thing))
        self.assertEqual(things, ahead)


if __name__ == "__main__":
    unittest.main()
