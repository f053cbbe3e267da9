"""Tests of blockdeal.beginnings: promises [5] and [2]."""

import itertools
import unittest

from blockdeal.beginnings import beginning, block_of
from tests.helper import addresses, all_blocks, chance, is_plain, some_block

TOP = 2 ** 64


def written(bits, address):
    """An address by as many figures as there are bits."""
    return format(address, f"0{bits}b")


def by_its_addresses(bits, block):
    """The beginning of a block of a narrow row: what all its addresses, written out, begin with."""
    rows = [written(bits, address) for address in sorted(addresses([block]))]
    common = rows[0]
    while not all(row.startswith(common) for row in rows):
        common = common[:-1]
    return common if len(rows) == 1 else common + "*"


class Beginning(unittest.TestCase):
    def test_every_block_of_narrow_rows(self):
        for bits in range(1, 7):
            for block in all_blocks(bits):
                self.assertEqual(beginning(bits, block), by_its_addresses(bits, block))

    def test_the_whole_row(self):
        for bits in range(1, 65):
            self.assertEqual(beginning(bits, (0, bits)), "*")
            self.assertEqual(block_of(bits, "*"), (0, bits))

    def test_a_single_address(self):
        self.assertEqual(beginning(1, (0, 0)), "0")
        self.assertEqual(beginning(1, (1, 0)), "1")
        self.assertEqual(beginning(5, (5, 0)), "00101")
        self.assertEqual(beginning(64, (0, 0)), "0" * 64)
        self.assertEqual(beginning(64, (TOP - 1, 0)), "1" * 64)
        self.assertEqual(beginning(64, (2 ** 63 + 1, 0)), "1" + "0" * 62 + "1")

    def test_wide_blocks(self):
        self.assertEqual(beginning(64, (0, 63)), "0*")
        self.assertEqual(beginning(64, (2 ** 63, 63)), "1*")
        self.assertEqual(beginning(64, (TOP - 2, 1)), "1" * 63 + "*")
        self.assertEqual(beginning(64, (2 ** 63 + 2 ** 60, 60)), "1001*")
        self.assertEqual(beginning(33, (2 ** 32 + 2 ** 30, 30)), "101*")

    def test_the_same_again(self):
        for block in [(0, 8), (3, 0), (128, 7)]:
            self.assertIs(type(beginning(8, block)), str)
            self.assertEqual(beginning(8, block), beginning(8, block))


class BlockOf(unittest.TestCase):
    def test_every_text_of_few_signs(self):
        for bits in range(1, 5):
            table = {by_its_addresses(bits, block): block for block in all_blocks(bits)}
            for length in range(bits + 3):
                for signs in itertools.product("01*2 ", repeat=length):
                    text = "".join(signs)
                    self.assertEqual(block_of(bits, text), table.get(text), (bits, text))

    def test_back_and_forth_of_wide_rows(self):
        source = chance(6)
        for bits in range(1, 65):
            for height in range(bits + 1):
                block = some_block(source, bits, [height])
                text = beginning(bits, block)
                self.assertEqual(len(text), bits - height + (height > 0))
                self.assertEqual(block_of(bits, text), block)
                self.assertTrue(is_plain(block_of(bits, text)))
                head = text.rstrip("*")
                last = block[0] + 2 ** height - 1
                self.assertTrue(written(bits, block[0]).startswith(head))
                self.assertTrue(written(bits, last).startswith(head))

    def test_wide_texts(self):
        self.assertEqual(block_of(64, "1" * 64), (TOP - 1, 0))
        self.assertEqual(block_of(64, "1" * 63 + "*"), (TOP - 2, 1))
        self.assertEqual(block_of(64, "1*"), (2 ** 63, 63))
        self.assertEqual(block_of(64, "0" * 64), (0, 0))

    def test_a_figure_or_a_star_more_or_fewer(self):
        for bits in (1, 2, 8, 64):
            full = ("10" * bits)[:bits]
            for text in [full + "0", full + "1", full + "*", full + "0*", full + "**", full[:-1], "",
                         full[:-1] + "**", "*" + full, "**", full[:-1] + " *", full + " ", " " + full,
                         full + "\n", full[:-1] + "*\n", "\n" + full, full * 3, full * 3 + "*"]:
                self.assertIsNone(block_of(bits, text), (bits, text))

    def test_a_star_elsewhere(self):
        for text in ["*1", "1*1", "*11", "1*1*", "*1*", "1*0"]:
            self.assertIsNone(block_of(3, text), text)

    def test_other_signs(self):
        for sign in [chr(code) for code in range(32, 127) if chr(code) not in "01*"] + ["\n"]:
            for bits, text in [(1, sign), (3, sign + "10"), (3, "1" + sign + "0"), (3, "10" + sign),
                               (4, "1" + sign + "*"), (4, sign + "*"), (2, "1" + sign), (2, sign + "*")]:
                self.assertIsNone(block_of(bits, text), (bits, text))
        for text in ["-10", "+10", "1_0", "0b1", "0b1*", "1 0", "1e0", "1.0", "None", "-1*", "_1*",
                     "01 *", "abc", "012"]:
            self.assertIsNone(block_of(3, text), text)
            self.assertIsNone(block_of(4, text), text)

    def test_long_texts(self):
        self.assertIsNone(block_of(64, "1" * 5000))
        self.assertIsNone(block_of(64, "0" * 5000 + "*"))
        self.assertIsNone(block_of(64, "*" * 65))


if __name__ == "__main__":
    unittest.main()
