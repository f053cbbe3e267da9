"""Tests of blockdeal.patches over rows of every width, by stretches of addresses: [6], [3] (b)."""

import bisect
import unittest

from blockdeal.patches import (
    block_with, both, count_of, fewest, is_fewest, is_patch, rest_of, span, without,
)
from tests.helper import chance, is_plain, some_block, some_patch, stretches, stretches_of

WIDTHS = (1, 2, 3, 8, 31, 32, 33, 63, 64)


class Wide(unittest.TestCase):
    def told_right(self, bits, told, wanted):
        """What is told has just the wanted stretches, and each block of it is as great as can be."""
        self.assertEqual(stretches_of(told), wanted)
        self.assertTrue(is_plain(told))
        self.assertIs(is_patch(bits, told), True)
        self.assertIs(is_fewest(told), True)
        self.assertEqual(count_of(told), sum(high - low for low, high in wanted))
        begins = [low for low, high in wanted]
        for begin, height in told:
            low, high = wanted[bisect.bisect_right(begins, begin) - 1]
            size = 2 ** (height + 1)
            lower = begin // size * size
            self.assertFalse(height < bits and low <= lower and lower + size <= high, (begin, height))

    def pairs(self):
        source = chance(10)
        for bits in WIDTHS:
            for many in (0, 1, 3, 30, 200):
                low = range(min(bits, 3) + 1)
                yield bits, some_patch(source, bits, many), some_patch(source, bits, many)
                yield bits, some_patch(source, bits, many, low), some_patch(source, bits, many // 2)
                yield bits, some_patch(source, bits, many // 2), some_patch(source, bits, many, low)

    def test_fewest(self):
        source = chance(11)
        for bits in WIDTHS:
            for many in (0, 1, 2, 20, 200):
                for heights in (range(bits + 1), range(bits // 2 + 1), range(max(bits - 8, 0), bits)):
                    blocks = [some_block(source, bits, heights) for _ in range(many)]
                    blocks += blocks[: many // 4]
                    self.told_right(bits, fewest(blocks), stretches_of(blocks))
                    self.assertEqual(fewest(tuple(blocks)), fewest(blocks))
                    self.assertEqual(fewest(fewest(blocks)), fewest(blocks))

    def test_span(self):
        source = chance(12)
        for bits in WIDTHS:
            for _ in range(60):
                low, high = sorted([source.randrange(2 ** bits + 1), source.randrange(2 ** bits + 1)])
                self.told_right(bits, span(low, high), [(low, high)] if low < high else [])

    def test_rest_of(self):
        for bits, one, other in self.pairs():
            for patch in (one, other):
                rest = rest_of(bits, patch)
                self.told_right(bits, rest, stretches(lambda row, there: row and not there, [(0, bits)], patch))
                self.assertEqual(count_of(rest) + count_of(patch), 2 ** bits)
                self.assertEqual(rest_of(bits, rest), fewest(patch))
                self.assertEqual(fewest(rest + patch), ((0, bits),))

    def test_both(self):
        for bits, one, other in self.pairs():
            self.told_right(bits, both(one, other), stretches(lambda mine, theirs: mine and theirs, one, other))
            self.assertEqual(both(one, other), both(other, one))
            self.assertEqual(both(one, rest_of(bits, one)), ())
            self.assertEqual(both(one, ((0, bits),)), fewest(one))

    def test_without(self):
        for bits, one, other in self.pairs():
            self.told_right(bits, without(one, other), stretches(lambda mine, theirs: mine and not theirs, one, other))
            self.assertEqual(without(((0, bits),), one), rest_of(bits, one))
            self.assertEqual(without(one, one), ())

    def test_block_with(self):
        for bits, patch, other in self.pairs():
            for begin, height in patch:
                for address in (begin, begin + 2 ** height - 1, begin + 2 ** height // 2):
                    self.assertEqual(block_with(patch, address), (begin, height))
            for begin, height in rest_of(bits, patch)[:50]:
                self.assertIsNone(block_with(patch, begin))
                self.assertIsNone(block_with(patch, begin + 2 ** height - 1))


if __name__ == "__main__":
    unittest.main()
