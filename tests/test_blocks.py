"""Tests of blockdeal.blocks: promises [4] and [2]."""

import unittest

from blockdeal.blocks import apart, around, halves, holds, is_block, other_half, size_of
from tests.helper import addresses, all_blocks, chance, is_plain, some_block, spoilt_blocks, strange_things

TOP = 2 ** 64


class IsBlock(unittest.TestCase):
    def test_every_pair_of_a_narrow_row(self):
        for bits in range(1, 6):
            wanted = set(all_blocks(bits))
            for begin in range(-3, 2 ** bits + 4):
                for height in range(-3, bits + 4):
                    with self.subTest(bits=bits, begin=begin, height=height):
                        self.assertIs(is_block(bits, (begin, height)), (begin, height) in wanted)

    def test_a_row_of_one_bit(self):
        for block in [(0, 0), (1, 0), (0, 1)]:
            self.assertIs(is_block(1, block), True)
        for thing in [(2, 0), (1, 1), (2, 1), (0, 2), (-1, 0), (0, -1)]:
            self.assertIs(is_block(1, thing), False, thing)

    def test_a_row_of_64_bits(self):
        for block in [(0, 64), (0, 63), (2 ** 63, 63), (TOP - 1, 0), (TOP - 2, 1), (2 ** 63 + 2 ** 40, 40)]:
            self.assertIs(is_block(64, block), True, block)
        for thing in [(0, 65), (TOP, 64), (TOP, 0), (TOP, 63), (TOP - 1, 1), (2 ** 62, 63), (2 ** 63, 64),
                      (2 ** 63 + 2 ** 39, 40), (-(2 ** 63), 63), (-TOP, 64), (TOP + 2 ** 40, 40), (1, 64)]:
            self.assertIs(is_block(64, thing), False, thing)

    def test_every_height_of_every_row(self):
        for bits in range(1, 65):
            for height in range(bits + 1):
                last = 2 ** bits - 2 ** height
                self.assertIs(is_block(bits, (0, height)), True)
                self.assertIs(is_block(bits, (last, height)), True)
                self.assertIs(is_block(bits, (last + 2 ** height, height)), False)
                self.assertIs(is_block(bits, (-(2 ** height), height)), False)
                self.assertIs(is_block(bits, (last + 1, height)), False)
                self.assertIs(is_block(bits, (last - 1, height)), height == 0)
            self.assertIs(is_block(bits, (0, bits + 1)), False)

    def test_anything(self):
        # Told by its place: a thing nested deep may be far too long to be shown.
        for place, thing in enumerate(strange_things() + spoilt_blocks()):
            for bits in (1, 2, 8, 63, 64):
                self.assertIs(is_block(bits, thing), False, (bits, place))

    def test_a_row_somewhat_wider(self):
        self.assertIs(is_block(70, (0, 70)), True)
        self.assertIs(is_block(70, (2 ** 69, 69)), True)
        self.assertIs(is_block(70, (2 ** 68, 69)), False)
        self.assertIs(is_block(70, (0, 71)), False)

    def test_a_list_is_no_tuple(self):
        self.assertIs(is_block(4, (4, 2)), True)
        thing = [4, 2]
        self.assertIs(is_block(4, thing), False)
        self.assertEqual(thing, [4, 2])


class TwoBlocks(unittest.TestCase):
    def test_each_two_of_narrow_rows(self):
        for bits in range(1, 5):
            for one in all_blocks(bits):
                for other in all_blocks(bits):
                    mine, theirs = addresses([one]), addresses([other])
                    with self.subTest(one=one, other=other):
                        self.assertIs(holds(one, other), mine >= theirs)
                        self.assertIs(apart(one, other), not mine & theirs)

    def test_one_holds_the_other_or_they_are_apart(self):
        source = chance(4)
        for _ in range(2000):
            one, other = some_block(source, 64), some_block(source, 64)
            (low, tall), (begin, height) = one, other
            inside = low <= begin and begin + 2 ** height <= low + 2 ** tall
            about = begin <= low and low + 2 ** tall <= begin + 2 ** height
            self.assertIs(holds(one, other), inside)
            self.assertIs(holds(other, one), about)
            self.assertIs(apart(one, other), not inside and not about)

    def test_wide_ones(self):
        self.assertIs(holds((0, 64), (0, 64)), True)
        self.assertIs(holds((0, 64), (TOP - 1, 0)), True)
        self.assertIs(holds((TOP - 1, 0), (0, 64)), False)
        self.assertIs(holds((2 ** 63, 63), (TOP - 1, 0)), True)
        self.assertIs(holds((0, 63), (2 ** 63, 0)), False)
        self.assertIs(apart((0, 63), (2 ** 63, 63)), True)
        self.assertIs(apart((0, 63), (2 ** 63 - 1, 0)), False)
        self.assertIs(apart((TOP - 1, 0), (TOP - 2, 0)), True)
        self.assertIs(apart((TOP - 1, 0), (0, 64)), False)


class OneBlock(unittest.TestCase):
    def test_size_of(self):
        for height in range(65):
            self.assertEqual(size_of((0, height)), 2 ** height)
        for block in all_blocks(5):
            self.assertEqual(size_of(block), len(addresses([block])))
        self.assertEqual(size_of((2 ** 63, 63)), 9223372036854775808)

    def test_halves_of_narrow_blocks(self):
        for bits in range(1, 6):
            for block in all_blocks(bits):
                if block[1] == 0:
                    continue
                lower, upper = halves(block)
                self.assertTrue({lower, upper} <= set(all_blocks(bits)))
                self.assertEqual((lower[1], upper[1]), (block[1] - 1, block[1] - 1))
                self.assertEqual(max(addresses([lower])) + 1, min(addresses([upper])))
                self.assertEqual(addresses([lower, upper]), addresses([block]))

    def test_halves_of_wide_blocks(self):
        self.assertEqual(halves((0, 64)), ((0, 63), (2 ** 63, 63)))
        self.assertEqual(halves((2 ** 63, 63)), ((2 ** 63, 62), (2 ** 63 + 2 ** 62, 62)))
        self.assertEqual(halves((TOP - 2, 1)), ((TOP - 2, 0), (TOP - 1, 0)))
        self.assertEqual(halves((0, 1)), ((0, 0), (1, 0)))

    def test_around_narrow_blocks(self):
        for bits in range(1, 6):
            for block in all_blocks(bits):
                for height in range(block[1], bits + 1):
                    found = [other for other in all_blocks(bits)
                             if other[1] == height and addresses([other]) >= addresses([block])]
                    self.assertEqual([around(block, height)], found)

    def test_around_wide_blocks(self):
        self.assertEqual(around((TOP - 1, 0), 0), (TOP - 1, 0))
        self.assertEqual(around((TOP - 1, 0), 1), (TOP - 2, 1))
        self.assertEqual(around((TOP - 1, 0), 63), (2 ** 63, 63))
        self.assertEqual(around((TOP - 1, 0), 64), (0, 64))
        self.assertEqual(around((2 ** 63 - 1, 0), 63), (0, 63))
        self.assertEqual(around((0, 64), 64), (0, 64))

    def test_other_half_of_narrow_blocks(self):
        for bits in range(1, 6):
            whole = [addresses([other]) for other in all_blocks(bits)]
            for block in all_blocks(bits):
                if block[1] == bits:
                    continue
                found = [other for other in all_blocks(bits)
                         if other != block and other[1] == block[1] and addresses([block, other]) in whole]
                self.assertEqual([other_half(block)], found)

    def test_other_half_of_wide_blocks(self):
        self.assertEqual(other_half((0, 63)), (2 ** 63, 63))
        self.assertEqual(other_half((2 ** 63, 63)), (0, 63))
        self.assertEqual(other_half((TOP - 1, 0)), (TOP - 2, 0))
        self.assertEqual(other_half((TOP - 2, 0)), (TOP - 1, 0))
        self.assertEqual(other_half((2 ** 63 + 2 ** 40, 40)), (2 ** 63, 40))

    def test_wide_blocks_of_every_height(self):
        source = chance(5)
        for height in list(range(64)) * 5:
            block = some_block(source, 64, [height])
            other = other_half(block)
            about = around(block, height + 1)
            self.assertEqual(halves(about), tuple(sorted([block, other])))
            self.assertEqual(abs(block[0] - other[0]), 2 ** height)
            self.assertTrue(about[0] <= block[0] < about[0] + 2 ** (height + 1))
            self.assertEqual(about[0] % 2 ** (height + 1), 0)


class Told(unittest.TestCase):
    def test_tuples_and_whole_numbers_and_the_same_again(self):
        for block in [(0, 1), (2, 1), (2 ** 63, 40), (0, 63)]:
            for ask in [size_of, halves, other_half, lambda it: around(it, 64), lambda it: around(it, it[1])]:
                told = ask(block)
                self.assertTrue(is_plain(told), told)
                self.assertEqual(ask(block), told)


if __name__ == "__main__":
    unittest.main()
