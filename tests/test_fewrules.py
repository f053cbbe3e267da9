"""Tests of blockdeal.fewrules: promises [7], [3] (b) and [2]."""

import unittest

from blockdeal.fewrules import fewest_rules, many_rules
from blockdeal.patches import fewest, rest_of, span
from blockdeal.rules import are_rules, decided, patch_by
from tests.helper import (
    addresses, all_patches, chance, is_plain, near_points, ones_by, rule_sets, some_patch, some_rules,
)

TOP = 2 ** 64
WIDTHS = (1, 2, 3, 8, 31, 32, 33, 63, 64)


def least_rules(bits):
    """For each set of addresses of a row how many rules at least decide just these 1, gone through by many."""
    least, many = {}, 0
    while len(least) < 2 ** 2 ** bits:
        for rules in rule_sets(bits, many):
            least.setdefault(ones_by(bits, rules), many)
        many += 1
    return least


def least_by_signs(signs, ahead):
    """How many rules at least are wanted for a row told sign by sign, where ahead is decided without one."""
    if len(set(signs)) == 1:
        return int(signs[0] != ahead)
    middle = len(signs) // 2
    costs = [int(sign != ahead) + least_by_signs(signs[:middle], sign) + least_by_signs(signs[middle:], sign)
             for sign in (0, 1)]
    return min(costs)


class Told(unittest.TestCase):
    def told_right(self, bits, patch, many):
        """The told rules decide just the patch, and are as many as wanted."""
        rules = fewest_rules(bits, patch)
        self.assertIs(are_rules(bits, rules), True)
        self.assertEqual(patch_by(bits, rules), fewest(patch))
        self.assertEqual(len(rules), many)
        self.assertEqual(many_rules(bits, patch), many)

    def test_no_address_and_each(self):
        for bits in range(1, 65):
            self.told_right(bits, (), 0)
            self.told_right(bits, ((0, bits),), 1)
            self.told_right(bits, ((0, bits - 1), (2 ** (bits - 1), bits - 1)), 1)
            self.assertEqual(fewest_rules(bits, ()), ())

    def test_written(self):
        self.told_right(1, ((0, 0),), 1)
        self.told_right(1, ((1, 0),), 1)
        self.told_right(2, ((0, 0), (2, 0)), 2)
        self.told_right(3, ((0, 0), (2, 0), (3, 0), (4, 2)), 2)
        self.told_right(64, span(1, TOP), 2)
        self.told_right(64, span(0, TOP - 1), 2)
        self.told_right(64, rest_of(64, ((0, 0), (TOP - 1, 0))), 3)
        self.told_right(64, rest_of(64, ((5, 0), (2 ** 63, 0), (2 ** 63 + 2, 1))), 4)
        self.told_right(64, ((TOP - 1, 0),), 1)

    def test_signs_by_turns(self):
        for bits in (2, 3, 5, 7):
            turns = tuple((2 * place, 0) for place in range(2 ** (bits - 1)))
            self.told_right(bits, turns, 2 ** (bits - 1))

    def test_no_fewer_do_in_small_rows_gone_through(self):
        for bits in (1, 2, 3):
            least = least_rules(bits)
            for patch in all_patches(bits):
                self.told_right(bits, patch, least[frozenset(addresses(patch))])

    def test_decided_address_by_address(self):
        for bits in (1, 2, 3):
            for patch in all_patches(bits):
                rules = fewest_rules(bits, patch)
                self.assertEqual({address for address in range(2 ** bits) if decided(rules, address) == 1},
                                 addresses(patch))

    def test_each_seventh_set_of_addresses_of_four_bits(self):
        for ones in range(2 ** 16):
            signs = [ones >> address & 1 for address in range(16)]
            if ones % 7 == 3:
                patch = tuple((address, 0) for address in range(16) if signs[address])
                self.told_right(4, patch, least_by_signs(signs, 0))

    def test_rows_of_five_to_eight_bits(self):
        source = chance(30)
        for bits in (5, 6, 7, 8):
            for many in (2, 8, 30, 100):
                for heights in (None, [0, 1]):
                    patch = some_patch(source, bits, many, heights)
                    there = addresses(patch)
                    signs = [int(address in there) for address in range(2 ** bits)]
                    self.told_right(bits, patch, least_by_signs(signs, 0))

    def test_no_fewer_than_any_rules_of_every_width(self):
        source = chance(31)
        for bits in range(1, 65):
            for many in (1, 2, 3, 6, 12, 60):
                rules = some_rules(source, bits, many)
                patch = patch_by(bits, rules)
                told = fewest_rules(bits, patch)
                self.assertLessEqual(len(told), len(rules))
                self.told_right(bits, patch, many_rules(bits, patch))

    def test_decided_at_edges_in_every_width(self):
        source = chance(32)
        for bits in range(1, 65):
            patch = some_patch(source, bits, 40)
            rules = fewest_rules(bits, patch)
            points = [begin for begin, height in patch]
            for _ in range(40):
                address = near_points(source, bits, points)
                inside = any(begin <= address < begin + 2 ** height for begin, height in patch)
                self.assertEqual(decided(rules, address), int(inside))

    def test_no_more_than_blocks_of_the_patch_or_of_the_rest(self):
        source = chance(33)
        for bits in WIDTHS:
            for many in (1, 4, 20):
                patch = fewest(some_patch(source, bits, many))
                told = many_rules(bits, patch)
                self.assertLessEqual(told, len(patch))
                self.assertLessEqual(told, len(rest_of(bits, patch)) + 1)

    def test_a_patch_that_is_not_fewest(self):
        source = chance(34)
        for bits in (3, 4, 5, 6):
            for _ in range(20):
                patch = some_patch(source, bits, 30, [0, 1])
                self.told_right(bits, patch, many_rules(bits, fewest(patch)))


class HandedInAndTold(unittest.TestCase):
    def test_two_hundred_blocks_and_what_was_told_of_them(self):
        source = chance(35)
        patch = fewest([(source.randrange(TOP), 0) for _ in range(200)])
        rest = rest_of(64, patch)
        self.assertGreater(len(rest), 5000)
        for one in (patch, rest):
            rules = fewest_rules(64, one)
            self.assertEqual(patch_by(64, rules), one)
            self.assertEqual(many_rules(64, one), len(rules))
        self.assertLessEqual(abs(many_rules(64, patch) - many_rules(64, rest)), 1)
        self.assertEqual(fewest_rules(64, fewest(patch + rest)), (((0, 64), 1),))

    def test_tuples_and_whole_numbers_and_the_same_again(self):
        source = chance(36)
        for bits in WIDTHS:
            patch = some_patch(source, bits, 20)
            rules = fewest_rules(bits, patch)
            self.assertTrue(is_plain(rules))
            self.assertIs(type(many_rules(bits, patch)), int)
            self.assertEqual(fewest_rules(bits, patch), rules)
            self.assertEqual(many_rules(bits, patch), len(rules))

    def test_rows_somewhat_wider(self):
        self.assertEqual(fewest_rules(70, ((0, 70),)), (((0, 70), 1),))
        self.assertEqual(many_rules(70, rest_of(70, ((2 ** 69, 0),))), 2)


if __name__ == "__main__":
    unittest.main()
