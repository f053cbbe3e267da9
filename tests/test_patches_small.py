"""Tests of blockdeal.patches address by address, over every choice of blocks of small rows: [6], [3] (b)."""

import itertools
import unittest

from blockdeal.patches import (
    block_about, block_with, both, count_of, fewest, has_all, has_none, is_fewest, is_patch, rest_of, span, without,
)
from tests.helper import addresses, all_blocks, all_patches, block_sets, chance, disjoint, some_patch


def least_by_addresses(bits):
    """For each set of addresses of a row the fewest patches with it, and how many blocks at all have it at least."""
    patches, many = {}, {}
    for chosen in block_sets(bits):
        key = frozenset(addresses(chosen))
        many[key] = min(many.get(key, len(chosen)), len(chosen))
        if disjoint(chosen):
            patches.setdefault(key, []).append(chosen)
    least = {key: [patch for patch in found if len(patch) == min(map(len, found))] for key, found in patches.items()}
    return least, many


class Small(unittest.TestCase):
    @classmethod
    def setUpClass(cls):
        cls.least, cls.many = {}, {}
        for bits in (1, 2, 3):
            cls.least[bits], cls.many[bits] = least_by_addresses(bits)

    def told_right(self, bits, told, wanted):
        """What is told is the one fewest patch of these addresses, by all patches of the row."""
        wanted = frozenset(wanted)
        self.assertEqual(self.least[bits][wanted], [told])
        self.assertEqual(len(told), self.many[bits][wanted])
        self.assertEqual(addresses(told), wanted)
        self.assertIs(is_patch(bits, told), True)
        self.assertIs(is_fewest(told), True)
        self.assertEqual(count_of(told), len(wanted))

    def test_there_is_one_fewest_patch_of_any_addresses(self):
        for bits in (1, 2, 3):
            self.assertEqual(len(self.least[bits]), 2 ** 2 ** bits)
            self.assertEqual({len(found) for found in self.least[bits].values()}, {1})

    def test_is_patch_of_every_choice_of_blocks(self):
        for bits in (1, 2, 3):
            for chosen in block_sets(bits):
                self.assertIs(is_patch(bits, chosen), disjoint(chosen))

    def test_is_patch_in_every_order(self):
        for many in range(5):
            for chosen in itertools.product(all_blocks(2), repeat=many):
                rising = all(one < other for one, other in zip(chosen, chosen[1:]))
                self.assertIs(is_patch(2, chosen), rising and disjoint(chosen))

    def test_is_fewest_of_every_patch(self):
        for bits in (1, 2, 3):
            for patch in all_patches(bits):
                self.assertIs(is_fewest(patch), patch in self.least[bits][frozenset(addresses(patch))])
                self.assertEqual(count_of(patch), len(addresses(patch)))

    def test_fewest_of_every_choice_of_blocks(self):
        source = chance(7)
        for bits in (1, 2, 3):
            for chosen in block_sets(bits):
                mixed = list(chosen) + list(chosen[:2])
                source.shuffle(mixed)
                self.told_right(bits, fewest(mixed), addresses(chosen))
                self.assertEqual(fewest(tuple(mixed)), fewest(chosen))

    def test_every_span(self):
        for bits in (1, 2, 3):
            for low in range(2 ** bits + 1):
                for high in range(low, 2 ** bits + 1):
                    self.told_right(bits, span(low, high), range(low, high))

    def test_rest_of_every_patch(self):
        for bits in (1, 2, 3):
            for patch in all_patches(bits):
                self.told_right(bits, rest_of(bits, patch), set(range(2 ** bits)) - addresses(patch))

    def test_both_and_without_of_each_two_patches(self):
        for bits in (1, 2):
            for one in all_patches(bits):
                for other in all_patches(bits):
                    self.told_right(bits, both(one, other), addresses(one) & addresses(other))
                    self.told_right(bits, without(one, other), addresses(one) - addresses(other))

    def test_both_and_without_of_many_patches(self):
        source = chance(8)
        patches = all_patches(3)
        for _ in range(4000):
            one, other = source.choice(patches), source.choice(patches)
            self.told_right(3, both(one, other), addresses(one) & addresses(other))
            self.told_right(3, without(one, other), addresses(one) - addresses(other))

    def test_block_with_of_every_patch(self):
        for bits in (1, 2, 3):
            for patch in all_patches(bits):
                for address in range(2 ** bits):
                    found = [block for block in patch if address in addresses([block])]
                    self.assertEqual(block_with(patch, address), found[0] if found else None)

    def test_each_block_beside_every_patch(self):
        for bits in (1, 2, 3):
            for patch in all_patches(bits):
                for block in all_blocks(bits):
                    own = addresses([block])
                    about = [other for other in patch if own <= addresses([other])]
                    self.assertEqual(block_about(patch, block), about[0] if about else None)
                    self.assertIs(has_none(patch, block), not own & addresses(patch))
                    self.assertIs(has_all(fewest(patch), block), own <= addresses(patch))


class AddressByAddress(unittest.TestCase):
    def told_right(self, bits, told, wanted):
        self.assertEqual(addresses(told), wanted)
        self.assertTrue(disjoint(told))
        self.assertEqual(list(told), sorted(told))
        self.assertIs(is_fewest(told), True)
        self.assertEqual(count_of(told), len(wanted))
        greater = [block for block in all_blocks(bits) if addresses([block]) <= wanted]
        for block in told:
            self.assertEqual([block], [other for other in greater if addresses([block]) <= addresses([other])])

    def test_rows_of_four_to_seven_bits(self):
        source = chance(9)
        for bits in (4, 5, 6, 7):
            row = set(range(2 ** bits))
            for many in (1, 5, 20, 60):
                one, other = some_patch(source, bits, many), some_patch(source, bits, many, [0, 1, 2])
                self.told_right(bits, fewest(one + other), addresses(one + other))
                self.told_right(bits, rest_of(bits, one), row - addresses(one))
                self.told_right(bits, rest_of(bits, other), row - addresses(other))
                self.told_right(bits, both(one, other), addresses(one) & addresses(other))
                self.told_right(bits, without(one, other), addresses(one) - addresses(other))
                self.told_right(bits, without(other, one), addresses(other) - addresses(one))


if __name__ == "__main__":
    unittest.main()
