"""Tests of blockdeal.rules: promises [7] and [2]."""

import copy
import itertools
import unittest
from unittest.mock import ANY

from blockdeal.patches import count_of, is_fewest, is_patch
from blockdeal.rules import are_rules, decided, patch_by
from tests.helper import (
    addresses, all_blocks, chance, is_plain, near_points, nested, ones_by, rule_sets, some_rules, spoilt_blocks,
    strange_things,
)

TOP = 2 ** 64
WIDTHS = (1, 2, 3, 8, 31, 32, 33, 63, 64)


class AreRules(unittest.TestCase):
    def test_rules(self):
        for bits, rules in [
            (1, ()), (64, ()), (1, (((0, 0), 0),)), (1, (((0, 1), 1),)), (64, (((0, 64), 1),)),
            (1, (((0, 0), 0), ((0, 1), 1), ((1, 0), 1))),
            (64, (((0, 0), 1), ((0, 64), 0), ((2 ** 63, 63), 1), ((TOP - 1, 0), 0))),
            (3, (((0, 0), 0), ((0, 1), 0), ((0, 2), 0), ((0, 3), 0))),
        ]:
            self.assertIs(are_rules(bits, rules), True, rules)

    def test_every_choice_in_small_rows(self):
        for bits in (1, 2):
            for many in range(4):
                for rules in rule_sets(bits, many):
                    self.assertIs(are_rules(bits, rules), True, rules)

    def test_every_order_and_every_twice(self):
        every = [(block, sign) for block in all_blocks(2) for sign in (0, 1)]
        for many in (2, 3):
            for thing in itertools.product(every, repeat=many):
                blocks = [block for block, sign in thing]
                right = blocks == sorted(set(blocks))
                self.assertIs(are_rules(2, thing), right, thing)

    def test_one_block_with_both_signs(self):
        self.assertIs(are_rules(3, (((0, 1), 0), ((0, 1), 1))), False)
        self.assertIs(are_rules(3, (((0, 1), 1), ((0, 1), 0))), False)
        self.assertIs(are_rules(3, (((0, 0), 0), ((4, 2), 0), ((4, 2), 1))), False)

    def test_a_rule_twice(self):
        self.assertIs(are_rules(3, (((0, 1), 1), ((0, 1), 1))), False)
        self.assertIs(are_rules(3, (((0, 0), 1), ((0, 1), 1), ((0, 1), 1))), False)

    def test_out_of_order(self):
        for thing in [(((1, 0), 0), ((0, 0), 1)), (((0, 1), 0), ((0, 0), 1)), (((0, 3), 1), ((7, 0), 0), ((4, 1), 1))]:
            self.assertIs(are_rules(3, thing), False, thing)
            self.assertIs(are_rules(3, tuple(sorted(thing))), True, thing)

    def test_of_another_row(self):
        for wide, narrow, block in [(3, 2, (0, 3)), (3, 2, (4, 0)), (64, 63, (0, 64)), (64, 63, (2 ** 63, 0))]:
            self.assertIs(are_rules(wide, ((block, 1),)), True)
            self.assertIs(are_rules(narrow, ((block, 1),)), False)

    def test_no_sign(self):
        for place, sign in enumerate([2, -1, TOP, -TOP, True, False, None, "0", "1", "", b"\x01", (), (1,), [1], ANY]):
            self.assertIs(are_rules(3, (((0, 1), sign),)), False, place)
            self.assertIs(are_rules(3, (((0, 0), 0), ((0, 1), sign), ((4, 0), 1))), False, place)

    def test_no_block(self):
        for place, thing in enumerate(strange_things() + spoilt_blocks()):
            self.assertIs(are_rules(64, ((thing, 1),)), False, place)
            self.assertIs(are_rules(3, (((0, 0), 0), (thing, 0), ((4, 0), 1))), False, place)

    def test_longer_and_shorter_pairs(self):
        for rule in [(), ((0, 1),), ((0, 1), 1, 1), ((0, 1), 1, None), ((0, 1), ((0, 1), 1)), (0, 1, 1), (1, (0, 1))]:
            self.assertIs(are_rules(3, (rule,)), False, rule)
            self.assertIs(are_rules(3, (((0, 0), 1), rule)), False, rule)

    def test_lists(self):
        for thing in [[], [((0, 1), 1)], ([(0, 1), 1],), (([0, 1], 1),), [[[0, 1], 1]], (((0, 0), 1), [(0, 1), 1])]:
            self.assertIs(are_rules(3, thing), False, thing)

    def test_truths(self):
        for rule in [((0, 1), True), ((0, 1), False), ((False, 1), 1), ((0, True), 1), ((True, 0), 0), ((0, False), 0)]:
            self.assertIs(are_rules(3, (rule,)), False, rule)

    def test_one_rule_is_no_rules(self):
        self.assertIs(are_rules(3, ((0, 1), 1)), False)
        self.assertIs(are_rules(3, ((0, 0), (0, 1))), False)
        self.assertIs(are_rules(3, ((((0, 1), 1),),)), False)

    def test_anything(self):
        # Of those that are nearly a block, one is no rules and the other a rule.
        nearly = [thing for thing in spoilt_blocks() if thing not in ((), ((0, 0), 0))]
        for place, thing in enumerate(strange_things() + nearly):
            for bits in (1, 3, 64):
                self.assertIs(are_rules(bits, thing), False, place)
                self.assertIs(are_rules(bits, (thing,)), False, place)
                self.assertIs(are_rules(bits, (((0, 0), 1), thing)), False, place)
        self.assertIs(are_rules(3, nested(58, ((0, 1), 1))), False)


class Decided(unittest.TestCase):
    def test_the_least_block_decides(self):
        rules = (((0, 1), 0), ((0, 3), 1), ((1, 0), 1), ((4, 0), 0), ((4, 2), 0), ((6, 1), 1))
        self.assertEqual([decided(rules, address) for address in range(8)], [0, 1, 1, 1, 0, 0, 1, 1])

    def test_no_rule(self):
        self.assertEqual(decided((), 0), 0)
        self.assertEqual(decided((), TOP - 1), 0)
        self.assertEqual(decided((((4, 1), 1),), 3), 0)
        self.assertEqual(decided((((4, 1), 1),), 6), 0)
        self.assertEqual([decided((((4, 1), 1),), address) for address in (4, 5)], [1, 1])

    def test_wide_rows(self):
        rules = (((0, 0), 0), ((0, 64), 1), ((2 ** 63, 62), 0), ((2 ** 63, 63), 1), ((TOP - 1, 0), 0))
        for address, sign in [(0, 0), (1, 1), (2 ** 63 - 1, 1), (2 ** 63, 0), (2 ** 63 + 2 ** 62 - 1, 0),
                              (2 ** 63 + 2 ** 62, 1), (TOP - 2, 1), (TOP - 1, 0)]:
            self.assertEqual(decided(rules, address), sign, address)

    def test_every_choice_of_up_to_three_rules(self):
        for bits in (1, 2, 3):
            for many in range(4 if bits < 3 else 3):
                for rules in rule_sets(bits, many):
                    ones = ones_by(bits, rules)
                    for address in range(2 ** bits):
                        self.assertEqual(decided(rules, address), int(address in ones), (rules, address))

    def test_many_rules_of_every_width(self):
        source = chance(20)
        for bits in range(1, 65):
            rules = some_rules(source, bits, 30)
            points = [block[0] for block, sign in rules]
            for _ in range(30):
                address = near_points(source, bits, points)
                least = min(((height, sign) for (begin, height), sign in rules
                             if address >> height == begin >> height), default=(0, 0))
                self.assertEqual(decided(rules, address), least[1])


class PatchBy(unittest.TestCase):
    def told_right(self, bits, rules):
        told = patch_by(bits, rules)
        self.assertEqual(addresses(told), ones_by(bits, rules), rules)
        self.assertIs(is_patch(bits, told), True)
        self.assertIs(is_fewest(told), True)

    def test_written(self):
        self.assertEqual(patch_by(3, ()), ())
        self.assertEqual(patch_by(3, (((0, 3), 0),)), ())
        self.assertEqual(patch_by(3, (((0, 3), 1),)), ((0, 3),))
        self.assertEqual(patch_by(3, (((0, 3), 1), ((2, 0), 0))), ((0, 1), (3, 0), (4, 2)))
        self.assertEqual(patch_by(3, (((0, 0), 1), ((1, 0), 1), ((2, 1), 1))), ((0, 2),))
        self.assertEqual(patch_by(64, (((0, 64), 1), ((TOP - 1, 0), 0))),
                         tuple((TOP - 2 ** (height + 1), height) for height in range(63, -1, -1)))
        self.assertEqual(patch_by(64, (((0, 63), 1), ((2 ** 63, 63), 1))), ((0, 64),))
        self.assertEqual(patch_by(1, (((0, 0), 0), ((0, 1), 1))), ((1, 0),))

    def test_every_choice_of_few_rules(self):
        for bits, most in [(1, 3), (2, 4), (3, 2)]:
            for many in range(most + 1):
                for rules in rule_sets(bits, many):
                    self.told_right(bits, rules)

    def test_many_rules_of_narrow_rows(self):
        source = chance(21)
        for bits in (3, 4, 5, 6, 7):
            for many in (3, 10, 40, 150):
                for _ in range(10):
                    self.told_right(bits, some_rules(source, bits, many))

    def test_every_width(self):
        source = chance(22)
        for bits in range(1, 65):
            for rules in [some_rules(source, bits, 20), some_rules(source, bits, 200, range(bits // 2 + 1))]:
                told = patch_by(bits, rules)
                self.assertIs(is_patch(bits, told), True)
                self.assertIs(is_fewest(told), True)
                edges = sorted({0, 2 ** bits} | {edge for (begin, height), sign in rules
                                                 for edge in (begin, begin + 2 ** height)})
                ones = 0
                for low, high in zip(edges, edges[1:]):
                    sign = decided(rules, low)
                    self.assertEqual(decided(rules, high - 1), sign)
                    ones += sign * (high - low)
                    for address in (low, high - 1):
                        inside = any(begin <= address < begin + 2 ** height for begin, height in told)
                        self.assertEqual(int(inside), sign)
                self.assertEqual(count_of(told), ones)


class HandedInAndTold(unittest.TestCase):
    def test_nothing_is_changed_and_the_same_is_told_again(self):
        rules = (((0, 1), 0), ((0, 64), 1), ((1, 0), 1), ((2 ** 63, 63), 0))
        things = [rules, [[(0, 1), 1]], ([(0, 1), 1],), ([],)]
        ahead = copy.deepcopy(things)
        for thing in things:
            self.assertIs(are_rules(64, thing), are_rules(64, thing))
        self.assertEqual(patch_by(64, rules), patch_by(64, rules))
        self.assertEqual(decided(rules, 1), decided(rules, 1))
        self.assertEqual(things, ahead)

    def test_tuples_and_whole_numbers_are_told(self):
        source = chance(23)
        for bits in WIDTHS:
            rules = some_rules(source, bits, 20)
            self.assertTrue(is_plain(patch_by(bits, rules)))
            for address in (0, 1, 2 ** bits - 1):
                self.assertIs(type(decided(rules, address)), int)


if __name__ == "__main__":
    unittest.main()
