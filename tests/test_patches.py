"""Tests of blockdeal.patches on written inputs: promises [6], [3] (b) and [2]."""

import copy
import unittest

from blockdeal.patches import (
    block_with, both, count_of, fewest, is_fewest, is_patch, rest_of, span, without,
)
from tests.helper import is_plain, nested, spoilt_blocks, strange_things

TOP = 2 ** 64


class IsPatch(unittest.TestCase):
    def test_patches(self):
        for bits, patch in [
            (1, ()), (64, ()), (1, ((0, 1),)), (1, ((0, 0), (1, 0))), (64, ((0, 64),)), (3, ((0, 0), (2, 1), (4, 2))),
            (64, ((0, 63), (2 ** 63, 63))), (64, ((0, 0), (TOP - 1, 0))), (4, ((1, 0), (2, 0), (3, 0), (4, 1))),
        ]:
            self.assertIs(is_patch(bits, patch), True, patch)

    def test_not_rising(self):
        for thing in [((1, 0), (0, 0)), ((4, 2), (0, 0)), ((0, 0), (2, 0), (1, 0)), ((2, 1), (0, 1))]:
            self.assertIs(is_patch(3, thing), False, thing)
            self.assertIs(is_patch(3, tuple(sorted(thing))), True, thing)

    def test_not_apart(self):
        for thing in [((0, 0), (0, 0)), ((0, 0), (0, 1)), ((0, 1), (0, 0)), ((0, 1), (1, 0)), ((0, 3), (7, 0)),
                      ((0, 0), (0, 3)), ((0, 2), (2, 1), (4, 2)), ((0, 1), (4, 2), (6, 0))]:
            self.assertIs(is_patch(3, thing), False, thing)

    def test_of_another_row(self):
        self.assertIs(is_patch(3, ((0, 3),)), True)
        self.assertIs(is_patch(2, ((0, 3),)), False)
        self.assertIs(is_patch(3, ((7, 0),)), True)
        self.assertIs(is_patch(3, ((7, 0), (8, 0))), False)
        self.assertIs(is_patch(63, ((0, 64),)), False)
        self.assertIs(is_patch(64, ((0, 0), (TOP, 0))), False)

    def test_one_block_is_no_patch(self):
        self.assertIs(is_patch(3, (0, 0)), False)
        self.assertIs(is_patch(3, ((0, 0),)), True)

    def test_anything(self):
        # Told by its place: a thing nested deep may be far too long to be shown.
        for place, thing in enumerate(strange_things() + [thing for thing in spoilt_blocks() if thing != ()]):
            self.assertIs(is_patch(64, thing), False, place)
            self.assertIs(is_patch(1, thing), False, place)

    def test_anything_among_blocks(self):
        for place, thing in enumerate(strange_things() + spoilt_blocks()):
            for patch in [(thing,), ((0, 0), thing), (thing, (4, 0)), ((0, 0), thing, (4, 0))]:
                self.assertIs(is_patch(3, patch), False, place)

    def test_a_list_is_no_tuple(self):
        self.assertIs(is_patch(3, [(0, 0)]), False)
        self.assertIs(is_patch(3, ([0, 0],)), False)
        self.assertIs(is_patch(3, []), False)
        self.assertIs(is_patch(3, (((0, 0),),)), False)
        self.assertIs(is_patch(3, nested(60, (0, 0))), False)

    def test_a_truth_is_no_number(self):
        for thing in [((True, 0),), ((False, 0),), ((0, True),), ((0, False), (1, 0)), ((0, 0), (True, 0))]:
            self.assertIs(is_patch(3, thing), False, thing)

    def test_many_blocks(self):
        many = tuple((2 * begin, 0) for begin in range(200))
        self.assertIs(is_patch(64, many), True)
        self.assertIs(is_patch(64, many + ((398, 0),)), False)


class IsFewest(unittest.TestCase):
    def test_fewest(self):
        for patch in [(), ((0, 64),), ((0, 0),), ((1, 0), (2, 0)), ((2, 1), (4, 1)),
                      ((0, 0), (2, 1), (4, 2)), ((2 ** 63 - 1, 0), (2 ** 63, 0)), ((0, 62), (2 ** 63, 63))]:
            self.assertIs(is_fewest(patch), True, patch)

    def test_not_fewest(self):
        for patch in [((0, 0), (1, 0)), ((0, 63), (2 ** 63, 63)), ((0, 0), (2, 0), (3, 0)),
                      ((TOP - 2, 0), (TOP - 1, 0)), ((0, 0), (1, 0), (2, 1)), 
                      ((0, 1), (2, 0), (3, 0)), ((1, 0), (2, 1), (4, 1), (6, 1), (8, 0))]:
            self.assertIs(is_fewest(patch), False, patch)

    def test_beside_one_another_but_no_halves_of_one_block(self):
        self.assertIs(is_fewest(((1, 0), (2, 0))), True)
        self.assertIs(is_fewest(((2, 1), (4, 1))), True)
        self.assertIs(is_fewest(((0, 1), (2, 0))), True)
        self.assertIs(is_fewest(((4, 2), (8, 2))), True)


class CountOf(unittest.TestCase):
    def test_count(self):
        self.assertEqual(count_of(()), 0)
        self.assertEqual(count_of(((5, 0),)), 1)
        self.assertEqual(count_of(((0, 64),)), TOP)
        self.assertEqual(count_of(((0, 63), (2 ** 63, 63))), TOP)
        self.assertEqual(count_of(((0, 0), (2, 1), (4, 2), (2 ** 63, 63))), 7 + 2 ** 63)
        self.assertEqual(count_of(tuple((2 * begin, 0) for begin in range(200))), 200)


class Fewest(unittest.TestCase):
    def test_no_blocks(self):
        self.assertEqual(fewest(()), ())
        self.assertEqual(fewest([]), ())

    def test_twice_and_within_one_another(self):
        self.assertEqual(fewest(((3, 0), (3, 0))), ((3, 0),))
        self.assertEqual(fewest(((3, 0), (0, 3), (4, 1), (0, 3))), ((0, 3),))
        self.assertEqual(fewest([(0, 0), (0, 1), (0, 2)]), ((0, 2),))
        self.assertEqual(fewest([(0, 64), (TOP - 1, 0)]), ((0, 64),))

    def test_joined(self):
        self.assertEqual(fewest(((1, 0), (0, 0))), ((0, 1),))
        self.assertEqual(fewest([(2, 1), (1, 0), (4, 2), (0, 0)]), ((0, 3),))
        self.assertEqual(fewest([(2 ** 63, 63), (0, 63)]), ((0, 64),))
        self.assertEqual(fewest([(TOP - 1, 0), (TOP - 2, 0)]), ((TOP - 2, 1),))

    def test_beside_one_another_but_no_halves_of_one_block(self):
        self.assertEqual(fewest([(2, 0), (1, 0)]), ((1, 0), (2, 0)))
        self.assertEqual(fewest([(4, 1), (2, 1)]), ((2, 1), (4, 1)))
        self.assertEqual(fewest([(1, 0), (2, 0), (3, 0)]), ((1, 0), (2, 1)))

    def test_two_hundred_blocks(self):
        blocks = [(TOP - 1 - at, 0) for at in range(200)]
        self.assertEqual(fewest(blocks), ((TOP - 200, 3), (TOP - 192, 6), (TOP - 128, 7)))


class Span(unittest.TestCase):
    def test_low_and_high_the_same(self):
        for at in (0, 1, 7, 2 ** 63, TOP - 1, TOP):
            self.assertEqual(span(at, at), ())

    def test_the_widest_row(self):
        self.assertEqual(span(0, TOP), ((0, 64),))
        self.assertEqual(span(0, 2 ** 63), ((0, 63),))
        self.assertEqual(span(2 ** 63, TOP), ((2 ** 63, 63),))
        self.assertEqual(span(TOP - 1, TOP), ((TOP - 1, 0),))
        self.assertEqual(span(1, TOP), tuple((2 ** height, height) for height in range(64)))
        self.assertEqual(span(0, TOP - 1), tuple((TOP - 2 ** (height + 1), height) for height in range(63, -1, -1)))

    def test_narrow_ones(self):
        self.assertEqual(span(0, 1), ((0, 0),))
        self.assertEqual(span(3, 9), ((3, 0), (4, 2), (8, 0)))
        self.assertEqual(span(1, 3), ((1, 0), (2, 0)))
        self.assertEqual(span(6, 14), ((6, 1), (8, 2), (12, 1)))


class Sums(unittest.TestCase):
    def test_rest_of(self):
        self.assertEqual(rest_of(1, ()), ((0, 1),))
        self.assertEqual(rest_of(64, ()), ((0, 64),))
        self.assertEqual(rest_of(64, ((0, 64),)), ())
        self.assertEqual(rest_of(64, ((0, 63), (2 ** 63, 63))), ())
        self.assertEqual(rest_of(1, ((0, 0),)), ((1, 0),))
        self.assertEqual(rest_of(1, ((0, 0), (1, 0))), ())
        self.assertEqual(rest_of(3, ((2, 0),)), ((0, 1), (3, 0), (4, 2)))
        self.assertEqual(rest_of(4, ((2, 0),)), ((0, 1), (3, 0), (4, 2), (8, 3)))
        self.assertEqual(rest_of(64, ((0, 0),)), span(1, TOP))
        self.assertEqual(rest_of(64, ((TOP - 1, 0),)), span(0, TOP - 1))

    def test_both(self):
        self.assertEqual(both((), ()), ())
        self.assertEqual(both(((0, 64),), ()), ())
        self.assertEqual(both((), ((0, 64),)), ())
        self.assertEqual(both(((0, 64),), ((0, 64),)), ((0, 64),))
        self.assertEqual(both(((0, 64),), ((0, 0), (1, 0))), ((0, 1),))
        self.assertEqual(both(((0, 0), (1, 0)), ((0, 0), (1, 0))), ((0, 1),))
        self.assertEqual(both(((0, 2),), ((2, 1), (4, 2))), ((2, 1),))
        self.assertEqual(both(((0, 1),), ((2, 1),)), ())
        self.assertEqual(both(((2 ** 63, 63),), ((0, 63), (TOP - 4, 2))), ((TOP - 4, 2),))

    def test_without(self):
        self.assertEqual(without((), ()), ())
        self.assertEqual(without((), ((0, 64),)), ())
        self.assertEqual(without(((0, 0), (1, 0)), ()), ((0, 1),))
        self.assertEqual(without(((0, 64),), ((0, 64),)), ())
        self.assertEqual(without(((0, 64),), ((TOP - 1, 0),)), span(0, TOP - 1))
        self.assertEqual(without(((0, 2),), ((1, 0), (8, 3))), ((0, 0), (2, 1)))
        self.assertEqual(without(((0, 1), (8, 3)), ((2, 1), (4, 2))), ((0, 1), (8, 3)))
        self.assertEqual(without(((2 ** 63, 63),), ((0, 63),)), ((2 ** 63, 63),))


class BlockWith(unittest.TestCase):
    def test_its_block(self):
        patch = ((0, 0), (1, 0), (4, 1), (2 ** 63, 62), (TOP - 1, 0))
        for address, block in [(0, (0, 0)), (1, (1, 0)), (4, (4, 1)), (5, (4, 1)), (2 ** 63, (2 ** 63, 62)),
                               (2 ** 63 + 2 ** 62 - 1, (2 ** 63, 62)), (TOP - 1, (TOP - 1, 0))]:
            self.assertEqual(block_with(patch, address), block)

    def test_in_no_block(self):
        patch = ((0, 0), (1, 0), (4, 1), (2 ** 63, 62), (TOP - 1, 0))
        for address in [2, 3, 6, 7, 2 ** 63 - 1, 2 ** 63 + 2 ** 62, TOP - 2]:
            self.assertIsNone(block_with(patch, address))
        self.assertIsNone(block_with((), 0))
        self.assertEqual(block_with(((0, 64),), TOP - 1), (0, 64))


class SomewhatBeyond(unittest.TestCase):
    def test_wider_rows(self):
        self.assertIs(is_patch(66, ((0, 64), (TOP, 64), (2 ** 65, 65))), True)
        self.assertEqual(span(0, 2 ** 65), ((0, 65),))
        self.assertEqual(span(TOP - 1, TOP + 1), ((TOP - 1, 0), (TOP, 0)))
        self.assertEqual(rest_of(66, ((0, 65),)), ((2 ** 65, 65),))
        self.assertEqual(fewest([(TOP, 64), (0, 64)]), ((0, 65),))

    def test_more_blocks(self):
        many = tuple((2 * begin, 0) for begin in range(1024))
        self.assertIs(is_patch(11, many), True)
        self.assertEqual(rest_of(11, many), tuple((2 * begin + 1, 0) for begin in range(1024)))
        self.assertEqual(fewest(many + rest_of(11, many)), ((0, 11),))


class HandedInAndTold(unittest.TestCase):
    def asked(self):
        one = ((0, 0), (1, 0), (4, 2), (2 ** 63, 63))
        other = ((0, 1), (6, 1), (2 ** 63 + 2 ** 62, 62))
        many = [(6, 1), (6, 0), (0, 1), (6, 1)]
        return [(fewest, (many,)), (fewest, (tuple(many),)), (span, (3, 2 ** 63 + 5)), (rest_of, (64, one)),
                (both, (one, other)), (without, (one, other)), (count_of, (one,)), (block_with, (one, 5))]

    def test_nothing_handed_in_is_changed(self):
        for ask, things in self.asked():
            ahead = copy.deepcopy(things)
            ask(*things)
            self.assertEqual(things, ahead)
        things = [[(4, 0), (0, 0)], ([0, 0],), [[0, 0]]]
        ahead = copy.deepcopy(things)
        for thing in things:
            is_patch(3, thing)
        self.assertEqual(things, ahead)

    def test_asked_again_the_same_is_told(self):
        for ask, things in self.asked():
            self.assertEqual(ask(*things), ask(*things))

    def test_tuples_and_whole_numbers_are_told(self):
        for ask, things in self.asked():
            self.assertTrue(is_plain(ask(*things)), ask)


if __name__ == "__main__":
    unittest.main()
