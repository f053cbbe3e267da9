"""Tests of blockdeal.dealing on written inputs: promises [10], [3] (a), (c), (e) and [2]."""

import copy
import unittest

from blockdeal.deals import free_for, is_deal
from blockdeal.dealing import done
from blockdeal.errors import NoDeed, NoRoom, NotTheirs
from tests.helper import is_told, nested, no_names, spoilt_blocks, strange_things

TOP = 2 ** 64
ONE_BLOCK = ("give", "grow", "keep", "loose")


class Deeds(unittest.TestCase):
    def told(self, deal, deed, outs, kept, what):
        """A deed done: the shares behind it and what it tells, and the deal handed in as it was."""
        ahead = copy.deepcopy(deal)
        behind = done(deal, deed)
        self.assertEqual(behind, ((deal[0], outs, kept), what))
        self.assertTrue(is_deal(behind[0]) and is_told(behind))
        self.assertEqual(done(deal, deed), behind)
        self.assertEqual(deal, ahead)

    def refused(self, refusal, deal, deed):
        """A deed refused by just this class, and the deal handed in as it was."""
        ahead = copy.deepcopy(deal)
        with self.assertRaises(ValueError) as caught:
            done(deal, deed)
        self.assertIs(type(caught.exception), refusal)
        self.assertEqual(deal, ahead)


class Take(Deeds):
    def test_of_nothing_out(self):
        for bits in range(1, 65):
            for height in range(bits + 1):
                self.told((bits, (), ()), ("take", "a", height), (((0, height), "a"),), (), (0, height))

    def test_the_least_that_is_great_enough(self):
        # Free are (1, 0), (2, 1), (4, 2), (8, 3).
        deal = (4, (((0, 0), "a"),), ())
        for height in range(4):
            block = (2 ** height, height)
            self.told(deal, ("take", "b", height), (((0, 0), "a"), (block, "b")), (), block)
        self.refused(NoRoom, deal, ("take", "b", 4))
        # Free are (0, 3), (10, 1), (12, 2): a block of one address comes out of the second.
        deal = (4, (((8, 1), "a"),), ())
        self.told(deal, ("take", "b", 0), (((8, 1), "a"), ((10, 0), "b")), (), (10, 0))
        self.told(deal, ("take", "b", 1), (((8, 1), "a"), ((10, 1), "b")), (), (10, 1))
        self.told(deal, ("take", "b", 2), (((8, 1), "a"), ((12, 2), "b")), (), (12, 2))
        self.told(deal, ("take", "b", 3), (((0, 3), "b"), ((8, 1), "a")), (), (0, 3))

    def test_of_the_least_the_first(self):
        deal = (4, (((0, 2), "a"), ((8, 2), "a")), ())
        self.told(deal, ("take", "a", 2), (((0, 2), "a"), ((4, 2), "a"), ((8, 2), "a")), (), (4, 2))
        self.told(deal, ("take", "a", 0), (((0, 2), "a"), ((4, 0), "a"), ((8, 2), "a")), (), (4, 0))
        self.refused(NoRoom, deal, ("take", "a", 3))

    def test_kept_for_the_name_and_for_others(self):
        deal = (3, (), (((0, 2), "a"),))
        self.told(deal, ("take", "b", 2), (((4, 2), "b"),), deal[2], (4, 2))
        self.told(deal, ("take", "a", 2), (((0, 2), "a"),), deal[2], (0, 2))
        self.told(deal, ("take", "a", 3), (((0, 3), "a"),), deal[2], (0, 3))
        self.refused(NoRoom, deal, ("take", "b", 3))
        # What is kept for the name and what is free beside it are one block for the name.
        deal = (3, (((6, 1), "b"),), (((0, 1), "a"),))
        self.told(deal, ("take", "a", 2), (((0, 2), "a"), ((6, 1), "b")), deal[2], (0, 2))
        self.told(deal, ("take", "a", 0), (((4, 0), "a"), ((6, 1), "b")), deal[2], (4, 0))
        self.refused(NoRoom, deal, ("take", "c", 2))

    def test_no_room(self):
        for bits in range(1, 65):
            for height in range(bits + 1):
                self.refused(NoRoom, (bits, (((0, bits), "a"),), ()), ("take", "a", height))
                self.refused(NoRoom, (bits, (), (((0, bits), "a"),)), ("take", "b", height))
            for outs in [(((0, 0), "a"),), (((2 ** bits - 1, 0), "a"),)]:
                self.refused(NoRoom, (bits, outs, ()), ("take", "a", bits))

    def test_all_taken_one_by_one(self):
        deal, begins = (3, (), ()), []
        for _ in range(8):
            deal, block = done(deal, ("take", "a", 0))
            begins.append(block)
        self.assertEqual(begins, [(begin, 0) for begin in range(8)])
        self.refused(NoRoom, deal, ("take", "a", 0))


class Near(Deeds):
    def test_the_block_that_has_it(self):
        for address in range(8):
            for height in range(4):
                block = (address >> height << height, height)
                self.told((3, (), ()), ("near", "a", height, address), ((block, "a"),), (), block)

    def test_below_and_above(self):
        # Free are (2, 1) and (8, 3).
        deal = (4, (((0, 1), "a"), ((4, 2), "a")), ())
        for address, height, block in [
            (0, 0, (2, 0)), (0, 1, (2, 1)), (1, 3, (8, 3)), (4, 0, (3, 0)), (5, 0, (3, 0)), (6, 0, (8, 0)),
            (5, 1, (2, 1)), (6, 1, (8, 1)), (7, 2, (8, 2)), (3, 2, (8, 2)), (15, 0, (15, 0)), (15, 2, (12, 2)),
            (11, 1, (10, 1)), (0, 2, (8, 2)),
        ]:
            outs = tuple(sorted(deal[1] + ((block, "b"),)))
            self.told(deal, ("near", "b", height, address), outs, (), block)

    def test_of_two_the_lower_one(self):
        deal = (3, (((3, 0), "a"),), ())
        self.told(deal, ("near", "b", 0, 3), (((2, 0), "b"), ((3, 0), "a")), (), (2, 0))
        deal = (3, (((2, 1), "a"), ((4, 0), "a")), ())
        self.told(deal, ("near", "b", 0, 3), (((1, 0), "b"),) + deal[1], (), (1, 0))
        deal = (4, (((4, 2), "a"), ((8, 1), "a")), ())
        # From 6 to 3 and from 6 to 10: 3 and 4; from 7 to 3 and to 10: 4 and 3.
        self.told(deal, ("near", "b", 1, 6), (((2, 1), "b"),) + deal[1], (), (2, 1))
        self.told(deal, ("near", "b", 1, 7), deal[1] + (((10, 1), "b"),), (), (10, 1))

    def test_a_greater_one_farther_away(self):
        deal = (4, (((1, 0), "a"), ((4, 2), "a")), ())
        self.told(deal, ("near", "b", 3, 0), deal[1] + (((8, 3), "b"),), (), (8, 3))
        self.told(deal, ("near", "b", 0, 0), (((0, 0), "b"),) + deal[1], (), (0, 0))
        self.told(deal, ("near", "b", 1, 0), (((1, 0), "a"), ((2, 1), "b"), ((4, 2), "a")), (), (2, 1))

    def test_kept(self):
        deal = (3, (), (((0, 2), "a"),))
        self.told(deal, ("near", "a", 0, 1), (((1, 0), "a"),), deal[2], (1, 0))
        self.told(deal, ("near", "b", 0, 1), (((4, 0), "b"),), deal[2], (4, 0))
        self.refused(NoRoom, deal, ("near", "b", 3, 7))

    def test_wide_ones(self):
        deal = (64, (((2 ** 63, 0), "a"),), ())
        self.told(deal, ("near", "b", 0, 2 ** 63), (((2 ** 63 - 1, 0), "b"),) + deal[1], (), (2 ** 63 - 1, 0))
        self.told(deal, ("near", "b", 0, TOP - 1), deal[1] + (((TOP - 1, 0), "b"),), (), (TOP - 1, 0))
        self.told(deal, ("near", "b", 62, 2 ** 63), (((2 ** 62, 62), "b"),) + deal[1], (), (2 ** 62, 62))
        self.told(deal, ("near", "b", 62, TOP - 1), deal[1] + (((TOP - 2 ** 62, 62), "b"),), (), (TOP - 2 ** 62, 62))
        self.refused(NoRoom, deal, ("near", "b", 64, 0))

    def test_no_room(self):
        for bits in range(1, 65):
            self.refused(NoRoom, (bits, (((0, bits), "a"),), ()), ("near", "a", 0, 0))
            self.refused(NoRoom, (bits, (((0, 0), "a"),), ()), ("near", "b", bits, 2 ** bits - 1))
            self.refused(NoRoom, (bits, (), (((0, bits), "a"),)), ("near", "b", 0, 0))


class Give(Deeds):
    def test_whole(self):
        for bits in range(1, 65):
            for height in range(bits + 1):
                self.told((bits, (((0, height), "a"),), ()), ("give", "a", (0, height)), (), (), ())
        deal = (3, (((0, 1), "a"), ((2, 1), "b"), ((4, 2), "a")), (((2, 1), "b"),))
        self.told(deal, ("give", "b", (2, 1)), (((0, 1), "a"), ((4, 2), "a")), deal[2], ())

    def test_in_part(self):
        deal = (3, (((0, 3), "a"),), ())
        self.told(deal, ("give", "a", (2, 0)), (((0, 1), "a"), ((3, 0), "a"), ((4, 2), "a")), (),
                  ((0, 1), (3, 0), (4, 2)))
        self.told(deal, ("give", "a", (4, 2)), (((0, 2), "a"),), (), ((0, 2),))
        deal = (4, (((0, 1), "b"), ((4, 2), "a"), ((8, 2), "a")), ())
        self.told(deal, ("give", "a", (9, 0)), (((0, 1), "b"), ((4, 2), "a"), ((8, 0), "a"), ((10, 1), "a")), (),
                  ((8, 0), (10, 1)))

    def test_in_part_of_a_wide_one(self):
        rest = tuple((2 ** height, height) for height in range(64))
        self.told((64, (((0, 64), "a"),), ()), ("give", "a", (0, 0)), tuple((block, "a") for block in rest), (), rest)

    def test_not_theirs(self):
        deal = (3, (((0, 1), "a"), ((2, 1), "a"), ((4, 1), "b")), (((6, 1), "a"),))
        for block in [(4, 1), (4, 0), (6, 1), (0, 2), (0, 3), (4, 2), (7, 0)]:
            self.refused(NotTheirs, deal, ("give", "a", block))
        for block in [(0, 1), (0, 0), (4, 2), (6, 0)]:
            self.refused(NotTheirs, deal, ("give", "b", block))
            self.refused(NotTheirs, deal, ("give", "c", block))
        self.refused(NotTheirs, (3, (), ()), ("give", "a", (0, 3)))


class Grow(Deeds):
    def test_both_ways(self):
        for bits in range(1, 65):
            low, high, last = (0, bits - 1), (2 ** (bits - 1), bits - 1), (2 ** bits - 1, 0)
            self.told((bits, ((low, "a"),), ()), ("grow", "a", low), (((0, bits), "a"),), (), (0, bits))
            self.told((bits, ((high, "a"),), ()), ("grow", "a", high), (((0, bits), "a"),), (), (0, bits))
            joined = (2 ** bits - 2, 1)
            self.told((bits, ((last, "a"),), ()), ("grow", "a", last), ((joined, "a"),), (), joined)

    def test_among_others(self):
        deal = (4, (((0, 1), "b"), ((4, 1), "a"), ((8, 0), "a")), ())
        self.told(deal, ("grow", "a", (4, 1)), (((0, 1), "b"), ((4, 2), "a"), ((8, 0), "a")), (), (4, 2))
        self.told(deal, ("grow", "b", (0, 1)), (((0, 2), "b"), ((4, 1), "a"), ((8, 0), "a")), (), (0, 2))

    def test_kept(self):
        deal = (3, (((0, 1), "a"),), (((2, 0), "a"), ((4, 2), "b")))
        self.told(deal, ("grow", "a", (0, 1)), (((0, 2), "a"),), deal[2], (0, 2))
        self.refused(NoRoom, (3, (((0, 1), "a"),), (((3, 0), "b"),)), ("grow", "a", (0, 1)))
        self.refused(NoRoom, (3, (((0, 2), "a"),), (((4, 2), "b"),)), ("grow", "a", (0, 2)))

    def test_no_room(self):
        for bits in range(1, 65):
            self.refused(NoRoom, (bits, (((0, bits), "a"),), ()), ("grow", "a", (0, bits)))
        self.refused(NoRoom, (3, (((0, 1), "a"), ((3, 0), "a")), ()), ("grow", "a", (0, 1)))
        self.refused(NoRoom, (3, (((0, 1), "a"), ((2, 1), "a")), ()), ("grow", "a", (0, 1)))
        self.refused(NoRoom, (3, (((0, 1), "a"), ((2, 1), "b")), ()), ("grow", "b", (2, 1)))

    def test_not_theirs(self):
        deal = (3, (((0, 1), "a"),), (((4, 1), "a"),))
        for name, block in [("b", (0, 1)), ("a", (0, 0)), ("a", (0, 2)), ("a", (2, 1)), ("a", (4, 1)), ("a", (0, 3))]:
            self.refused(NotTheirs, deal, ("grow", name, block))
        self.refused(NotTheirs, (1, (), ()), ("grow", "a", (0, 1)))
        self.refused(NotTheirs, (3, (((0, 1), "a"), ((2, 1), "a")), ()), ("grow", "b", (0, 1)))


class KeepAndLoose(Deeds):
    def test_keep(self):
        deal = (3, (((0, 1), "a"),), (((4, 1), "b"),))
        self.told(deal, ("keep", "a", (2, 1)), deal[1], (((2, 1), "a"), ((4, 1), "b")), None)
        self.told(deal, ("keep", "c", (6, 0)), deal[1], (((4, 1), "b"), ((6, 0), "c")), None)
        for bits in range(1, 65):
            self.told((bits, (), ()), ("keep", "a", (0, bits)), (), (((0, bits), "a"),), None)

    def test_keep_no_room(self):
        deal = (3, (((0, 1), "a"),), (((4, 1), "b"),))
        for name in ("a", "b", "c"):
            for block in [(0, 1), (0, 0), (0, 2), (4, 1), (5, 0), (4, 2), (0, 3)]:
                self.refused(NoRoom, deal, ("keep", name, block))

    def test_loose(self):
        deal = (3, (((4, 0), "b"),), (((0, 1), "a"), ((2, 1), "a"), ((4, 1), "b")))
        self.told(deal, ("loose", "a", (2, 1)), deal[1], (((0, 1), "a"), ((4, 1), "b")), None)
        self.told(deal, ("loose", "b", (4, 1)), deal[1], (((0, 1), "a"), ((2, 1), "a")), None)

    def test_loose_not_theirs(self):
        deal = (3, (((4, 0), "b"), ((6, 0), "b")), (((0, 1), "a"), ((2, 1), "a"), ((4, 1), "b")))
        for name, block in [("b", (0, 1)), ("a", (0, 0)), ("a", (0, 2)), ("a", (4, 1)), ("b", (4, 0)), ("b", (6, 0)),
                            ("c", (0, 1)), ("a", (6, 1))]:
            self.refused(NotTheirs, deal, ("loose", name, block))


class Move(Deeds):
    def test_moves(self):
        deal = (3, (((0, 1), "a"), ((2, 0), "b")), (((4, 1), "a"),))
        self.told(deal, ("move", "a", (0, 1), (6, 1)), (((2, 0), "b"), ((6, 1), "a")), deal[2], None)
        self.told(deal, ("move", "a", (0, 1), (4, 1)), (((2, 0), "b"), ((4, 1), "a")), deal[2], None)
        self.told(deal, ("move", "b", (2, 0), (3, 0)), (((0, 1), "a"), ((3, 0), "b")), deal[2], None)
        for bits in range(1, 65):
            low, high = (0, bits - 1), (2 ** (bits - 1), bits - 1)
            self.told((bits, ((low, "a"),), ()), ("move", "a", low, high), ((high, "a"),), (), None)
            self.told((bits, ((high, "a"),), ()), ("move", "a", high, low), ((low, "a"),), (), None)

    def test_no_room(self):
        deal = (3, (((0, 1), "a"), ((2, 0), "b")), (((4, 1), "c"), ((7, 0), "b")))
        for to in [(0, 1), (2, 1), (4, 1), (6, 1)]:
            self.refused(NoRoom, deal, ("move", "a", (0, 1), to))
        for to in [(2, 0), (0, 0), (1, 0), (4, 0), (5, 0)]:
            self.refused(NoRoom, deal, ("move", "b", (2, 0), to))

    def test_not_theirs(self):
        deal = (3, (((0, 1), "a"), ((2, 0), "b")), (((4, 1), "a"),))
        for name, block, to in [("b", (0, 1), (6, 1)), ("a", (0, 0), (3, 0)), ("a", (2, 0), (3, 0)),
                                ("a", (4, 1), (6, 1)), ("c", (0, 1), (0, 1)), ("a", (0, 2), (4, 2))]:
            self.refused(NotTheirs, deal, ("move", name, block, to))


class Refused(Deeds):
    deal = (3, (((0, 1), "a"), ((2, 1), "b")), (((4, 2), "b"),))

    def test_no_deed_of_anything(self):
        for thing in strange_things() + spoilt_blocks():
            self.refused(NoDeed, self.deal, thing)

    def test_no_deed_ahead_of_all(self):
        # Nothing is free for "a" here, and nothing of "c" is out or kept.
        for deed in [
            ("take", "a", 4), ("take", "a", -1), ("take", "a", True), ("take", "A", 0), ("take", "a"),
            ("take", "a", 0, 0), ("near", "a", 4, 0), ("near", "a", 0, 8), ("near", "a", 0, -1), ("near", "a", 0),
            ("near", "a", 0, None),
            ("give", "c", (8, 0)), ("give", "c", (1, 1)), ("give", "c", [0, 0]), ("give", "c"), ("grow", "c", (0, 4)),
            ("keep", "a", (0, 4)), ("keep", "", (0, 0)), ("loose", "c", 0), ("loose", "c", (0, 0), None),
            ("move", "c", (0, 1), (0, 0)), ("move", "a", (0, 1), (4, 2)), ("move", "a", (0, 1), (8, 1)),
            ("move", "c", (0, 1)), ("stay", "a", (0, 1)), ("Take", "a", 0), ["take", "a", 0],
        ]:
            self.refused(NoDeed, self.deal, deed)

    def test_no_deed_of_names_and_parts(self):
        for name in no_names():
            self.refused(NoDeed, self.deal, ("take", name, 0))
            self.refused(NoDeed, self.deal, ("move", name, (0, 1), (2, 1)))
        for thing in strange_things()[-9:] + spoilt_blocks() + [nested(58)]:
            self.refused(NoDeed, self.deal, ("near", "a", 0, thing))
            for word in ONE_BLOCK:
                self.refused(NoDeed, self.deal, (word, "a", thing))

    def test_of_the_deals_own_bits(self):
        for bits in range(1, 64):
            narrow, wide = (bits, (), ()), (bits + 1, (), ())
            for deed, refusal in [(("take", "a", bits + 1), None), (("near", "a", 0, 2 ** bits), None),
                                  (("keep", "a", (2 ** bits, 0)), None), (("give", "a", (0, bits + 1)), NotTheirs)]:
                self.refused(NoDeed, narrow, deed)
                if refusal is None:
                    self.assertTrue(is_deal(done(wide, deed)[0]))
                else:
                    self.refused(refusal, wide, deed)

    def test_not_theirs_ahead_of_no_room(self):
        deal = (2, (((0, 2), "a"),), ())
        self.refused(NotTheirs, deal, ("grow", "b", (0, 2)))
        self.refused(NotTheirs, deal, ("grow", "a", (0, 1)))
        self.refused(NotTheirs, deal, ("move", "b", (0, 2), (0, 2)))
        self.refused(NotTheirs, deal, ("move", "a", (0, 1), (2, 1)))
        self.refused(NoRoom, deal, ("grow", "a", (0, 2)))
        self.refused(NoRoom, deal, ("move", "a", (0, 2), (0, 2)))


class AsIfItHadNeverBeen(Deeds):
    deal = (4, (((0, 1), "a"), ((4, 0), "b")), (((8, 2), "a"),))

    def test_taken_and_given_back(self):
        for deed in [("take", "a", 2), ("take", "b", 0), ("near", "a", 1, 9), ("near", "c", 0, 15)]:
            behind, block = done(self.deal, deed)
            self.assertNotEqual(behind, self.deal)
            self.assertEqual(done(behind, ("give", deed[1], block)), (self.deal, ()))

    def test_given_back_in_parts(self):
        behind, block = done(self.deal, ("take", "c", 2))
        for address in (14, 12, 15, 13):
            behind = done(behind, ("give", "c", (address, 0)))[0]
        self.assertEqual(behind, self.deal)

    def test_parted_and_grown(self):
        parted, rest = done(self.deal, ("give", "a", (1, 0)))
        self.assertEqual(rest, ((0, 0),))
        self.assertEqual(done(parted, ("grow", "a", (0, 0))), (self.deal, (0, 1)))

    def test_kept_and_let_go(self):
        kept = done(self.deal, ("keep", "c", (12, 2)))[0]
        self.assertNotEqual(free_for(kept, "a"), free_for(self.deal, "a"))
        self.assertEqual(done(kept, ("loose", "c", (12, 2))), (self.deal, None))

    def test_moved_and_moved_back(self):
        moved = done(self.deal, ("move", "a", (0, 1), (10, 1)))[0]
        self.assertEqual(done(moved, ("move", "a", (10, 1), (0, 1))), (self.deal, None))


if __name__ == "__main__":
    unittest.main()
