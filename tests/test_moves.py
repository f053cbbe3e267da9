"""Tests of blockdeal.moves: promises [12], [3] (d) and [2]."""

import copy
import itertools
import unittest

from blockdeal.dealing import done
from blockdeal.deals import free_for, is_deal
from blockdeal.moves import least_moves
from blockdeal.patches import count_of
from tests.helper import all_deals, chance, is_told, levels_there, named_patches, open_places, some_deal

NAMES = ("a", "b", "c")
STAYS = ((), ("a",), ("b",), ("a", "b"), ("c",), ("d", "zz"))


class Checked(unittest.TestCase):
    def told_right(self, deal, name, height, stays, most):
        """What is told, looked through word by word against levels told otherwise."""
        told = least_moves(deal, name, height, stays, most)
        self.assertEqual(least_moves(deal, name, height, stays, most), told)
        self.assertIs(type(told), tuple)
        self.assertTrue(is_told(told))
        word, levels = levels_there(deal, name, height, stays, most)
        self.assertEqual(told[0], word, (deal, name, height, stays, most))
        if word == "open":
            self.assertEqual(told, ("open", None))
        else:
            self.assertEqual(told[-1], tuple(levels))
            self.assertEqual(len(told), 3 if word == "moves" else 2)
        if word == "moves":
            self.assertEqual(len(told[1]), len(levels))
            self.moves_do(deal, name, height, stays, told[1])
        return told

    def moves_do(self, deal, name, height, stays, moves):
        """Done one by one, of names that don't stay, the moves make such a block free."""
        for move in moves:
            self.assertEqual(move[0], "move")
            self.assertNotIn(move[1], stays)
            deal = done(deal, move)[0]
        self.assertTrue(open_places(deal, name, height))

    def at_each_most(self, deal, name, height, stays, most=3000):
        """What is told up to the very most at which it changes, below that and at 0."""
        told = self.told_right(deal, name, height, stays, most)
        if told[0] == "open":
            self.assertEqual(least_moves(deal, name, height, stays, 0), told)
            return told
        stands = sum(len(level) for level in told[-1])
        self.assertEqual(least_moves(deal, name, height, stays, stands), told)
        self.assertEqual(least_moves(deal, name, height, stays, 10 * most), told)
        for less in {stands - 1, stands // 2, 1, 0}:
            if 0 <= less < stands:
                self.assertEqual(least_moves(deal, name, height, stays, less), ("open", None))
        return told


class ByHand(Checked):
    def test_one_is_free_already(self):
        for bits in range(1, 9):
            for height in range(bits + 1):
                for most in (0, 1, 3000):
                    self.assertEqual(least_moves((bits, (), ()), "a", height, (), most), ("moves", (), ()))
                self.assertEqual(least_moves((bits, (), ()), "a", height, (), -1), ("open", None))
        deal = (3, (((0, 2), "a"),), (((4, 2), "b"),))
        self.assertEqual(least_moves(deal, "b", 2, (), 0), ("moves", (), ()))
        self.assertEqual(least_moves(deal, "b", 0, ("a", "b"), 0), ("moves", (), ()))

    def test_one_move(self):
        outs = (((0, 0), "a"), ((2, 0), "b"))
        told = self.at_each_most((2, outs, ()), "c", 1, ())
        self.assertEqual((told[0], len(told[1]), told[2]), ("moves", 1, ((outs,),)))
        self.assertEqual(least_moves((2, outs, ()), "c", 1, (), 1), told)
        self.assertEqual(least_moves((2, outs, ()), "c", 1, (), 0), ("open", None))
        self.assertEqual(least_moves((2, outs, ()), "c", 1, ("a",), 1)[1][0][1], "b")
        self.assertEqual(least_moves((2, outs, ()), "c", 1, ("b",), 1)[1][0][1], "a")

    def test_nothing_moves(self):
        outs = (((0, 0), "a"), ((2, 0), "b"))
        self.assertEqual(least_moves((2, outs, ()), "c", 1, ("a", "b"), 1), ("never", ((outs,),)))
        self.assertEqual(least_moves((2, outs, ()), "c", 1, ("a", "b"), 0), ("open", None))
        full = (((0, 3), "a"),)
        self.assertEqual(least_moves((3, full, ()), "a", 0, (), 1), ("never", ((full,),)))
        self.assertEqual(least_moves((3, full, ()), "a", 0, (), 0), ("open", None))
        kept = (((0, 3), "b"),)
        self.assertEqual(least_moves((3, (), kept), "a", 0, (), 1), ("never", (((),),)))
        self.assertEqual(least_moves((3, (), kept), "a", 0, (), 0), ("open", None))

    def test_what_is_kept_for_the_mover(self):
        # b can go into what is kept for b, and leaves a greater block, which a gets a half of.
        deal = (3, (((0, 2), "b"),), (((4, 2), "b"),))
        self.assertEqual(self.at_each_most(deal, "a", 2, ())[1], (("move", "b", (0, 2), (4, 2)),))
        self.assertEqual(self.at_each_most(deal, "a", 1, ())[1], (("move", "b", (0, 2), (4, 2)),))
        self.assertEqual(self.at_each_most(deal, "a", 3, ())[0], "never")
        # What b leaves is kept for b in part: the rest of it must be great enough.
        deal = (3, (((0, 2), "b"),), (((0, 0), "b"), ((4, 2), "b")))
        self.assertEqual(self.at_each_most(deal, "a", 1, ())[0], "moves")
        self.assertEqual(self.at_each_most(deal, "a", 2, ())[0], "never")

    def test_what_is_kept_for_another(self):
        deal = (2, (((0, 0), "a"), ((2, 0), "a")), (((1, 0), "b"),))
        self.assertEqual(self.at_each_most(deal, "a", 1, ())[0], "never")
        self.assertEqual(self.at_each_most(deal, "c", 1, ())[0], "never")
        self.assertEqual(self.at_each_most(deal, "b", 1, ())[0], "moves")

    def test_a_place_within_the_wanted_block_does_not_do(self):
        deal = (2, (((0, 0), "a"), ((2, 1), "b")), ())
        self.assertEqual(self.at_each_most(deal, "c", 1, ()), ("never", ((deal[1],), ((((1, 0), "a"), ((2, 1), "b")),))))

    def test_alike_blocks_of_one_name_and_of_two(self):
        for names, stands in [("aa", 6), ("ab", 12)]:
            deal = (2, (((0, 0), names[0]), ((1, 0), names[1])), ())
            told = self.at_each_most(deal, "c", 2, ())
            self.assertEqual((told[0], sum(len(level) for level in told[1])), ("never", stands))

    def test_a_height_above_the_row(self):
        self.assertEqual(least_moves((2, (), ()), "a", 3, (), 5), ("never", (((),),)))
        self.assertEqual(self.at_each_most((2, (((0, 0), "a"),), ()), "a", 3, ())[0], "never")

    def test_several_moves(self):
        for bits in range(3, 9):
            unit = bits - 3
            outs = tuple(((at << unit, unit), "a") for at in (0, 2, 4, 6))
            told = self.at_each_most((bits, outs, ()), "b", bits - 1, ())
            self.assertEqual((told[0], len(told[1])), ("moves", 2))

    def test_as_many_moves_as_blocks_in_the_way(self):
        # One half of the row has what moves, the other what stays: that half has to be left.
        for bits in (3, 5, 8):
            unit = bits - 3
            for many in range(1, 5):
                mine = [((at << unit, unit), "a") for at in range(many)]
                for theirs in range(1, 5):
                    outs = tuple(mine + [((at << unit, unit), "b") for at in range(8 - theirs, 8)])
                    told = self.at_each_most((bits, outs, ()), "c", bits - 1, ("b",))
                    self.assertEqual(told[0], "moves" if many + theirs <= 4 else "never")
                    if told[0] == "moves":
                        self.assertEqual(len(told[1]), many)

    def test_out_of_the_way_first(self):
        # The greater block can go only where a single address lies.
        for bits in (3, 5, 8):
            unit = bits - 3
            outs = (((0, unit + 1), "a"), ((2 << unit, unit), "b"), ((4 << unit, unit), "b"), ((5 << unit, unit), "c"),
                    ((6 << unit, unit + 1), "b"))
            told = self.at_each_most((bits, outs, ()), "c", unit + 1, ("b",))
            self.assertEqual(told[0], "never")
            outs = (((0, unit + 1), "a"), ((2 << unit, unit), "b"), ((4 << unit, unit), "c"), ((6 << unit, unit + 1), "b"))
            kept = (((3 << unit, unit), "c"), ((4 << unit, unit + 1), "c"))
            told = self.at_each_most((bits, outs, kept), "a", unit + 1, ("b",))
            self.assertEqual(told[0], "never")
            kept = (((3 << unit, unit), "c"), ((5 << unit, unit), "a"))
            told = self.at_each_most((bits, outs, kept), "c", unit + 1, ("b",))
            self.assertEqual([move[1] for move in told[1]], ["c", "a"])

    def test_what_is_handed_in_stays(self):
        deal = (3, (((0, 0), "a"), ((2, 0), "b"), ((4, 1), "a")), (((7, 0), "b"),))
        ahead = copy.deepcopy(deal)
        least_moves(deal, "c", 2, ("b",), 100)
        self.assertEqual(deal, ahead)


class WordByWord(Checked):
    def test_every_deal_of_one_bit(self):
        for deal in all_deals(1, ("a", "b")):
            for name, height, stays in itertools.product(NAMES, (0, 1), STAYS):
                self.at_each_most(deal, name, height, stays)

    def test_deals_of_two_bits(self):
        for place, deal in enumerate(all_deals(2, ("a", "b"))[::29]):
            for name, height in itertools.product(NAMES, (0, 1, 2)):
                self.at_each_most(deal, name, height, STAYS[(place + height) % len(STAYS)])

    def test_deals_of_three_to_five_bits(self):
        source = chance(80)
        found = {}
        for bits, many, heights in [(3, 3, None), (3, 6, [0, 1]), (4, 3, [0, 2]), (4, 14, [0, 1, 2]), (4, 20, [1, 2]),
                                    (5, 3, [2, 3]), (5, 30, [1, 2, 3]), (5, 40, [2])]:
            for _ in range(40):
                deal = some_deal(source, bits, many, heights=heights)
                if source.random() < 0.6:
                    deal = deal[:2] + ((),)
                height = source.randrange(1, bits + 1)
                self.counted(found, self.at_each_most(deal, source.choice(NAMES), height, source.choice(STAYS), 300))
        self.assertGreater(min(found[kind] for kind in [("moves", 0), ("moves", 1), "never", "open"]), 1)

    def test_deals_of_six_to_eight_bits(self):
        source = chance(81)
        found = {}
        for bits in (6, 7, 8):
            for many, low in [(2, 2), (4, 3), (30, 3), (60, 4)]:
                for _ in range(20):
                    deal = some_deal(source, bits, many, heights=range(bits - low, bits - 1))
                    if source.random() < 0.6:
                        deal = deal[:2] + ((),)
                    height = source.randrange(bits - low + 1, bits)
                    told = self.at_each_most(deal, source.choice(NAMES), height, source.choice(STAYS), 60)
                    self.counted(found, told)
        self.assertGreater(min(found[kind] for kind in [("moves", 0), ("moves", 1), "never", "open"]), 1)

    def counted(self, found, told):
        """Told is counted by its word, and moves by how many they are."""
        kind = ("moves", len(told[1])) if told[0] == "moves" else told[0]
        found[kind] = found.get(kind, 0) + 1

    def test_a_full_row_but_one_address(self):
        for bits in (1, 3, 5, 7):
            outs = tuple(((at, 0), "a") for at in range(2 ** bits - 1))
            told = least_moves((bits, outs, ()), "a", 1, (), 2 ** bits)
            self.assertEqual((told[0], [len(level) for level in told[1]]), ("never", [1, 2 ** bits - 1]))
            self.assertEqual(least_moves((bits, outs, ()), "a", 1, (), 2 ** bits - 1), ("open", None))

    def test_many_stands(self):
        # 128 single addresses, each with its other half free: one move, or two behind 16384 others.
        outs = tuple(((at, 0), NAMES[at % 3]) for at in range(0, 256, 2))
        for name in ("a", "d"):
            told = least_moves((8, outs, ()), name, 1, (), 1)
            self.assertEqual((told[0], len(told[1]), told[2]), ("moves", 1, ((outs,),)))
            self.moves_do((8, outs, ()), name, 1, (), told[1])
            self.assertEqual(least_moves((8, outs, ()), name, 2, (), 3000), ("open", None))

    def test_somewhat_wider_rows(self):
        outs = tuple(((at << 7, 0), "a") for at in range(4))
        self.assertEqual(least_moves((9, outs, ()), "b", 9, (), 50), ("open", None))
        told = least_moves((9, outs[:2], ()), "b", 8, ("a",), 50)
        self.assertEqual(told, ("moves", (), ()))
        told = least_moves((9, outs[1:3], ()), "b", 8, (), 1)
        self.assertEqual((told[0], len(told[1])), ("moves", 1))


class JustWhereAsManyAreFree(Checked):
    def test_every_small_deal(self):
        for bits in (1, 2):
            for outs in named_patches(bits, ("a", "b")):
                self.just_so((bits, outs, ()), 3000)

    def test_deals_of_three_bits(self):
        for outs in named_patches(3, ("a",))[::9]:
            self.just_so((3, outs, ()), 3000)

    def test_wider_deals(self):
        source = chance(82)
        for bits in range(4, 9):
            for _ in range(8):
                many = source.choice((2, 3, 30))
                outs = some_deal(source, bits, many, names=("a",), heights=range(bits - 3, bits))[1]
                self.just_so((bits, outs, ()), 3000)

    def just_so(self, deal, most):
        self.assertIs(is_deal(deal), True)
        for name in ("a", "c"):
            for height in range(deal[0] + 1):
                enough = count_of(free_for(deal, name)) >= 2 ** height
                told = least_moves(deal, name, height, (), most)
                self.assertEqual(told[0], "moves" if enough else "never", (deal, name, height))
                if enough:
                    self.moves_do(deal, name, height, (), told[1])


if __name__ == "__main__":
    unittest.main()
