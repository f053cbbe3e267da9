"""Tests of blockdeal.deals: promises [9], [3] (a), (e) and [2]."""

import copy
import itertools
import unittest

from blockdeal.deals import free_for, holder, is_deal, out_to
from blockdeal.patches import count_of, fewest, is_fewest, is_patch, rest_of, without
from tests.helper import (
    Text, addresses, all_deals, chance, free_addresses, greatest_blocks, is_told, named_patches,
    names_agree, near_points, no_names, some_deal, spoilt_blocks, strange_things, stretches, stretches_of,
)

TOP = 2 ** 64
WIDTHS = (1, 2, 3, 8, 31, 32, 33, 63, 64)


class IsDeal(unittest.TestCase):
    def test_deals(self):
        for deal in [
            (1, (), ()), (64, (), ()),
            (1, (((0, 1), "a"),), ()), (64, (((0, 64), "abcdefgh"),), ()),
            (1, (((0, 0), "a"), ((1, 0), "b")), ()), (1, (((0, 0), "b"), ((1, 0), "a")), ()),
            (1, (), (((0, 1), "z"),)), (64, (), (((0, 63), "a"), ((2 ** 63, 63), "a"))),
            (3, (((0, 2), "a"),), (((4, 2), "b"),)), (3, (((4, 2), "a"),), (((0, 2), "b"),)),
            (3, (((0, 2), "a"),), (((0, 2), "a"),)), (3, (((0, 2), "a"),), (((0, 3), "a"),)),
            (3, (((0, 3), "a"),), (((0, 2), "a"), ((5, 0), "a"))),
            (3, (((0, 0), "a"), ((2, 0), "a"), ((4, 0), "b")), (((0, 2), "a"), ((4, 1), "b"), ((6, 0), "c"))),
            (64, (((0, 0), "a"), ((TOP - 1, 0), "b")), (((0, 63), "a"), ((2 ** 63, 63), "b"))),
        ]:
            self.assertIs(is_deal(deal), True, deal)

    def test_every_two_shares_of_small_rows(self):
        for bits in (1, 2):
            shares = named_patches(bits, ("a", "b"))
            for outs, kept in itertools.product(shares, repeat=2):
                self.assertIs(is_deal((bits, outs, kept)), names_agree(outs, kept), (outs, kept))

    def test_unlike_names_over_one_another(self):
        for one, other in [((0, 2), (0, 2)), ((0, 2), (0, 3)), ((0, 3), (0, 2)), ((0, 3), (7, 0)), ((7, 0), (0, 3))]:
            self.assertIs(is_deal((3, ((one, "a"),), ((other, "b"),))), False)
            self.assertIs(is_deal((3, ((one, "a"),), ((other, "a"),))), True)
        self.assertIs(is_deal((3, (((0, 0), "a"), ((1, 0), "b")), (((0, 1), "a"),))), False)
        self.assertIs(is_deal((3, (((0, 0), "a"), ((7, 0), "b")), (((0, 1), "a"), ((4, 2), "a")))), False)
        self.assertIs(is_deal((3, (((0, 1), "a"), ((4, 2), "a")), (((0, 0), "a"), ((7, 0), "b")))), False)
        self.assertIs(is_deal((64, (((0, 64), "a"),), (((TOP - 1, 0), "b"),))), False)

    def test_bits_that_are_none(self):
        for bits in [0, -1, 65, 66, 1000, 2 ** 70, -(2 ** 70), True, False, None, "8", "", b"\x08", (8,), [8], {}]:
            self.assertIs(is_deal((bits, (), ())), False, bits)
            self.assertIs(is_deal((bits, (((0, 0), "a"),), ())), False, bits)
        for bits in range(1, 65):
            self.assertIs(is_deal((bits, (), ())), True)

    def test_shares_that_are_none(self):
        for shares in [
            (((0, 1), "a"), ((0, 1), "a")), (((0, 1), "a"), ((0, 1), "b")), (((2, 0), "a"), ((0, 0), "a")),
            (((2, 0), "a"), ((0, 0), "b")), (((0, 1), "a"), ((1, 0), "a")), (((0, 0), "a"), ((0, 1), "a")),
            (((0, 3), "a"), ((7, 0), "b")), (((0, 1), "a"), ((2, 1), "a"), ((2, 0), "a")),
            (((0, 4), "a"),), (((8, 0), "a"),), (((1, 1), "a"),), (((0, -1), "a"),),
            (((0, 1),),), (((0, 1), "a", "a"),), (((0, 1), "a", None),), ((),), (("a", (0, 1)),), ((0, 1, "a"),),
            (((0, True), "a"),), (((False, 0), "a"),), (([0, 1], "a"),), ([(0, 1), "a"],), [((0, 1), "a")], [],
            ((0, 1), "a"), ((((0, 1), "a"),),), None, "", "a", 0, {}, {(0, 1): "a"}, (None,), ("",),
        ]:
            self.assertIs(is_deal((3, shares, ())), False, shares)
            self.assertIs(is_deal((3, (), shares)), False, shares)
            self.assertIs(is_deal((3, shares, shares)), False, shares)

    def test_names_that_are_none(self):
        for place, name in enumerate(no_names()):
            self.assertIs(is_deal((3, (((0, 1), name),), ())), False, place)
            self.assertIs(is_deal((3, (), (((0, 1), name),))), False, place)
            self.assertIs(is_deal((3, (((0, 1), "a"), ((2, 1), name), ((4, 1), "b")), ())), False, place)

    def test_names(self):
        for name in ["a", "z", "ab", "zz", "abcdefgh", "stuvwxyz", "ijklmnop", "qr"]:
            self.assertIs(is_deal((3, (((0, 1), name),), (((2, 1), name),))), True, name)
        self.assertIs(is_deal((3, (((0, 1), Text("a1")),), ())), False)

    def test_longer_and_shorter(self):
        for thing in [(), (3,), (3, ()), (3, (), (), ()), (3, (), (), None), [3, (), ()], (3, [], ()), (3, (), []),
                      ((3, (), ()),), ((), (), 3), ((), 3, ())]:
            self.assertIs(is_deal(thing), False, thing)

    def test_anything(self):
        for place, thing in enumerate(strange_things() + spoilt_blocks()):
            self.assertIs(is_deal(thing), False, place)
            self.assertIs(is_deal((3, (thing,), ())), False, place)
            self.assertIs(is_deal((3, (), (thing,))), False, place)
            self.assertIs(is_deal((3, ((thing, "a"),), ())), False, place)
            self.assertIs(is_deal((3, (), (((0, 0), "a"), (thing, "a")))), False, place)
            self.assertIs(is_deal((3, (((0, 0), thing),), ())), False, place)
            self.assertIs(is_deal((thing, (), ())), type(thing) is int and 1 <= thing <= 64, place)
            if thing != ():
                self.assertIs(is_deal((3, thing, ())), False, place)
                self.assertIs(is_deal((3, (), thing)), False, place)

    def test_wide_ones_by_chance(self):
        source = chance(50)
        for bits in range(1, 65):
            deal = some_deal(source, bits, 20)
            self.assertIs(is_deal(deal), True)
            self.assertIs(is_deal((bits, deal[1], ())), True)
            for shares in (deal[1], deal[2]):
                if len(shares) > 1:
                    self.assertIs(is_deal((bits, shares[::-1], ())), False)
                    self.assertIs(is_deal((bits, (), shares[:1] + shares)), False)
            strangers = tuple((block, "other") for block, name in deal[2])
            self.assertIs(is_deal((bits, deal[1], strangers)), names_agree(deal[1], strangers))

    def test_many_blocks(self):
        outs = tuple(((2 * place, 0), "a") for place in range(3000))
        kept = tuple(((4 * place, 2), "a") for place in range(1500))
        self.assertIs(is_deal((64, outs, kept)), True)
        self.assertIs(is_deal((64, outs, kept[:-1] + ((kept[-1][0], "b"),))), False)
        self.assertIs(is_deal((64, outs[:-1] + ((outs[-1][0], "b"),), kept)), False)


class Told(unittest.TestCase):
    deal = (4, (((0, 1), "a"), ((4, 0), "b"), ((6, 1), "a")), (((4, 1), "b"), ((8, 2), "a"), ((12, 1), "c")))

    def test_free_for(self):
        self.assertEqual(free_for(self.deal, None), ((2, 1), (14, 1)))
        self.assertEqual(free_for(self.deal, "a"), ((2, 1), (8, 2), (14, 1)))
        self.assertEqual(free_for(self.deal, "b"), ((2, 1), (5, 0), (14, 1)))
        self.assertEqual(free_for(self.deal, "c"), ((2, 1), (12, 2)))
        self.assertEqual(free_for(self.deal, "d"), free_for(self.deal, None))

    def test_out_to(self):
        self.assertEqual(out_to(self.deal, "a"), ((0, 1), (6, 1)))
        self.assertEqual(out_to(self.deal, "b"), ((4, 0),))
        self.assertEqual(out_to(self.deal, "c"), ())
        self.assertEqual(out_to((4, (((0, 1), "a"), ((2, 1), "a"), ((4, 2), "b")), ()), "a"), ((0, 2),))

    def test_holder(self):
        told = [("out", "a", (0, 1))] * 2 + [("free", None, (2, 1))] * 2 + [("out", "b", (4, 0)), ("kept", "b", (4, 1))]
        told += [("out", "a", (6, 1))] * 2 + [("kept", "a", (8, 2))] * 4 + [("kept", "c", (12, 1))] * 2
        told += [("free", None, (14, 1))] * 2
        self.assertEqual([holder(self.deal, address) for address in range(16)], told)

    def test_nothing_out_and_all_out(self):
        for bits in range(1, 65):
            whole, last = (0, bits), 2 ** bits - 1
            for name in (None, "a"):
                self.assertEqual(free_for((bits, (), ()), name), (whole,))
                self.assertEqual(free_for((bits, ((whole, "a"),), ()), name), ())
                self.assertEqual(free_for((bits, ((whole, "a"),), ((whole, "a"),)), name), ())
            self.assertEqual(free_for((bits, (), ((whole, "a"),)), None), ())
            self.assertEqual(free_for((bits, (), ((whole, "a"),)), "b"), ())
            self.assertEqual(free_for((bits, (), ((whole, "a"),)), "a"), (whole,))
            self.assertEqual(out_to((bits, (), ((whole, "a"),)), "a"), ())
            self.assertEqual(out_to((bits, ((whole, "a"),), ()), "a"), (whole,))
            for address in (0, last):
                self.assertEqual(holder((bits, (), ()), address), ("free", None, whole))
                self.assertEqual(holder((bits, (), ((whole, "a"),)), address), ("kept", "a", whole))
                self.assertEqual(holder((bits, ((whole, "a"),), ((whole, "a"),)), address), ("out", "a", whole))

    def test_the_block_that_has_it_is_told_not_a_joined_one(self):
        deal = (2, (((0, 0), "a"), ((1, 0), "a")), (((2, 0), "b"), ((3, 0), "b")))
        self.assertEqual(holder(deal, 1), ("out", "a", (1, 0)))
        self.assertEqual(holder(deal, 3), ("kept", "b", (3, 0)))
        self.assertEqual(out_to(deal, "a"), ((0, 1),))

    def test_wide_ones(self):
        deal = (64, (((TOP - 1, 0), "a"),), (((0, 63), "b"),))
        self.assertEqual(free_for(deal, "b")[0], (0, 63))
        self.assertEqual(free_for(deal, "a"), tuple((TOP - 2 ** (height + 1), height) for height in range(62, -1, -1)))
        self.assertEqual(holder(deal, TOP - 1), ("out", "a", (TOP - 1, 0)))
        self.assertEqual(holder(deal, TOP - 2), ("free", None, (TOP - 2, 0)))
        self.assertEqual(holder(deal, 2 ** 63), ("free", None, (2 ** 63, 62)))
        self.assertEqual(holder(deal, 2 ** 63 - 1), ("kept", "b", (0, 63)))


class AddressByAddress(unittest.TestCase):
    def told_right(self, deal):
        bits, outs, kept = deal
        for name in (None, "a", "b", "c"):
            self.assertEqual(free_for(deal, name), greatest_blocks(bits, free_addresses(deal, name)))
        for name in ("a", "b", "c"):
            mine = addresses([block for block, theirs in outs if theirs == name])
            self.assertEqual(out_to(deal, name), greatest_blocks(bits, mine))
        free = greatest_blocks(bits, free_addresses(deal, None))
        for address in range(2 ** bits):
            out = [("out", name, block) for block, name in outs if address in addresses([block])]
            held = [("kept", name, block) for block, name in kept if address in addresses([block])]
            rest = [("free", None, block) for block in free if address in addresses([block])]
            self.assertEqual(holder(deal, address), (out + held + rest)[0])

    def test_every_deal_of_small_rows(self):
        for bits, step in [(1, 1), (2, 9)]:
            for deal in all_deals(bits, ("a", "b"))[::step]:
                self.told_right(deal)

    def test_deals_of_three_to_six_bits(self):
        source = chance(51)
        for bits in (3, 4, 5, 6):
            for many in (2, 5, 12):
                for heights in (None, [0, 1]):
                    self.told_right(some_deal(source, bits, many, heights=heights))


class EveryWidth(unittest.TestCase):
    def deals(self, seed):
        source = chance(seed)
        for bits in range(1, 65):
            for many in (1, 4, 25):
                yield source, some_deal(source, bits, many)

    def test_free_for_by_stretches(self):
        for source, deal in self.deals(52):
            bits, outs, kept = deal
            out = [block for block, name in outs]
            for name in (None, "a", "b", "c", "d"):
                held = [block for block, theirs in kept if theirs != name]
                told = free_for(deal, name)
                self.assertEqual(stretches_of(told), stretches(
                    lambda row, away, off: row and not away and not off, [(0, bits)], out, held))
                self.assertTrue(is_patch(bits, told) and is_fewest(told))

    def test_each_address_in_just_one(self):
        for source, deal in self.deals(53):
            bits, outs, kept = deal
            out = fewest([block for name in ("a", "b", "c") for block in out_to(deal, name)])
            self.assertEqual(count_of(out), sum(count_of(out_to(deal, name)) for name in ("a", "b", "c")))
            held = without(fewest([block for block, name in kept]), out)
            free = free_for(deal, None)
            self.assertEqual(count_of(out) + count_of(held) + count_of(free), 2 ** bits)
            self.assertEqual(fewest(out + held + free), ((0, bits),))
            self.assertEqual(rest_of(bits, free), fewest(out + held))

    def test_holder_agrees(self):
        for source, deal in self.deals(54):
            bits, outs, kept = deal
            points = [block[0] for block, name in outs + kept]
            for _ in range(10):
                address = near_points(source, bits, points)
                word, name, block = holder(deal, address)
                begin, height = block
                self.assertTrue(begin <= address < begin + 2 ** height)
                out = [pair for pair in outs if pair[0][0] <= address < pair[0][0] + 2 ** pair[0][1]]
                held = [pair for pair in kept if pair[0][0] <= address < pair[0][0] + 2 ** pair[0][1]]
                self.assertEqual(word, "out" if out else "kept" if held else "free")
                if word == "free":
                    self.assertIsNone(name)
                    self.assertIn(block, free_for(deal, None))
                else:
                    self.assertEqual((block, name), (out or held)[0])


class HandedInAndTold(unittest.TestCase):
    def test_nothing_is_changed_and_the_same_is_told_again(self):
        things = [Told.deal, (3, [], ()), [3, (), ()], (3, ([(0, 1), "a"],), ())]
        ahead = copy.deepcopy(things)
        for thing in things:
            self.assertIs(is_deal(thing), is_deal(thing))
        for name in (None, "a", "b", "c", "d"):
            self.assertEqual(free_for(Told.deal, name), free_for(Told.deal, name))
            self.assertEqual(out_to(Told.deal, name), out_to(Told.deal, name))
        self.assertEqual(things, ahead)

    def test_kinds(self):
        source = chance(55)
        for bits in WIDTHS:
            deal = some_deal(source, bits, 10)
            for name in (None, "a", "b"):
                self.assertTrue(is_told(free_for(deal, name)))
                self.assertTrue(is_told(out_to(deal, name)))
            for address in (0, 1, 2 ** bits - 1):
                self.assertTrue(is_told(holder(deal, address)))


if __name__ == "__main__":
    unittest.main()
