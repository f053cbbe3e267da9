"""Tests of blockdeal.dealing: each deed of small deals, word by word, and long rows of deeds in rows of every width.

Promises [10], [3] (a), (c), (e) and [2].
"""

import itertools
import unittest

from blockdeal.dealing import done
from blockdeal.deals import free_for, holder, is_deal, out_to
from blockdeal.errors import DealError, NoRoom, NotTheirs
from blockdeal.patches import both, count_of, fewest, rest_of, without
from tests.helper import (
    addresses, all_blocks, all_deals, chance, free_addresses, greatest_blocks, is_told, near_points, some_block,
    some_deal,
)

NAMES = ("a", "b", "c")


def every_deed(bits):
    """Each deed of a row with some names."""
    for name in NAMES:
        for height in range(bits + 1):
            yield ("take", name, height)
            for address in range(2 ** bits):
                yield ("near", name, height, address)
        for block in all_blocks(bits):
            for word in ("give", "grow", "keep", "loose"):
                yield (word, name, block)
            for to in all_blocks(bits):
                if to[1] == block[1]:
                    yield ("move", name, block, to)


def as_promised(deal, deed):
    """What done has to tell, or the class that refuses, address by address."""
    bits, outs, kept = deal
    word, name, *parts = deed
    free = free_addresses(deal, name)
    if word in ("take", "near"):
        block = found_block(bits, free, *parts)
        return NoRoom if block is None else (with_outs(deal, [], [(block, name)]), block)
    block = parts[0]
    if word == "give":
        about = [pair for pair in outs if pair[1] == name and addresses([block]) <= addresses([pair[0]])]
        if not about:
            return NotTheirs
        rest = greatest_blocks(bits, addresses([about[0][0]]) - addresses([block]))
        return (with_outs(deal, about, [(other, name) for other in rest]), rest)
    if word == "keep":
        if not addresses([block]) <= free_addresses(deal, None):
            return NoRoom
        return ((bits, outs, tuple(sorted(kept + ((block, name),)))), None)
    if (block, name) not in (kept if word == "loose" else outs):
        return NotTheirs
    if word == "loose":
        return ((bits, outs, tuple(pair for pair in kept if pair != (block, name))), None)
    if word == "move":
        if not addresses([parts[1]]) <= free:
            return NoRoom
        return (with_outs(deal, [(block, name)], [(parts[1], name)]), None)
    size = 2 ** (block[1] + 1)
    joined = (block[0] // size * size, block[1] + 1)
    if block[1] == bits or not addresses([joined]) - addresses([block]) <= free:
        return NoRoom
    return (with_outs(deal, [(block, name)], [(joined, name)]), joined)


def found_block(bits, free, height, address=None):
    """The block of a height that is taken out of what is free, near an address if one is told, or None."""
    if address is None:
        great = [block for block in greatest_blocks(bits, free) if block[1] >= height]
        least = min((tall for begin, tall in great), default=None)
        return next(((begin, height) for begin, tall in great if tall == least), None)
    inside = [block for block in all_blocks(bits) if block[1] == height and addresses([block]) <= free]
    return min(inside, default=None,
               key=lambda block: (min(abs(address - own) for own in addresses([block])), block[0]))


def with_outs(deal, gone, come):
    """The deal with some pairs out no more and some more out."""
    return (deal[0], tuple(sorted((set(deal[1]) - set(gone)) | set(come))), deal[2])


def told_by(deal, deed):
    """What done tells, or the class that refuses."""
    try:
        return done(deal, deed)
    except DealError as refusal:
        return type(refusal)


class EachDeed(unittest.TestCase):
    def each_is_right(self, deal, deeds):
        for deed in deeds:
            told = told_by(deal, deed)
            self.assertEqual(told, as_promised(deal, deed), (deal, deed))
            if isinstance(told, tuple):
                self.assertIs(is_deal(told[0]), True)
                self.assertTrue(is_told(told))

    def test_every_deed_of_every_deal_of_one_bit(self):
        deeds = list(every_deed(1))
        for deal in all_deals(1, ("a", "b")):
            self.each_is_right(deal, deeds)

    def test_every_deed_of_deals_of_two_bits(self):
        deeds = list(every_deed(2))
        for deal in all_deals(2, ("a", "b"))[::37]:
            self.each_is_right(deal, deeds)

    def test_deeds_of_three_to_five_bits(self):
        source = chance(60)
        for bits in (3, 4, 5):
            deeds = list(every_deed(bits))
            for many in (1, 3, 6, 12):
                for heights in (None, [0], [0, 1]):
                    deal = some_deal(source, bits, many, heights=heights)
                    self.each_is_right(deal, source.sample(deeds, 120))
                    # Those of what is out and kept, which chance would seldom find.
                    close = [deed for deed in deeds if deed[0] not in ("take", "near")
                             and (deed[2], deed[1]) in deal[1] + deal[2]]
                    self.each_is_right(deal, source.sample(close, min(40, len(close))))


class LongRows(unittest.TestCase):
    def some_deed(self, source, deal):
        """A deed that is often done: of what is out, kept or free."""
        bits, outs, kept = deal
        word, name = source.choice(["take", "near", "give", "grow", "keep", "loose", "move"]), source.choice(NAMES)
        if word in ("take", "near"):
            height = source.randrange(bits + 1) if source.random() < 0.3 else source.randrange(min(bits, 3) + 1)
            points = [block[0] for block, theirs in outs + kept]
            return (word, name, height) + ((near_points(source, bits, points),) if word == "near" else ())
        shares = kept if word == "loose" else outs
        block = some_block(source, bits)
        if word == "keep":
            spots = free_for(deal, None)
            block = self.within(source, source.choice(spots)) if spots else block
        elif shares and source.random() < 0.9:
            block, name = source.choice(shares)
        if word == "give" and source.random() < 0.5:
            block = self.within(source, block)
        if word == "move":
            spots = [spot for spot in free_for(deal, name) if spot[1] >= block[1]]
            begin = source.choice(spots)[0] if spots else 0
            return (word, name, block, (begin >> block[1] << block[1], block[1]))
        return (word, name, block)

    def within(self, source, block):
        """A block that another one holds."""
        begin, height = some_block(source, block[1]) if block[1] else (0, 0)
        return (block[0] + begin, height)

    def look_through(self, deal):
        """Each address is in just one of what is out, kept and not out, and free."""
        bits, outs, kept = deal
        self.assertIs(is_deal(deal), True)
        patches = [out_to(deal, name) for name in NAMES]
        out = fewest([block for patch in patches for block in patch])
        held = without(fewest([block for block, name in kept]), out)
        free = free_for(deal, None)
        counts = [count_of(patch) for patch in patches] + [count_of(held), count_of(free)]
        self.assertEqual(sum(counts), 2 ** bits)
        self.assertEqual(fewest(out + held + free), ((0, bits),))
        for name in NAMES:
            mine = [block for block, theirs in kept if theirs == name]
            self.assertEqual(free_for(deal, name), fewest(free + without(fewest(mine), out)))

    def test_deeds_one_by_one(self):
        source = chance(61)
        words = {}
        for bits in list(range(1, 65)) + [64] * 5:
            deal = (bits, (), ())
            for step in range(60):
                deed = self.some_deed(source, deal)
                told = told_by(deal, deed)
                words[deed[0], isinstance(told, tuple)] = words.get((deed[0], isinstance(told, tuple)), 0) + 1
                if isinstance(told, tuple):
                    self.behind_is_right(deal, deed, told)
                    self.assertTrue(is_told(told))
                    deal = told[0]
                else:
                    self.refused_rightly(deal, deed, told)
                if step % 15 == 0:
                    self.look_through(deal)
        for word in ("take", "near", "give", "grow", "keep", "loose", "move"):
            self.assertGreater(words[word, True], 100, word)
            self.assertGreater(words[word, False], 10, word)

    def behind_is_right(self, deal, deed, told):
        """What is out to the name, and kept, is what it was but for what the deed names."""
        (bits, outs, kept), what = told
        word, name = deed[:2]
        self.assertEqual(bits, deal[0])
        mine, behind = out_to(deal, name), out_to((bits, outs, kept), name)
        strangers = [pair for pair in deal[1] if pair[1] != name]
        self.assertEqual([pair for pair in outs if pair[1] != name], strangers)
        if word in ("keep", "loose"):
            self.assertIsNone(what)
            self.assertEqual(outs, deal[1])
            self.assertEqual(set(kept) ^ set(deal[2]), {(deed[2], name)})
            return
        self.assertEqual(kept, deal[2])
        if word == "give":
            self.assertEqual(behind, without(mine, (deed[2],)))
            self.assertEqual({block for block, theirs in outs if theirs == name}
                             - {block for block, theirs in deal[1] if theirs == name}, set(what) - {deed[2]})
        else:
            come = deed[3] if word == "move" else what
            away = {"move": (deed[2],), "grow": (deed[2],)}.get(word, ())
            self.assertIn((come, name), outs)
            self.assertEqual(behind, fewest(without(mine, away) + (come,)))
            self.assertEqual(both(without((come,), away), rest_of(bits, free_for(deal, name))), ())
            self.assertEqual(len(outs), len(deal[1]) + 1 - len(away))
        if word in ("take", "near"):
            self.assertEqual(what, self.best_of(free_for(deal, name), *deed[2:]))
            self.assertEqual(done(told[0], ("give", name, what)), (deal, ()))

    def best_of(self, free, height, address=None):
        """The block that take or near tells, of the first and the last of each free block and the address's own."""
        great = [block for block in free if block[1] >= height]
        if address is None:
            return (min(great, key=lambda block: (block[1], block[0]))[0], height)
        size, own = 2 ** height, address // 2 ** height * 2 ** height
        begins = [begin for low, tall in great for begin in (low, low + 2 ** tall - size)]
        begins += [own for low, tall in great if low <= own < low + 2 ** tall]
        far = {begin: max(begin - address, address - (begin + size - 1), 0) for begin in begins}
        return (min(begins, key=lambda begin: (far[begin], begin)), height)

    def refused_rightly(self, deal, deed, refusal):
        """A refusal has its reason."""
        word, name = deed[:2]
        great = [block for block in free_for(deal, name) if word in ("take", "near") and block[1] >= deed[2]]
        self.assertEqual(great, [])
        if word in ("take", "near"):
            self.assertIs(refusal, NoRoom)
        elif word == "keep":
            self.assertIs(refusal, NoRoom)
            self.assertNotEqual(without((deed[2],), free_for(deal, None)), ())
        elif word == "loose":
            self.assertIs(refusal, NotTheirs)
            self.assertNotIn((deed[2], name), deal[2])
        elif word == "give":
            self.assertIs(refusal, NotTheirs)
            begin, height = deed[2]
            self.assertFalse(any(theirs == name and low <= begin and begin + 2 ** height <= low + 2 ** tall
                                 for (low, tall), theirs in deal[1]))
        else:
            self.assertIs(refusal, NoRoom if (deed[2], name) in deal[1] else NotTheirs)

    def test_all_given_back_is_as_nothing_done(self):
        source = chance(62)
        for bits in (1, 2, 5, 16, 33, 64):
            deal = (bits, (), ())
            for _ in range(40):
                told = told_by(deal, self.some_deed(source, deal))
                deal = told[0] if isinstance(told, tuple) else deal
            for block, name in deal[1]:
                deal = done(deal, ("give", name, block))[0]
            for block, name in deal[2]:
                deal = done(deal, ("loose", name, block))[0]
            self.assertEqual(deal, (bits, (), ()))

    def test_what_is_told_hangs_on_the_deal_alone(self):
        # The same outs, come about in each order, are one deal and tell the same.
        for order in itertools.permutations(range(4)):
            deal = (4, (), ())
            for place in order:
                deal = done(deal, ("near", "a", 1, 4 * place))[0]
            self.assertEqual(deal, (4, tuple(((4 * place, 1), "a") for place in range(4)), ()))
            self.assertEqual(done(deal, ("take", "b", 0))[1], (2, 0))
            self.assertEqual(holder(deal, 15), ("free", None, (14, 1)))


class WhatWasTold(unittest.TestCase):
    def test_two_hundred_blocks_and_more(self):
        source = chance(63)
        outs = tuple(((source.randrange(2 ** 62) << 2, 2), source.choice(NAMES)) for _ in range(200))
        deal = (64, tuple(sorted(outs)), ())
        self.assertIs(is_deal(deal), True)
        for block, name in outs[:50]:
            deal = done(deal, ("give", name, (block[0] + 1, 0)))[0]
        self.assertEqual(len(deal[1]), 250)
        deal = done((64, (((0, 64), "a"),), ()), ("give", "a", (2 ** 40, 0)))[0]
        for block, name in deal[1][:30]:
            deal = done(deal, ("give", name, (block[0], 0)))[0]
        self.assertGreater(len(deal[1]), 400)
        self.assertIs(is_deal(deal), True)
        self.assertEqual(done(deal, ("take", "b", 0))[1], (free_for(deal, "b")[0][0], 0))


if __name__ == "__main__":
    unittest.main()
