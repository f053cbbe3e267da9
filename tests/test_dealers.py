"""Tests of blockdeal.dealers: promises [14], [3] (a), (e) and [2]."""

import unittest

from blockdeal.dealers import Dealer
from blockdeal.dealing import done
from blockdeal.deals import free_for, is_deal
from blockdeal.deeds import is_deed
from blockdeal.errors import DealError, NoDeed, NoRoom, NotTheirs
from tests.helper import (
    addresses, chance, free_addresses, greatest_blocks, is_told, no_names, some_block, spoilt_blocks, strange_things,
)

NAMES = ("a", "b", "c")
WIDTHS = (1, 2, 3, 4, 5, 8, 16, 31, 32, 33, 63, 64)


def some_deed(source, deal):
    """A deed of a deal's row, often such as can be done."""
    bits, outs, kept = deal
    name = source.choice(NAMES)
    word = source.choice(("take", "take", "near", "give", "grow", "keep", "loose", "move"))
    height = source.randrange(bits + 1) if source.random() < 0.5 else source.randrange(min(bits, 3) + 1)
    shares = kept if word == "loose" else outs
    block = some_block(source, bits)
    if shares and word != "keep" and source.random() < 0.8:
        block, name = source.choice(shares)
    if word == "take":
        return (word, name, height)
    if word == "near":
        return (word, name, height, source.randrange(2 ** bits))
    if word == "move":
        return (word, name, block, some_block(source, bits, [block[1]]))
    if word == "give" and block[1] > 0 and source.random() < 0.5:
        begin, tall = some_block(source, block[1])
        block = (block[0] + begin, tall)
    return (word, name, block)


def told_by(ask):
    """What is told, or the class that refuses."""
    try:
        return ask()
    except DealError as refusal:
        return type(refusal)


def all_told(dealer):
    """All that a dealer tells that hangs on what is out and kept alone."""
    bits = dealer.deal()[0]
    cans = [dealer.can(name, height) for name in ("a", "d") for height in sorted({0, 1, bits // 2, bits})]
    return (dealer.deal(), dealer.lists(), cans)


class AtFirst(unittest.TestCase):
    def test_nothing_is_out_or_kept(self):
        for bits in range(1, 65):
            dealer = Dealer(bits)
            self.assertEqual(dealer.deal(), (bits, (), ()))
            self.assertEqual(dealer.journal(), ())
            self.assertEqual(dealer.lists(), ((),) * bits + ((0,),))
            for height in range(bits + 1):
                self.assertIs(dealer.can("a", height), True)
            with self.assertRaises(NoDeed):
                dealer.back()


class ByHand(unittest.TestCase):
    def test_each_deed(self):
        dealer = Dealer(3)
        deeds = [
            (("take", "a", 0), (0, 0)), (("take", "b", 1), (2, 1)), (("near", "a", 0, 6), (6, 0)),
            (("keep", "c", (4, 1)), None), (("take", "c", 1), (4, 1)), (("give", "b", (3, 0)), ((2, 0),)),
            (("grow", "b", (2, 0)), (2, 1)), (("move", "a", (6, 0), (1, 0)), None), (("give", "c", (4, 1)), ()),
            (("loose", "c", (4, 1)), None),
        ]
        for deed, told in deeds:
            self.assertEqual(dealer.do(deed), told)
        self.assertEqual(dealer.deal(), (3, (((0, 0), "a"), ((1, 0), "a"), ((2, 1), "b")), ()))
        self.assertEqual(dealer.journal(), tuple(deed for deed, told in deeds))
        self.assertEqual(dealer.lists(), ((), (), (4,), ()))
        for deed, told in reversed(deeds):
            self.assertEqual(dealer.back(), deed)
        self.assertEqual((dealer.deal(), dealer.journal()), ((3, (), ()), ()))
        self.assertRaises(NoDeed, dealer.back)

    def test_refusals(self):
        dealer = Dealer(2)
        dealer.do(("take", "a", 1))
        dealer.do(("keep", "b", (2, 0)))
        ahead = (all_told(dealer), dealer.journal())
        for deed, refusal in [
            (("take", "a", 1), NoRoom), (("near", "c", 1, 3), NoRoom), (("give", "b", (0, 1)), NotTheirs),
            (("give", "a", (3, 0)), NotTheirs), (("grow", "a", (0, 0)), NotTheirs), (("grow", "a", (0, 1)), NoRoom),
            (("keep", "b", (3, 1)), NoDeed), (("keep", "c", (2, 0)), NoRoom), (("loose", "a", (2, 0)), NotTheirs),
            (("move", "a", (0, 1), (2, 1)), NoRoom), (("move", "b", (0, 1), (2, 1)), NotTheirs),
            (("take", "a", 3), NoDeed), (("take", "a", True), NoDeed), (["take", "a", 0], NoDeed), ((), NoDeed),
        ]:
            with self.assertRaises(DealError) as caught:
                dealer.do(deed)
            self.assertIs(type(caught.exception), refusal, deed)
            self.assertEqual((all_told(dealer), dealer.journal()), ahead)
        self.assertEqual(dealer.back(), ("keep", "b", (2, 0)))
        self.assertEqual(dealer.back(), ("take", "a", 1))

    def test_of_anything(self):
        dealer = Dealer(8)
        dealer.do(("take", "a", 3))
        ahead = (all_told(dealer), dealer.journal())
        for place, thing in enumerate(strange_things() + spoilt_blocks()):
            for deed in [thing, (thing,), (thing, "a", 0), ("take", thing, 0), ("take", "a", (thing,)),
                         ("give", "a", (thing,)), ("move", "a", (0, 3), (thing, 3))]:
                if not is_deed(8, deed):
                    self.assertRaises(NoDeed, dealer.do, deed)
                    self.assertEqual((all_told(dealer), dealer.journal()), ahead, place)
        for name in no_names():
            self.assertRaises(NoDeed, dealer.do, ("take", name, 0))

    def test_can(self):
        dealer = Dealer(3)
        dealer.do(("take", "a", 2))
        dealer.do(("keep", "b", (4, 1)))
        for name, most in [("a", 1), ("b", 2), ("c", 1)]:
            for height in range(4):
                self.assertIs(dealer.can(name, height), height <= most)
        # A height that is none can't be taken.
        self.assertIs(dealer.can("a", 4), False)
        self.assertIs(dealer.can("a", -1), False)

    def test_back_and_on_again(self):
        dealer = Dealer(4)
        for deed in [("take", "a", 1), ("take", "b", 2), ("take", "a", 0)]:
            dealer.do(deed)
        self.assertEqual(dealer.back(), ("take", "a", 0))
        self.assertEqual(dealer.back(), ("take", "b", 2))
        self.assertEqual(dealer.journal(), (("take", "a", 1),))
        self.assertEqual(dealer.do(("take", "c", 3)), (8, 3))
        self.assertEqual(dealer.journal(), (("take", "a", 1), ("take", "c", 3)))
        self.assertEqual(dealer.back(), ("take", "c", 3))
        self.assertEqual(dealer.back(), ("take", "a", 1))
        self.assertRaises(NoDeed, dealer.back)
        self.assertEqual(all_told(dealer), all_told(Dealer(4)))


class RowsOfDeeds(unittest.TestCase):
    def test_as_done_tells(self):
        source = chance(100)
        for bits in WIDTHS:
            dealer, deal, journal, deals = Dealer(bits), (bits, (), ()), [], []
            for _ in range(60):
                if source.random() < 0.2:
                    if not journal:
                        self.assertRaises(NoDeed, dealer.back)
                        continue
                    self.assertEqual(dealer.back(), journal.pop())
                    deal = deals.pop()
                else:
                    deed = some_deed(source, deal)
                    wanted = told_by(lambda: done(deal, deed))
                    told = told_by(lambda: dealer.do(deed))
                    if isinstance(wanted, tuple):
                        self.assertEqual(told, wanted[1])
                        self.assertTrue(is_told(told))
                        deals.append(deal)
                        journal.append(deed)
                        deal = wanted[0]
                    else:
                        self.assertIs(told, wanted)
                self.is_as(dealer, deal, journal)

    def is_as(self, dealer, deal, journal):
        """A dealer has a deal and a journal, and tells lists and what can be taken as its deal has them."""
        bits = deal[0]
        self.assertEqual(dealer.deal(), deal)
        self.assertIs(is_deal(dealer.deal()), True)
        self.assertEqual(dealer.journal(), tuple(journal))
        lists = dealer.lists()
        self.assertTrue(is_told((lists, dealer.deal(), dealer.journal())))
        self.assertEqual(len(lists), bits + 1)
        self.assertEqual(sorted((begin, height) for height, begins in enumerate(lists) for begin in begins),
                         list(free_for(deal, None)))
        self.assertTrue(all(begins == tuple(sorted(begins)) for begins in lists))
        for name in ("a", "d"):
            for height in {0, 1, bits // 2, bits}:
                refused = told_by(lambda: done(deal, ("take", name, height))) is NoRoom
                self.assertIs(dealer.can(name, height), not refused)

    def test_lists_address_by_address(self):
        source = chance(101)
        for bits in (1, 2, 3, 4, 5):
            dealer = Dealer(bits)
            for _ in range(30):
                told_by(lambda: dealer.do(some_deed(source, dealer.deal())))
                free = greatest_blocks(bits, free_addresses(dealer.deal(), None))
                self.assertEqual(dealer.lists(), tuple(
                    tuple(begin for begin, height in free if height == wanted) for wanted in range(bits + 1)))
                # Each address is in just one of what is out, what is kept and not out, and what is free.
                out = addresses([block for block, name in dealer.deal()[1]])
                kept = addresses([block for block, name in dealer.deal()[2]]) - out
                self.assertEqual(len(out) + len(kept) + len(addresses(free)), 2 ** bits)

    def test_two_dealers_beside_one_another(self):
        source = chance(102)
        for bits in (3, 8, 64):
            one, other, alone = Dealer(bits), Dealer(bits), Dealer(bits)
            for _ in range(40):
                deed = some_deed(source, one.deal())
                self.assertEqual(told_by(lambda: one.do(deed)), told_by(lambda: alone.do(deed)))
                if source.random() < 0.3:
                    self.assertEqual(told_by(one.back), told_by(alone.back))
                told_by(lambda: other.do(some_deed(source, other.deal())))
                if source.random() < 0.3:
                    told_by(other.back)
                self.assertEqual((all_told(one), one.journal()), (all_told(alone), alone.journal()))

    def test_what_was_told_stays(self):
        source = chance(103)
        dealer = Dealer(6)
        told = []
        for _ in range(60):
            told_by(lambda: dealer.do(some_deed(source, dealer.deal())))
            if source.random() < 0.2:
                told_by(dealer.back)
            things = (dealer.deal(), dealer.journal(), dealer.lists())
            self.assertEqual((dealer.deal(), dealer.journal(), dealer.lists()), things)
            told.append((things, repr(things)))
        for things, written in told:
            self.assertEqual(repr(things), written)


class AsIfItHadNeverBeen(unittest.TestCase):
    def test_deeds_that_undo_one_another(self):
        source = chance(104)
        counts = {}
        for bits in WIDTHS:
            dealer = Dealer(bits)
            for _ in range(80):
                ahead = all_told(dealer)
                way = source.choice(("taken", "near", "parted", "kept", "moved"))
                if self.there_and_back(source, dealer, way):
                    counts[way] = counts.get(way, 0) + 1
                self.assertEqual(all_told(dealer), ahead)
                if source.random() < 0.5:
                    told_by(lambda: dealer.do(some_deed(source, dealer.deal())))
        self.assertEqual(len(counts), 5)
        self.assertGreater(min(counts.values()), 10, counts)

    def there_and_back(self, source, dealer, way):
        """Some deeds behind which all is as it was; told is whether they could be done."""
        bits, outs, kept = dealer.deal()
        name = source.choice(NAMES)
        try:
            if way == "taken":
                block = dealer.do(("take", name, source.randrange(bits + 1)))
                self.given_back(source, dealer, name, block)
            elif way == "near":
                block = dealer.do(("near", name, source.randrange(bits + 1), source.randrange(2 ** bits)))
                self.given_back(source, dealer, name, block)
            elif way == "kept":
                block = some_block(source, bits)
                dealer.do(("keep", name, block))
                dealer.do(("loose", name, block))
            else:
                tall = [pair for pair in outs if pair[0][1] > 0 or way == "moved"]
                if not tall:
                    return False
                (begin, height), name = source.choice(tall)
                if way == "moved":
                    to = some_block(source, bits, [height])
                    dealer.do(("move", name, (begin, height), to))
                    dealer.do(("move", name, to, (begin, height)))
                else:
                    lower, upper = (begin, height - 1), (begin + 2 ** (height - 1), height - 1)
                    given, stays = source.choice([(lower, upper), (upper, lower)])
                    self.assertEqual(dealer.do(("give", name, given)), (stays,))
                    self.assertEqual(dealer.do(("grow", name, stays)), (begin, height))
        except NoRoom:
            return False
        return True

    def given_back(self, source, dealer, name, block):
        """A block given back, whole or one half behind the other."""
        begin, height = block
        if height == 0 or source.random() < 0.5:
            self.assertEqual(dealer.do(("give", name, block)), ())
        else:
            lower, upper = (begin, height - 1), (begin + 2 ** (height - 1), height - 1)
            self.assertEqual(dealer.do(("give", name, upper)), (lower,))
            self.assertEqual(dealer.do(("give", name, lower)), ())

    def test_two_ways_to_one_deal(self):
        one, other = Dealer(4), Dealer(4)
        for deed in [("take", "a", 1), ("take", "b", 1), ("keep", "c", (8, 3))]:
            one.do(deed)
        for deed in [("keep", "c", (8, 3)), ("take", "x", 1), ("take", "b", 1), ("take", "x", 2), ("give", "x", (4, 2)),
                     ("give", "x", (0, 1)), ("take", "a", 0), ("grow", "a", (0, 0)), ("give", "b", (3, 0)),
                     ("grow", "b", (2, 0))]:
            other.do(deed)
        self.assertEqual(all_told(one), all_told(other))
        for deed in [("near", "b", 0, 9), ("take", "a", 1), ("take", "c", 2), ("loose", "c", (8, 3))]:
            self.assertEqual(one.do(deed), other.do(deed))
            self.assertEqual(all_told(one), all_told(other))


if __name__ == "__main__":
    unittest.main()
