"""Tests of blockdeal.refusals: promises [11], [3] (c) and [2]."""

import copy
import itertools
import unittest
from unittest.mock import ANY

from blockdeal.dealing import done
from blockdeal.deals import free_for
from blockdeal.errors import NoRoom
from blockdeal.refusals import had, shows_none
from tests.helper import (
    addresses, all_blocks, all_deals, all_patches, chance, free_addresses, is_told, nested, some_block, some_deal,
    spoilt_blocks, strange_things,
)

TOP = 2 ** 64
WORDS = ("out", "kept", "free")
NAMES = ("a", "b", "c")


def is_so(deal, name, height, paper):
    """Whether rising pairs (block, word), the blocks apart, are a paper, word by word as promised."""
    bits, outs, kept = deal
    if addresses([block for block, word in paper]) != set(range(2 ** bits)):
        return False
    for block, word in paper:
        own = addresses([block])
        if word == "out" and not any(own <= addresses([other]) for other, theirs in outs):
            return False
        if word == "kept" and not any(own <= addresses([other]) and theirs != name for other, theirs in kept):
            return False
        if word == "free":
            beside = [other for other, told in paper if told == "free" and other != block and other[1] == block[1]
                      and other[0] >> block[1] + 1 == block[0] >> block[1] + 1]
            if block[1] >= height or beside:
                return False
    return True


def can_be_had(deal, name, height):
    """Whether a block of a height is wholly free for a name, in a narrow row."""
    free = free_addresses(deal, name)
    return any(addresses([block]) <= free for block in all_blocks(deal[0]) if block[1] == height)


class Had(unittest.TestCase):
    def told_right(self, deal, name, height):
        """What take would tell, or a paper that is taken; told is which."""
        told = had(deal, name, height)
        self.assertTrue(is_told(told))
        self.assertEqual(len(told), 2)
        self.assertEqual(had(deal, name, height), told)
        try:
            self.assertEqual(told, ("block", done(deal, ("take", name, height))[1]))
        except NoRoom:
            self.assertEqual(told[0], "none")
            self.assertIs(shows_none(deal, name, height, told[1]), True)
        return told[0]

    def test_written(self):
        deal = (3, (((0, 1), "a"), ((6, 1), "b")), (((2, 1), "a"),))
        self.assertEqual(had(deal, "a", 1), ("block", (2, 1)))
        self.assertEqual(had(deal, "b", 1), ("block", (4, 1)))
        self.assertEqual(had(deal, "c", 0), ("block", (4, 0)))
        for name in NAMES:
            self.assertEqual(had(deal, name, 2)[0], "none")
            self.assertEqual(had(deal, name, 3)[0], "none")

    def test_nothing_out_and_all_out(self):
        for bits in range(1, 65):
            for height in (0, bits // 2, bits):
                self.assertEqual(had((bits, (), ()), "a", height), ("block", (0, height)))
                self.assertEqual(self.told_right((bits, (((0, bits), "a"),), ()), "a", height), "none")
                self.assertEqual(self.told_right((bits, (), (((0, bits), "a"),)), "b", height), "none")
                self.assertEqual(had((bits, (), (((0, bits), "a"),)), "a", height), ("block", (0, height)))

    def test_every_deal_of_small_rows(self):
        for bits, step in [(1, 1), (2, 3)]:
            for deal in all_deals(bits, ("a", "b"))[::step]:
                for name in NAMES:
                    for height in range(bits + 1):
                        wanted = "block" if can_be_had(deal, name, height) else "none"
                        self.assertEqual(self.told_right(deal, name, height), wanted)

    def test_deals_of_every_width(self):
        source = chance(70)
        found = {"block": 0, "none": 0}
        for bits in range(1, 65):
            for many in (1, 3, 10, 40):
                deal = some_deal(source, bits, many)
                for name in NAMES:
                    for height in {0, source.randrange(bits + 1), max(bits - 2, 0), bits}:
                        great = any(tall >= height for begin, tall in free_for(deal, name))
                        told = self.told_right(deal, name, height)
                        self.assertEqual(told, "block" if great else "none")
                        found[told] += 1
        self.assertGreater(min(found.values()), 500)

    def test_two_hundred_blocks_and_more(self):
        source = chance(71)
        outs = tuple(sorted(((source.randrange(2 ** 62) << 2, 2), source.choice(NAMES)) for _ in range(200)))
        deal = (64, outs, ())
        for block, name in outs[:60]:
            deal = done(deal, ("give", name, (block[0] + 1, 0)))[0]
        for height in (0, 40, 57, 60, 64):
            self.told_right(deal, "a", height)
        self.assertEqual(had(deal, "a", 63)[0], "none")
        self.assertGreater(len(had(deal, "a", 63)[1]), 2000)

    def test_kept_blocks_beside_one_another(self):
        # Kept for two names, or in two blocks for one: no single block of kept holds both.
        for names in [("b", "c"), ("b", "b")]:
            deal = (2, (), (((0, 0), names[0]), ((1, 0), names[1]), ((2, 1), "b")))
            self.assertEqual(self.told_right(deal, "a", 0), "none")
        deal = (2, (((0, 0), "b"),), (((0, 2), "b"),))
        self.assertEqual(self.told_right(deal, "a", 0), "none")


class ShowsNone(unittest.TestCase):
    deal = (3, (((0, 1), "a"), ((6, 1), "b")), (((2, 1), "c"),))
    rows = (((0, 1), "out"), ((2, 1), "kept"), ((4, 1), "free"), ((6, 1), "out"))

    def asked(self, paper, height=2, name="a", deal=None):
        return shows_none(deal or self.deal, name, height, paper)

    def test_right_ones(self):
        self.assertIs(self.asked(self.rows), True)
        self.assertIs(self.asked(self.rows, 3), True)
        self.assertIs(self.asked(self.rows, name="b"), True)
        # Parts of what is out and of what is kept.
        self.assertIs(self.asked((((0, 0), "out"), ((1, 0), "out")) + self.rows[1:]), True)
        self.assertIs(self.asked(self.rows[:1] + (((2, 0), "kept"), ((3, 0), "kept")) + self.rows[2:]), True)
        # What is out or kept may be called free where it is small enough.
        self.assertIs(self.asked((((0, 0), "out"), ((1, 0), "free")) + self.rows[1:]), True)
        self.assertIs(self.asked(self.rows[:3] + (((6, 0), "out"), ((7, 0), "free"))), True)

    def test_what_is_kept_for_the_name_itself(self):
        self.assertIs(self.asked(self.rows, name="c"), False)
        self.assertIs(self.asked(self.rows[:1] + (((2, 1), "free"),) + self.rows[2:], name="c"), True)

    def test_out_and_kept_exchanged(self):
        for place in range(4):
            block, told = self.rows[place]
            for word in WORDS:
                paper = self.rows[:place] + ((block, word),) + self.rows[place + 1:]
                right = word == told or (word == "free" and place in (0, 1))
                # (6, 1) called free stands beside (4, 1), its other half.
                self.assertIs(self.asked(paper), right, (block, word))

    def test_kept_and_out_of_one_name(self):
        deal = (2, (((0, 1), "b"),), (((0, 2), "b"),))
        for rows in [(((0, 1), "out"), ((2, 1), "kept")), (((0, 1), "kept"), ((2, 1), "kept")), (((0, 2), "kept"),)]:
            self.assertIs(self.asked(rows, 0, "a", deal), True, rows)
            self.assertIs(self.asked(rows, 0, "b", deal), False, rows)
        self.assertIs(self.asked((((0, 2), "out"),), 0, "a", deal), False)
        self.assertIs(self.asked((((0, 1), "out"), ((2, 1), "free")), 2, "b", deal), True)
        self.assertIs(self.asked((((0, 1), "out"), ((2, 1), "free")), 1, "b", deal), False)

    def test_free_ones_too_great(self):
        self.assertIs(self.asked(self.rows, 1), False)
        self.assertIs(self.asked(self.rows, 0), False)
        for bits in range(1, 65):
            whole = (((0, bits), "free"),)
            for height in range(bits + 1):
                self.assertIs(shows_none((bits, (), ()), "a", height, whole), False)

    def test_free_ones_beside_one_another(self):
        halves = (((0, 1), "out"), ((2, 1), "kept"), ((4, 0), "free"), ((5, 0), "free"), ((6, 1), "out"))
        self.assertIs(self.asked(halves), False)
        for bits in range(1, 65):
            low, high = (0, bits - 1), (2 ** (bits - 1), bits - 1)
            self.assertIs(shows_none((bits, (), ()), "a", bits, ((low, "free"), (high, "free"))), False)
            self.assertIs(shows_none((bits, ((high, "a"),), ()), "a", bits, ((low, "free"), (high, "free"))), False)
            self.assertIs(shows_none((bits, ((high, "a"),), ()), "a", bits, ((low, "free"), (high, "out"))), True)
        # Beside one another but no halves of one block.
        deal = (2, (((0, 0), "a"), ((3, 0), "a")), ())
        paper = (((0, 0), "out"), ((1, 0), "free"), ((2, 0), "free"), ((3, 0), "out"))
        self.assertIs(self.asked(paper, 1, "a", deal), True)
        self.assertIs(self.asked(paper, 0, "a", deal), False)

    def test_not_the_whole_row(self):
        for place in range(4):
            self.assertIs(self.asked(self.rows[:place] + self.rows[place + 1:]), False, place)
        self.assertIs(self.asked(()), False)
        self.assertIs(shows_none((64, (((0, 64), "a"),), ()), "a", 0, ()), False)
        self.assertIs(shows_none((64, (((0, 64), "a"),), ()), "a", 0, (((0, 63), "out"),)), False)
        self.assertIs(shows_none((64, (((0, 64), "a"),), ()), "a", 0, (((0, 63), "out"), ((2 ** 63, 63), "out"))), True)

    def test_out_of_order_and_over_one_another(self):
        for order in itertools.permutations(self.rows):
            self.assertIs(self.asked(order), order == self.rows)
        for place in range(4):
            self.assertIs(self.asked(self.rows[:place + 1] + self.rows[place:]), False)
        self.assertIs(self.asked((((0, 0), "out"),) + self.rows), False)
        self.assertIs(self.asked(self.rows[:1] + (((1, 0), "out"),) + self.rows[1:]), False)
        # As many addresses as the row has, but one twice and one not at all.
        self.assertIs(self.asked((((0, 1), "out"), ((0, 1), "out")) + self.rows[2:]), False)
        self.assertIs(self.asked((((0, 1), "out"), ((1, 0), "out"), ((2, 0), "kept")) + self.rows[2:]), False)

    def test_of_another_row(self):
        self.assertIs(self.asked(self.rows + (((8, 3), "out"),)), False)
        self.assertIs(self.asked((((0, 4), "out"),)), False)
        self.assertIs(self.asked(self.rows[:3] + (((8, 1), "out"),)), False)
        self.assertIs(self.asked((((-2, 1), "out"),) + self.rows[1:]), False)


class Anything(unittest.TestCase):
    deal, rows = ShowsNone.deal, ShowsNone.rows

    def test_no_paper_at_all(self):
        full = (1, (((0, 1), "a"),), ())
        for place, thing in enumerate(strange_things() + spoilt_blocks()):
            for height in (0, 1):
                self.assertIs(shows_none(self.deal, "a", height + 1, thing), False, place)
                self.assertIs(shows_none(full, "a", height, thing), False, place)

    def test_a_spoilt_row_among_right_ones(self):
        for place, thing in enumerate(strange_things() + spoilt_blocks()):
            self.assertIs(shows_none(self.deal, "a", 2, self.rows[:3] + (thing,)), False, place)
            self.assertIs(shows_none(self.deal, "a", 2, self.rows + (thing,)), False, place)
            self.assertIs(shows_none(self.deal, "a", 2, (thing,) + self.rows), False, place)
            self.assertIs(shows_none(self.deal, "a", 2, self.rows[:3] + ((thing, "out"),)), False, place)
            self.assertIs(shows_none(self.deal, "a", 2, self.rows[:3] + (((6, 1), thing),)), False, place)
            self.assertIs(shows_none(self.deal, "a", 2, self.rows + ((thing, "out"),)), False, place)

    def test_words_that_are_none(self):
        # ANY is an object that is equal to everything.
        for word in ["", "Out", "OUT", "out ", "ou", "outs", "t", "keep", "freed", "a", b"out", None, 0, True, ("out",),
                     ["out"], ANY]:
            for place in range(4):
                paper = self.rows[:place] + ((self.rows[place][0], word),) + self.rows[place + 1:]
                self.assertIs(shows_none(self.deal, "a", 2, paper), False, word)

    def test_lists_and_longer_and_shorter_rows(self):
        last = self.rows[3]
        for row in [list(last), last + (None,), last[:1], last[::-1], ([6, 1], "out"), (6, 1, "out"), (last,), ()]:
            self.assertIs(shows_none(self.deal, "a", 2, self.rows[:3] + (row,)), False, row)
        self.assertIs(shows_none(self.deal, "a", 2, list(self.rows)), False)
        self.assertIs(shows_none(self.deal, "a", 2, (self.rows,)), False)
        self.assertIs(shows_none(self.deal, "a", 2, nested(57, self.rows)), False)

    def test_truths(self):
        full = (1, (((0, 1), "a"),), ())
        self.assertIs(shows_none(full, "a", 0, (((0, 0), "out"), ((1, 0), "out"))), True)
        for rows in [(((False, 0), "out"), ((1, 0), "out")), (((0, False), "out"), ((1, 0), "out")),
                     (((0, 0), "out"), ((True, 0), "out")), (((0, True), "out"),)]:
            self.assertIs(shows_none(full, "a", 0, rows), False)

    def test_nothing_is_changed(self):
        things = [self.rows, list(self.rows), [list(row) for row in self.rows], (self.rows, [])]
        ahead = copy.deepcopy(things)
        for thing in things:
            self.assertIs(shows_none(self.deal, "a", 2, thing), shows_none(self.deal, "a", 2, thing))
        self.assertEqual(things, ahead)


class WordByWord(unittest.TestCase):
    def each_is_right(self, deal, papers):
        """How many of some papers are taken: just those that are so, and none where a block can be had."""
        taken = 0
        for name in NAMES:
            for height in range(deal[0] + 1):
                free = can_be_had(deal, name, height)
                for paper in papers:
                    right = is_so(deal, name, height, paper)
                    self.assertIs(shows_none(deal, name, height, paper), right, (deal, name, height, paper))
                    self.assertFalse(right and free)
                    taken += right
        return taken

    def test_every_paper_of_small_rows(self):
        taken = 0
        for bits, step in [(1, 1), (2, 331)]:
            papers = [tuple(zip(patch, words)) for patch in all_patches(bits)
                      for words in itertools.product(WORDS, repeat=len(patch))]
            for deal in all_deals(bits, ("a", "b"))[::step]:
                taken += self.each_is_right(deal, papers)
        self.assertGreater(taken, 500)

    def test_papers_made_otherwise(self):
        source = chance(72)
        taken = 0
        for bits in (3, 4, 5):
            for _ in range(25):
                deal = some_deal(source, bits, 8)
                papers = []
                for name in NAMES:
                    told = had(deal, name, bits)
                    if told[0] == "none":
                        papers += [told[1], self.parted(source, told[1]), self.reworded(source, told[1])]
                taken += self.each_is_right(deal, papers)
        self.assertGreater(taken, 500)

    def parted(self, source, paper):
        """A paper with a block parted into halves."""
        place = source.randrange(len(paper))
        (begin, height), word = paper[place]
        if height == 0:
            return paper
        rows = (((begin, height - 1), word), ((begin + 2 ** (height - 1), height - 1), word))
        return paper[:place] + rows + paper[place + 1:]

    def reworded(self, source, paper):
        """A paper with another word at a block."""
        place = source.randrange(len(paper))
        return paper[:place] + ((paper[place][0], source.choice(WORDS)),) + paper[place + 1:]

    def test_none_is_taken_where_one_is_free(self):
        # Of every width: papers that would do but for one block given back.
        source = chance(73)
        for bits in range(1, 65):
            deal = some_deal(source, bits, 20)
            for block, name in deal[1][:6]:
                height = block[1]
                behind = done(deal, ("give", name, block))[0]
                told = had(deal, name, height)
                if told[0] == "none":
                    self.assertIs(shows_none(deal, name, height, told[1]), True)
                    self.assertIs(shows_none(behind, name, height, told[1]), False)
                    free = tuple((one, "free" if one == block else word) for one, word in told[1])
                    self.assertIs(shows_none(behind, name, height, free), False)

    def test_made_by_parting_a_told_paper_in_every_width(self):
        source = chance(74)
        for bits in range(1, 65):
            deal = some_deal(source, bits, 20)
            told = had(deal, "a", bits)
            if told[0] == "block":
                continue
            paper = told[1]
            for place, (block, word) in enumerate(paper):
                if word == "free" or block[1] == 0:
                    continue
                begin, height = some_block(source, block[1])
                parts = sorted([(block[0] + begin, height), *self.others(block, (block[0] + begin, height))])
                parted = paper[:place] + tuple((part, word) for part in parts) + paper[place + 1:]
                self.assertIs(shows_none(deal, "a", bits, parted), True)
                self.assertIs(shows_none(deal, "a", bits, parted[:place] + parted[place + 1:]), False)
                break

    def others(self, block, part):
        """The blocks that with a part make up a block: the other halves, one by one outwards."""
        begin, height = part
        while height < block[1]:
            yield (begin ^ 2 ** height, height)
            begin, height = begin >> height + 1 << height + 1, height + 1


if __name__ == "__main__":
    unittest.main()
