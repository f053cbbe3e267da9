"""Tests of blockdeal.rulepapers: promises [8], [3] (b) and [2]."""

import copy
import unittest

from blockdeal.fewrules import many_rules
from blockdeal.patches import fewest, rest_of
from blockdeal.rulepapers import rules_paper, shows_many
from tests.helper import (
    addresses, all_blocks, all_patches, chance, is_plain, nested, some_block, some_patch, spoilt_blocks,
    strange_things,
)

TOP = 2 ** 64
WIDTHS = (1, 2, 3, 8, 31, 32, 33, 63, 64)


def shown(bits, patch, many, paper):
    """Whether a paper of the right form shows so many, word by word as promised, over a narrow row."""
    there = addresses(patch)
    rows = {block: (a, b) for block, a, b in paper}
    if len(rows) < len(paper) or (0, bits) not in rows or rows[0, bits][0] < many:
        return False
    for (begin, height), (most_a, most_b) in rows.items():
        own = addresses([(begin, height)])
        if not own & there:
            right = most_a <= 0 and most_b <= 1
        elif own <= there:
            right = most_a <= 1 and most_b <= 0
        else:
            lower, upper = (begin, height - 1), (begin + 2 ** (height - 1), height - 1)
            if lower not in rows or upper not in rows:
                return False
            (a, b), (c, d) = rows[lower], rows[upper]
            right = most_a <= min(a + c, b + d + 1) and most_b <= min(b + d, a + c + 1)
        if not right:
            return False
    return True


def some_papers(source, bits, patch, paper):
    """A told paper and what may be made of it: other orders, rows more and fewer, other numbers."""
    rows = list(paper)
    yield tuple(rows)
    source.shuffle(rows)
    yield tuple(rows)
    for _ in range(6):
        place = source.randrange(len(rows))
        block, a, b = rows[place]
        yield tuple(rows[:place] + rows[place + 1:])
        for step in (-1, 1):
            yield tuple(rows[:place] + [(block, max(a + step, 0), b)] + rows[place + 1:])
            yield tuple(rows[:place] + [(block, a, max(b + step, 0))] + rows[place + 1:])
        yield tuple(rows + [(some_block(source, bits), source.randrange(2), source.randrange(2))])
        yield tuple(rows + [rows[place]])
    yield tuple((block, max(a - source.randrange(2), 0), max(b - source.randrange(2), 0)) for block, a, b in rows)


class Told(unittest.TestCase):
    def shows_just(self, bits, patch, paper, many):
        for lesser in {0, 1, many // 2, many - 1, many} - {-1}:
            if lesser <= many:
                self.assertIs(shows_many(bits, patch, lesser, paper), True)
        for more in (many + 1, many + 2, 2 * many + 5, TOP):
            self.assertIs(shows_many(bits, patch, more, paper), False)

    def test_every_patch_of_small_rows(self):
        for bits in (1, 2, 3):
            for patch in all_patches(bits):
                self.shows_just(bits, patch, rules_paper(bits, patch), many_rules(bits, patch))

    def test_patches_of_every_width(self):
        source = chance(40)
        for bits in range(1, 65):
            for many in (0, 1, 5, 25):
                patch = some_patch(source, bits, many)
                self.shows_just(bits, patch, rules_paper(bits, patch), many_rules(bits, patch))
                rest = rest_of(bits, patch)
                self.shows_just(bits, rest, rules_paper(bits, rest), many_rules(bits, rest))

    def test_the_whole_row_and_nothing(self):
        for bits in range(1, 65):
            self.shows_just(bits, (), rules_paper(bits, ()), 0)
            self.shows_just(bits, ((0, bits),), rules_paper(bits, ((0, bits),)), 1)
            self.shows_just(bits, ((0, bits),), rules_paper(bits, ((0, bits - 1), (2 ** (bits - 1), bits - 1))), 1)

    def test_the_form_of_a_told_paper(self):
        source = chance(41)
        for bits in WIDTHS:
            paper = rules_paper(bits, some_patch(source, bits, 20))
            self.assertTrue(is_plain(paper))
            blocks = [block for block, a, b in paper]
            self.assertEqual(len(set(blocks)), len(blocks))
            self.assertIn((0, bits), blocks)

    def test_two_hundred_blocks_and_what_was_told_of_them(self):
        source = chance(42)
        patch = fewest([(source.randrange(TOP), 0) for _ in range(200)])
        for one in (patch, rest_of(64, patch)):
            paper = rules_paper(64, one)
            self.assertGreater(len(paper), 2000)
            self.shows_just(64, one, paper, many_rules(64, one))
            self.assertIs(shows_many(64, one, 1, paper + paper[:1]), False)
            self.assertIs(shows_many(64, one, 1, paper + paper), False)
            self.assertIs(shows_many(64, one, 1, paper[::-1]), True)


class WrittenPapers(unittest.TestCase):
    # Rows for the patch of the addresses 0 and 2 of the row of two bits, of which two rules are wanted.
    patch = ((0, 0), (2, 0))
    rows = (((0, 2), 2, 2), ((0, 1), 1, 1), ((2, 1), 1, 1),
            ((0, 0), 1, 0), ((1, 0), 0, 1), ((2, 0), 1, 0), ((3, 0), 0, 1))

    def asked(self, paper, many=2):
        return shows_many(2, self.patch, many, paper)

    def test_right_ones(self):
        self.assertIs(self.asked(self.rows), True)
        self.assertIs(self.asked(self.rows, 0), True)
        self.assertIs(self.asked(self.rows, 3), False)
        self.assertIs(self.asked(self.rows[::-1]), True)
        self.assertIs(self.asked(self.rows[3:] + self.rows[:3]), True)

    def test_each_row_left_out(self):
        for place in range(7):
            self.assertIs(self.asked(self.rows[:place] + self.rows[place + 1:], 0), False, place)
        self.assertIs(self.asked(()), False)
        self.assertIs(self.asked((), 0), False)

    def test_each_number_greater(self):
        for place, (block, a, b) in enumerate(self.rows):
            for wrong in [(block, a + 1, b), (block, a, b + 1), (block, a + 5, b), (block, a, TOP)]:
                self.assertIs(self.asked(self.rows[:place] + (wrong,) + self.rows[place + 1:], 0), False, wrong)

    def test_each_number_less(self):
        # In the row for the whole row b may be anything less, and a down to many; below, what hangs on it is wrong.
        less = ((0, 2), 1, 0)
        self.assertIs(self.asked((less,) + self.rows[1:], 1), True)
        self.assertIs(self.asked((less,) + self.rows[1:], 2), False)
        for place in range(1, 7):
            block, a, b = self.rows[place]
            paper = self.rows[:place] + ((block, 0, 0),) + self.rows[place + 1:]
            self.assertIs(self.asked(paper, 0), False, place)
        zeros = tuple((block, 0, 0) for block, a, b in self.rows)
        self.assertIs(self.asked(zeros, 0), True)
        self.assertIs(self.asked(zeros, 1), False)

    def test_a_block_twice(self):
        for row in self.rows:
            self.assertIs(self.asked(self.rows + (row,)), False)
            self.assertIs(self.asked(self.rows + ((row[0], 0, 0),)), False)
            self.assertIs(self.asked(((row[0], 0, 0),) + self.rows), False)

    def test_a_block_of_another_row(self):
        for row in [((4, 0), 0, 0), ((0, 3), 0, 0), ((4, 2), 0, 0), ((1, 1), 0, 0), ((0, -1), 0, 0), ((-1, 0), 0, 0)]:
            self.assertIs(self.asked(self.rows + (row,), 0), False, row)

    def test_exchanged_rows(self):
        for place, (block, a, b) in enumerate(self.rows[3:], 3):
            paper = self.rows[:place] + ((block, b, a),) + self.rows[place + 1:]
            self.assertIs(self.asked(paper, 0), False, block)

    def test_rows_more_than_are_needed(self):
        patch = ((0, 1),)
        rows = (((0, 2), 1, 1), ((0, 1), 1, 0), ((2, 1), 0, 1))
        self.assertIs(shows_many(2, patch, 1, rows), True)
        for row in [((0, 0), 1, 0), ((1, 0), 0, 0), ((2, 0), 0, 1), ((3, 0), 0, 0)]:
            self.assertIs(shows_many(2, patch, 1, rows + (row,)), True, row)
            self.assertIs(shows_many(2, patch, 1, (row,) + rows), True, row)
        for row in [((0, 0), 0, 1), ((0, 0), 2, 0), ((1, 0), 1, 1), ((2, 0), 1, 0), ((3, 0), 0, 2)]:
            self.assertIs(shows_many(2, patch, 1, rows + (row,)), False, row)

    def test_a_row_more_whose_halves_have_none(self):
        patch = ((0, 0),)
        rows = (((0, 3), 1, 1), ((0, 2), 1, 1), ((4, 2), 0, 1), ((0, 1), 1, 1), ((2, 1), 0, 1),
                ((0, 0), 1, 0), ((1, 0), 0, 1))
        self.assertIs(shows_many(3, patch, 1, rows), True)
        self.assertIs(shows_many(3, patch + ((4, 0),), 1, rows), False)
        self.assertIs(shows_many(3, ((1, 0),), 1, rows), False)

    def test_the_lesser_one_counts(self):
        patch = ((0, 0), (2, 1))
        rows = (((0, 2), 2, 1), ((0, 1), 1, 1), ((2, 1), 1, 0), ((0, 0), 1, 0), ((1, 0), 0, 1))
        self.assertIs(shows_many(2, patch, 2, rows), True)
        self.assertIs(shows_many(2, patch, 2, (((0, 2), 2, 2),) + rows[1:]), False)
        self.assertIs(shows_many(2, patch, 2, (((0, 2), 3, 1),) + rows[1:]), False)
        # One rule about the row and two against it are best: a + c is 4, b + d + 1 is 3.
        patch = ((0, 0), (2, 1), (4, 1), (6, 0))
        paper = rules_paper(3, patch)
        self.assertIs(shows_many(3, patch, 3, paper), True)
        for most in (4, 9):
            greater = tuple((block, most if block == (0, 3) else a, b) for block, a, b in paper)
            self.assertIs(shows_many(3, patch, most, greater), False)
            self.assertIs(shows_many(3, patch, 0, greater), False)

    def test_a_patch_that_is_not_fewest(self):
        paper = (((0, 2), 1, 0),)
        for patch in [((0, 2),), ((0, 1), (2, 1)), ((0, 0), (1, 0), (2, 1)), ((0, 0), (1, 0), (2, 0), (3, 0))]:
            self.assertIs(shows_many(2, patch, 1, paper), True)
            self.assertIs(shows_many(2, patch, 2, paper), False)


class Anything(unittest.TestCase):
    def test_no_paper_at_all(self):
        for place, thing in enumerate(strange_things() + spoilt_blocks()):
            for many in (0, 1):
                self.assertIs(shows_many(3, ((0, 0),), many, thing), False, place)
                self.assertIs(shows_many(3, (), many, thing), False, place)

    def test_a_spoilt_row_among_right_ones(self):
        patch = ((0, 0), (2, 0))
        rows = WrittenPapers.rows
        for place, thing in enumerate(strange_things() + spoilt_blocks()):
            self.assertIs(shows_many(2, patch, 0, rows + (thing,)), False, place)
            self.assertIs(shows_many(2, patch, 0, (thing,) + rows), False, place)
            self.assertIs(shows_many(2, patch, 0, rows[:6] + ((thing, 0, 1),)), False, place)

    def test_numbers_that_are_none(self):
        for place, thing in enumerate([True, False, None, "0", "", b"", (), (0,), [0], {}, -1, -TOP, nested(58)]):
            for row in [((0, 2), thing, 0), ((0, 2), 0, thing), ((0, 2), thing, thing)]:
                self.assertIs(shows_many(2, (), 0, (row,)), False, place)
                self.assertIs(shows_many(2, ((0, 2),), 0, (row,)), False, place)
        self.assertIs(shows_many(2, (), 0, (((0, 2), 0, 0),)), True)

    def test_numbers_below_zero_at_a_row_more(self):
        self.assertIs(shows_many(2, (), 0, (((0, 2), 0, 1), ((0, 0), 0, 1))), True)
        self.assertIs(shows_many(2, (), 0, (((0, 2), 0, 1), ((0, 0), -1, 1))), False)
        self.assertIs(shows_many(2, (), 0, (((0, 2), 0, 1), ((0, 0), 0, -1))), False)

    def test_longer_and_shorter_rows_and_lists(self):
        for row in [(), ((0, 2),), ((0, 2), 0), ((0, 2), 0, 1, 0), (0, 2, 0), (((0, 2),), 0, 1), [(0, 2), 0, 1],
                    ([0, 2], 0, 1), (0, (0, 2), 1)]:
            self.assertIs(shows_many(2, (), 0, (row,)), False, row)
        self.assertIs(shows_many(2, (), 0, [((0, 2), 0, 1)]), False)
        self.assertIs(shows_many(2, (), 0, ((0, 2), 0, 1)), False)
        self.assertIs(shows_many(2, (), 0, (((0, 2), 0, 1),)), True)


class WordByWord(unittest.TestCase):
    def test_papers_of_small_rows(self):
        source = chance(43)
        taken = refused = 0
        for bits in (1, 2, 3, 4, 5):
            for _ in range(25):
                patch = some_patch(source, bits, source.choice([1, 3, 10]))
                many = many_rules(bits, patch)
                for paper in some_papers(source, bits, patch, rules_paper(bits, patch)):
                    for least in (0, max(many - 1, 0), many, many + 1):
                        right = shown(bits, patch, least, paper)
                        self.assertIs(shows_many(bits, patch, least, paper), right)
                        self.assertFalse(right and least > many)
                        taken += right
                        refused += not right
        self.assertGreater(taken, 500)
        self.assertGreater(refused, 500)

    def test_papers_with_a_row_for_each_block(self):
        # Right numbers made the other way round: from single addresses up, for every block of the row.
        for bits in (1, 2, 3):
            for patch in all_patches(bits):
                there, pairs = addresses(patch), {}
                for begin, height in sorted(all_blocks(bits), key=lambda block: block[1]):
                    if height == 0:
                        pairs[begin, 0] = (1, 0) if begin in there else (0, 1)
                        continue
                    (a, b), (c, d) = pairs[begin, height - 1], pairs[begin + 2 ** (height - 1), height - 1]
                    pairs[begin, height] = (min(a + c, b + d + 1), min(b + d, a + c + 1))
                paper = tuple((block, a, b) for block, (a, b) in pairs.items())
                many = many_rules(bits, patch)
                self.assertEqual(pairs[0, bits][0], many)
                self.assertIs(shows_many(bits, patch, many, paper), True)
                self.assertIs(shows_many(bits, patch, many + 1, paper), False)


class HandedIn(unittest.TestCase):
    def test_nothing_is_changed_and_the_same_is_told_again(self):
        patch = ((0, 0), (2, 1), (2 ** 63, 3))
        paper = rules_paper(64, patch)
        self.assertEqual(rules_paper(64, patch), paper)
        things = [paper, list(paper), [list(row) for row in paper], (paper, [paper])]
        ahead = copy.deepcopy(things)
        for thing in things:
            self.assertIs(shows_many(64, patch, 1, thing), shows_many(64, patch, 1, thing))
        self.assertEqual(things, ahead)


if __name__ == "__main__":
    unittest.main()
