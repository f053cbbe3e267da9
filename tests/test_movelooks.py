"""Tests of blockdeal.movelooks: promises [13], [3] (d) and [2]."""

import copy
import itertools
import unittest
from unittest.mock import ANY

from blockdeal.movelooks import shows_moves, shows_never
from blockdeal.moves import least_moves
from tests.helper import (
    all_deals, chance, levels_there, moves_there, nested, open_places, some_deal, spoilt_blocks, strange_things,
)

NAMES = ("a", "b", "c")
STAYS = ((), ("a",), ("b",), ("a", "b"), ("c",))


def rises(things):
    """Whether things rise, nothing twice."""
    return all(one < other for one, other in zip(things, things[1:]))


def stands_behind(deal, stays, stand):
    """The set of the stands that are come to by one move."""
    return {behind for move, behind in moves_there((deal[0], stand, deal[2]), stays)}


def is_so(deal, name, height, stays, moves, levels):
    """Whether a tuple of moves and a tuple of tuples of stands show the fewest moves, word by word as promised."""
    bits, outs, kept = deal
    now = outs
    for move in moves:
        behind = dict(moves_there((bits, now, kept), stays))
        if move not in behind:
            return False
        now = behind[move]
    if not open_places((bits, now, kept), name, height) or len(moves) != len(levels):
        return False
    if levels and outs not in levels[0] or not all(map(rises, levels)):
        return False
    if any(open_places((bits, stand, kept), name, height) for level in levels for stand in level):
        return False
    return all(stands_behind(deal, stays, stand) <= set(itertools.chain(*levels[:at + 2]))
               for at, level in enumerate(levels[:-1]) for stand in level)


def is_so_never(deal, name, height, stays, levels):
    """Whether a tuple of tuples of stands shows that no moves ever do, word by word as promised."""
    bits, outs, kept = deal
    known = set(itertools.chain(*levels))
    if not levels or outs not in levels[0] or not all(map(rises, levels)):
        return False
    if any(open_places((bits, stand, kept), name, height) for stand in known):
        return False
    return all(stands_behind(deal, stays, stand) <= known for stand in known)


def changed(source, things, others):
    """A tuple with a thing left out, twice, exchanged for another, put in or taken to another place."""
    way = source.randrange(5)
    place = source.randrange(len(things) + 1)
    other = source.randrange(len(things) + 1)
    if way == 0 or not things:
        return things[:place] + (source.choice(others),) + things[place:]
    if way == 1:
        return things[:place] + things[place + 1:]
    if way == 2:
        return things[:place] + things[place - 1:]
    if way == 3:
        return things[:place] + (source.choice(others),) + things[place + 1:]
    rest = list(things)
    thing = rest.pop(min(place, len(rest) - 1))
    rest.insert(other, thing)
    return tuple(rest)


class ShowsMoves(unittest.TestCase):
    # One half of the row has what moves, the other one has what stays: two moves.
    deal = (3, (((0, 0), "a"), ((2, 0), "b"), ((7, 0), "c")), ())
    stays = ("c",)

    def setUp(self):
        self.told = least_moves(self.deal, "d", 2, self.stays, 3000)
        self.moves, self.levels = self.told[1:]

    def asked(self, moves, levels, stays=None, height=2, name="d", deal=None):
        return shows_moves(deal or self.deal, name, height, self.stays if stays is None else stays, moves, levels)

    def test_told_ones(self):
        self.assertEqual((self.told[0], len(self.moves), len(self.levels)), ("moves", 2, 2))
        self.assertIs(self.asked(self.moves, self.levels), True)

    def test_none_wanted(self):
        for bits in range(1, 9):
            self.assertIs(shows_moves((bits, (), ()), "a", bits, (), (), ()), True)
            self.assertIs(shows_moves((bits, (), ()), "a", bits, (), (), ((),)), False)
            self.assertIs(shows_moves((bits, (), ()), "a", bits, (), (), (((),),)), False)
        self.assertIs(shows_moves((3, (((0, 3), "a"),), ()), "a", 0, (), (), ()), False)
        self.assertIs(self.asked((), ()), False)

    def test_moves_of_others(self):
        # Each way of two moves to the other half does, and no other.
        taken = 0
        for first, second in itertools.product(
                [("move", name, (begin, 0), (to, 0)) for name, begin in [("a", 0), ("b", 2)] for to in range(8)], repeat=2):
            right = first[1] != second[1] and first[3] != second[3] and {first[3], second[3]} <= {(4, 0), (5, 0), (6, 0)}
            self.assertIs(self.asked((first, second), self.levels), right, (first, second))
            taken += right
        self.assertEqual(taken, 12)

    def test_a_move_less_or_more(self):
        for moves in [(), self.moves[:1], self.moves[1:], self.moves + self.moves[1:], self.moves[:1] + self.moves,
                      (self.moves[0], self.moves[0]), (self.moves[1], self.moves[1])]:
            for levels in [(), self.levels[:1], self.levels, self.levels + self.levels[1:]]:
                self.assertIs(self.asked(moves, levels), False, (moves, levels))
        # Forth and back and forth again does, but fewer moves do, too.
        word, name, block, to = self.moves[0]
        longer = (self.moves[0], (word, name, to, block)) + self.moves
        self.assertIs(self.asked(longer, self.levels), False)
        self.assertIs(self.asked(longer, self.levels + self.levels), False)
        self.assertIs(self.asked(longer, self.levels + (self.levels[1],) * 2), False)

    def test_a_move_of_a_name_that_stays(self):
        self.assertIs(self.asked(self.moves, self.levels, stays=("a", "c")), False)
        self.assertIs(self.asked(self.moves, self.levels, stays=("b", "c")), False)
        self.assertIs(self.asked(self.moves, self.levels, stays=("c", "d")), True)
        # Where c moves, too, more stands are come to by one move.
        self.assertIs(self.asked(self.moves, self.levels, stays=()), False)

    def test_other_deeds(self):
        for deed in [("take", "a", 0), ("near", "a", 0, 4), ("give", "a", (0, 0)), ("grow", "a", (0, 0)),
                     ("keep", "a", (4, 0)), ("loose", "a", (4, 0)), ("moves", "a", (0, 0), (4, 0)),
                     ("move", "a", (0, 0), (4, 1)), ("move", "a", (0, 0), (8, 0)), ("move", "a", (0, 0))]:
            self.assertIs(self.asked((deed, self.moves[1]), self.levels), False, deed)
            self.assertIs(self.asked((self.moves[0], deed), self.levels), False, deed)
        # Given back instead of moved away, the block would be free.
        self.assertIs(self.asked((("give", "a", (0, 0)), ("give", "b", (2, 0))), self.levels), False)

    def test_a_level_less_or_more(self):
        first, second = self.levels
        for levels in [(), (first,), (second,), (second, first), (first, second, second), (first, second, ()),
                       ((), first), ((), second), (first, first), (second, second)]:
            self.assertIs(self.asked(self.moves, levels), False, levels)
        both = tuple(sorted(first + second))
        self.assertIs(self.asked(self.moves, (both, second)), False)
        self.assertIs(self.asked(self.moves, (first, both)), True)

    def test_a_stand_less(self):
        first, second = self.levels
        for place in range(len(second)):
            self.assertIs(self.asked(self.moves, (first, second[:place] + second[place + 1:])), False, place)
        self.assertIs(self.asked(self.moves, ((), second)), False)
        self.assertIs(self.asked(self.moves, (first, ())), False)

    def test_a_stand_more(self):
        first, second = self.levels
        # The last level may have any stands in which no such block is free.
        kept_back = (((1, 0), "a"), ((2, 0), "b"), ((7, 0), "c"))
        other = (((1, 0), "z"), ((6, 0), "z"))
        for stand in [kept_back, other, self.deal[1]]:
            self.assertIs(self.asked(self.moves, (first, tuple(sorted({*second, stand})))), True)
        # Not such in which one is free.
        for stand in [(), (((7, 0), "c"),), (((4, 0), "a"), ((5, 0), "b"), ((7, 0), "c"))]:
            self.assertIs(self.asked(self.moves, (first, tuple(sorted({*second, stand})))), False)
            self.assertIs(self.asked(self.moves, (tuple(sorted({*first, stand})), second)), False)
        # A level ahead may have more, too, where its moves lead to no others.
        full = (((0, 3), "z"),)
        self.assertIs(self.asked(self.moves, (tuple(sorted({*first, full})), second)), True)
        self.assertIs(self.asked(self.moves, (tuple(sorted({*first, other})), second)), False)
        # Two stands that lead to one another alone.
        low, high = [(((0, 1), "z"), ((at, 0), "y"), ((4, 2), "z")) for at in (2, 3)]
        self.assertIs(self.asked(self.moves, (tuple(sorted({*first, low, high})), second)), True)
        self.assertIs(self.asked(self.moves, (tuple(sorted({*first, low})), tuple(sorted({*second, high})))), True)
        self.assertIs(self.asked(self.moves, (tuple(sorted({*first, low})), second)), False)

    def test_stands_out_of_order_or_twice(self):
        first, second = self.levels
        for spoilt in [second[::-1], second[1:] + second[:1], second + second[-1:], second[:1] + second]:
            self.assertIs(self.asked(self.moves, (first, spoilt)), False)
        self.assertIs(self.asked(self.moves, (first + first, second)), False)

    def test_wrong_stands(self):
        first, second = self.levels
        last = second[-1]
        for spoilt in [list(last), last[::-1], last + last[-1:], last + (((8, 0), "a"),), last + (None,),
                       tuple(list(pair) for pair in last), tuple(pair[::-1] for pair in last), last + (((7, 0), "d"),),
                       (self.deal[0], last, ()), tuple((block, name.upper()) for block, name in last),
                       tuple((block, 0) for block, name in last), tuple(block for block, name in last), None, 0, "", ANY]:
            for levels in [(first, (spoilt,)), (first, second + (spoilt,)), (first, (spoilt,) + second),
                           (first + (spoilt,), second), ((spoilt,), second)]:
                self.assertIs(self.asked(self.moves, levels), False, spoilt)

    def test_a_stand_that_is_kept_for_another(self):
        deal = (2, (((0, 0), "a"), ((2, 0), "b")), (((1, 0), "a"),))
        told = least_moves(deal, "a", 1, (), 100)
        self.assertEqual((told[0], len(told[1])), ("moves", 1))
        self.assertIs(shows_moves(deal, "a", 1, (), told[1], told[2]), True)
        more = (((1, 0), "b"), ((2, 0), "b"))
        self.assertIs(shows_moves(deal, "a", 1, (), told[1], (told[2][0] + (more,),)), False)
        more = (((1, 0), "a"), ((2, 0), "b"))
        self.assertIs(shows_moves(deal, "a", 1, (), told[1], (told[2][0] + (more,),)), True)

    def test_three_and_four_moves(self):
        # From stands of the levels behind the first moves lead ahead, aside and back.
        three = (3, tuple(((at, 0), "a") for at in range(3)) + (((7, 0), "b"),), ())
        four = (4, tuple(((at, 1), "a") for at in range(0, 8, 2)), (((8, 1), "a"),))
        for deal, height, many in [(three, 2, 3), (four, 3, 4)]:
            moves, levels = least_moves(deal, "c", height, ("b",), 3000)[1:]
            self.assertEqual((len(moves), len(levels)), (many, many))
            asked = [deal, "c", height, ("b",), moves]
            self.assertIs(shows_moves(*asked, levels), True)
            # A stand may stand in several levels, in the first one just with all that it leads to in the next.
            for place in range(many):
                for stand in set(levels[many - 1]) | set(levels[1]) | set(levels[0]):
                    level = tuple(sorted({*levels[place], stand}))
                    changed_ones = levels[:place] + (level,) + levels[place + 1:]
                    self.assertIs(shows_moves(*asked, changed_ones), is_so(*asked, changed_ones))
            self.assertIs(shows_moves(*asked, levels[:1] + levels[2:] + levels[1:2]), False)
            self.assertIs(shows_moves(*asked, levels[1:] + levels[:1]), False)
            alike = tuple(sorted(set(itertools.chain(*levels[:many - 1]))))
            self.assertIs(shows_moves(*asked, (alike,) * (many - 1) + levels[-1:]), False)
            self.assertIs(shows_moves(*asked, levels[:-2] + (alike,) + levels[-1:]), True)

    def test_another_question(self):
        for height in (0, 1, 3):
            self.assertIs(self.asked(self.moves, self.levels, height=height), False)
        self.assertIs(self.asked(self.moves, self.levels, name="a"), True)
        deal = self.deal[:2] + ((((3, 0), "z"),),)
        self.assertIs(self.asked(self.moves, self.levels, deal=deal), False)
        self.assertIs(self.asked(self.moves, self.levels, name="z", deal=deal), False)


class ShowsNever(unittest.TestCase):
    # Two single addresses out, and one that stays: a block of four is never free beside it and a kept one.
    deal = (3, (((0, 0), "a"), ((1, 0), "a"), ((5, 0), "b")), (((2, 0), "c"), ((6, 1), "c")))

    def setUp(self):
        self.told = least_moves(self.deal, "a", 2, ("b",), 3000)
        self.levels = self.told[1]
        self.all = tuple(sorted(itertools.chain(*self.levels)))

    def asked(self, levels, name="a", height=2, stays=("b",), deal=None):
        return shows_never(deal or self.deal, name, height, stays, levels)

    def test_told_ones(self):
        self.assertEqual((self.told[0], [len(level) for level in self.levels]), ("never", [1, 4, 1]))
        self.assertIs(self.asked(self.levels), True)

    def test_levels_otherwise(self):
        own = (self.deal[1],)
        rest = tuple(stand for stand in self.all if stand != self.deal[1])
        for levels in [(self.all,), (own, rest), (self.all, ()), (own, (), rest), (self.all, self.all),
                       (own,) + tuple((stand,) for stand in rest), (self.all,) + self.levels,
                       (own, self.levels[2], self.levels[1])]:
            self.assertIs(self.asked(levels), True, levels)
        for levels in [(), ((),), (rest, own), ((), self.all), (rest, self.all), own, self.all, self.levels[1:]]:
            self.assertIs(self.asked(levels), False, levels)

    def test_a_stand_less(self):
        for place in range(len(self.all)):
            self.assertIs(self.asked((self.all[:place] + self.all[place + 1:],)), False)
        self.assertIs(self.asked(self.levels[:1]), False)
        self.assertIs(self.asked(self.levels[:2]), False)

    def test_a_stand_more(self):
        full = (((0, 0), "a"), ((1, 0), "a"), ((3, 0), "a"), ((4, 1), "a"))
        self.assertIs(self.asked((tuple(sorted(self.all + (full,))),)), True)
        leading_on = (((0, 0), "a"), ((5, 0), "b"))
        self.assertIs(self.asked((tuple(sorted(self.all + (leading_on,))),)), False)

    def test_one_that_is_free(self):
        deal = (3, (((0, 0), "a"), ((5, 0), "b")), ())
        told = least_moves(deal, "a", 2, (), 3000)
        self.assertEqual((told[0], len(told[1])), ("moves", 1))
        every = levels_there(deal, "a", 4, (), 3000)[1]
        self.assertIs(shows_never(deal, "a", 4, (), tuple(every)), True)
        self.assertIs(shows_never(deal, "a", 3, (), tuple(every)), True)
        self.assertIs(shows_never(deal, "a", 2, (), tuple(every)), False)
        self.assertIs(shows_never(deal, "a", 0, (), tuple(every)), False)
        for height in (0, 1):
            self.assertIs(self.asked(self.levels, height=height), False)
        self.assertIs(self.asked(self.levels, name="c"), True)
        self.assertIs(self.asked(self.levels, name="c", height=1), False)

    def test_other_stays_and_names(self):
        self.assertIs(self.asked(self.levels, stays=("a", "b")), True)
        self.assertIs(self.asked(self.levels, stays=()), False)
        self.assertIs(self.asked(self.levels, stays=("c",)), False)
        self.assertIs(self.asked(self.levels[:1], stays=("a", "b")), True)

    def test_another_deal(self):
        for deal in [(3, self.deal[1], ()), (3, self.deal[1][:2], self.deal[2]), (4,) + self.deal[1:]]:
            self.assertIs(self.asked(self.levels, deal=deal), False)

    def test_out_of_order_or_twice(self):
        for level in [self.all[::-1], self.all + self.all[-1:], self.all[:1] + self.all, self.all + self.all]:
            self.assertIs(self.asked((level,)), False)
        self.assertIs(self.asked((self.levels[0], self.levels[1][::-1], self.levels[2])), False)

    def test_nothing_out(self):
        deal = (3, (), (((0, 2), "b"), ((6, 1), "b")))
        self.assertEqual(least_moves(deal, "a", 2, (), 10), ("never", (((),),)))
        self.assertIs(shows_never(deal, "a", 2, (), (((),),)), True)
        self.assertIs(shows_never(deal, "a", 2, (), ((),)), False)
        self.assertIs(shows_never(deal, "a", 2, (), ()), False)
        self.assertIs(shows_never(deal, "a", 1, (), (((),),)), False)

    def test_a_full_row(self):
        for bits in range(1, 9):
            full = (((0, bits), "a"),)
            for height in range(bits + 1):
                self.assertIs(shows_never((bits, full, ()), "a", height, (), ((full,),)), True)
                self.assertIs(shows_never((bits, full, ()), "a", height, (), (((),),)), False)


class Anything(unittest.TestCase):
    deal, stays = ShowsMoves.deal, ShowsMoves.stays

    def setUp(self):
        self.moves, self.levels = least_moves(self.deal, "d", 2, self.stays, 3000)[1:]
        self.never = least_moves(self.deal, "d", 3, self.stays, 3000)[1]

    def asked(self, moves, levels):
        return shows_moves(self.deal, "d", 2, self.stays, moves, levels)

    def test_no_moves_at_all(self):
        free = (1, (), ())
        for place, thing in enumerate(strange_things() + spoilt_blocks()):
            self.assertIs(self.asked(thing, self.levels), False, place)
            self.assertIs(self.asked((thing, self.moves[1]), self.levels), False, place)
            self.assertIs(self.asked((self.moves[0], thing), self.levels), False, place)
            for at in range(4):
                spoilt = self.moves[0][:at] + (thing,) + self.moves[0][at + 1:]
                self.assertIs(self.asked((spoilt, self.moves[1]), self.levels), False, (place, at))
            if thing != ():
                self.assertIs(shows_moves(free, "a", 0, (), thing, ()), False, place)
                self.assertIs(shows_moves(free, "a", 0, (), (), thing), False, place)
        self.assertIs(self.asked(list(self.moves), self.levels), False)
        self.assertIs(self.asked(tuple(list(move) for move in self.moves), self.levels), False)
        self.assertIs(self.asked(nested(50, self.moves), self.levels), False)
        self.assertIs(self.asked(ANY, self.levels), False)
        self.assertIs(self.asked((ANY, ANY), self.levels), False)

    def test_no_levels_at_all(self):
        first, second = self.levels
        self.assertIs(shows_never(self.deal, "d", 3, self.stays, self.never), True)
        for place, thing in enumerate(strange_things() + spoilt_blocks()):
            for levels in [thing, (first, thing), (thing, second), (first, second + (thing,)), (first, (thing,)),
                           ((thing,), second), (first, (second[0] + (thing,),) + second[1:]),
                           (first, ((thing,),)), (first, (((thing, "a"),),)), (first, ((((0, 0), thing),),))]:
                self.assertIs(self.asked(self.moves, levels), False, place)
            for levels in [thing, (thing,), self.never + ((thing,),), (self.never[0] + (thing,),) + self.never[1:],
                           self.never + (((thing,),),), self.never + ((((thing, "a"),),),)]:
                self.assertIs(shows_never(self.deal, "d", 3, self.stays, levels), False, place)
            if thing != ():
                self.assertIs(shows_never(self.deal, "d", 3, self.stays, self.never + (thing,)), False, place)

    def test_lists_in_place_of_tuples(self):
        first, second = self.levels
        for levels in [list(self.levels), [list(level) for level in self.levels], (first, list(second)),
                       (list(first), second), nested(50, self.levels), ANY, (ANY, ANY), (first, (ANY,))]:
            self.assertIs(self.asked(self.moves, levels), False)
        for levels in [list(self.never), (list(self.never[0]),) + self.never[1:], nested(50, self.never), ANY, (ANY,)]:
            self.assertIs(shows_never(self.deal, "d", 3, self.stays, levels), False)

    def test_truths(self):
        deal = (1, (((0, 0), "a"),), ())
        self.assertIs(shows_never(deal, "a", 1, (), (((((0, 0), "a"),), (((1, 0), "a"),)),)), True)
        self.assertIs(shows_never(deal, "a", 1, (), (((((False, 0), "a"),), (((1, 0), "a"),)),)), False)
        self.assertIs(shows_never(deal, "a", 1, (), (((((0, False), "a"),), (((1, 0), "a"),)),)), False)
        self.assertIs(shows_never(deal, "a", 1, (), (((((0, 0), "a"),), (((True, 0), "a"),)),)), False)
        deal = (1, (((0, 0), "b"),), (((1, 0), "b"),))
        levels = ((deal[1],),)
        self.assertIs(shows_moves(deal, "a", 0, (), (("move", "b", (0, 0), (1, 0)),), levels), True)
        for block, to in [((False, 0), (1, 0)), ((0, False), (1, 0)), ((0, 0), (True, 0)), ((0, 0), (1, False))]:
            self.assertIs(shows_moves(deal, "a", 0, (), (("move", "b", block, to),), levels), False)

    def test_nothing_is_changed(self):
        things = [self.moves, self.levels, list(self.levels), [list(level) for level in self.levels], self.never]
        ahead = copy.deepcopy(things)
        for one, other in itertools.product(things, repeat=2):
            self.assertIs(self.asked(one, other), self.asked(one, other))
            shows_never(self.deal, "d", 3, self.stays, one)
        self.assertEqual(things, ahead)


class WordByWord(unittest.TestCase):
    def each_is_right(self, source, deal, name, height, stays, most):
        """What least_moves tells is taken; changed by chance it is taken just where it is so."""
        told = least_moves(deal, name, height, stays, most)
        taken = {"moves": 0, "never": 0, "other": 0}
        if told[0] == "open":
            return taken
        moves = told[1] if told[0] == "moves" else ()
        self.assertIs(shows_moves(deal, name, height, stays, moves, told[-1]), told[0] == "moves")
        self.assertIs(shows_never(deal, name, height, stays, told[-1]), told[0] == "never")
        self.assertIs(shows_never(deal, name, height, stays, (tuple(sorted(itertools.chain(*told[-1]))),)),
                      told[0] == "never")
        own = [pair for pair in moves_there(deal, ())] or [(("move", "a", (0, 0), (0, 0)), ())]
        stands = [stand for level in told[-1] for stand in level] + [behind for move, behind in own] + [()]
        for _ in range(6):
            other = changed(source, moves, list(moves) + [move for move, behind in own])
            levels = told[-1]
            if levels and source.random() < 0.7:
                place = source.randrange(len(levels))
                level = changed(source, levels[place], stands)
                if source.random() < 0.7:
                    level = tuple(sorted(set(level)))
                levels = levels[:place] + (level,) + levels[place + 1:]
            else:
                levels = changed(source, levels, [tuple(sorted(set(stands))), ()])
            for tried in {moves, other}:
                right = is_so(deal, name, height, stays, tried, levels)
                self.assertIs(shows_moves(deal, name, height, stays, tried, levels), right, (deal, tried, levels))
                self.assertFalse(right and (told[0] == "never" or len(tried) != len(moves)))
                taken["moves"] += right
                taken["other"] += not right
            right = is_so_never(deal, name, height, stays, levels)
            self.assertIs(shows_never(deal, name, height, stays, levels), right, (deal, levels))
            self.assertFalse(right and told[0] == "moves")
            taken["never"] += right
        return taken

    def test_small_deals(self):
        source = chance(90)
        self.gone_through(source, [(deal, 60) for deal in all_deals(1, ("a", "b")) + all_deals(2, ("a", "b"))[::97]])

    def test_deals_of_three_to_eight_bits(self):
        source = chance(91)
        deals = []
        for bits in range(3, 9):
            for many in (2, 3, 4, 20):
                for _ in range(8):
                    deal = some_deal(source, bits, many, heights=range(max(0, bits - 3), bits - 1))
                    deals.append((deal[:2] + ((),) if source.random() < 0.6 else deal, 40))
        self.gone_through(source, deals)

    def gone_through(self, source, deals):
        taken = {"moves": 0, "never": 0, "other": 0}
        for deal, most in deals:
            for name in NAMES:
                height = source.randrange(deal[0] + 1)
                stays = source.choice(STAYS)
                for kind, many in self.each_is_right(source, deal, name, height, stays, most).items():
                    taken[kind] += many
        self.assertGreater(min(taken.values()), 2, taken)

    def test_told_in_eight_bits(self):
        for outs in [(((0, 6), "a"), ((70, 0), "b")), (((0, 6), "a"), ((64, 6), "b"), ((130, 1), "a"))]:
            for height in (6, 7, 8):
                told = least_moves((8, outs, ()), "c", height, (), 3000)
                if told[0] == "moves":
                    self.assertIs(shows_moves((8, outs, ()), "c", height, (), told[1], told[2]), True)
                if told[0] == "never":
                    self.assertIs(shows_never((8, outs, ()), "c", height, (), told[1]), True)


if __name__ == "__main__":
    unittest.main()
