"""Tests of blockdeal.houses: promises [15], [3] (f) and [2]."""

import itertools
import unittest
from unittest.mock import ANY

from blockdeal.errors import DealError, NoDeed, NoRoom, NotTheirs
from blockdeal.houses import House, is_house
from blockdeal.patches import count_of, fewest, is_fewest
from tests.helper import (
    Text, addresses, chance, greatest_blocks, is_told, near_points, nested, no_names, overlap, some_block,
    spoilt_blocks, strange_things,
)

WIDTHS = (1, 2, 3, 4, 5, 8, 16, 31, 32, 33, 63, 64)
PERSONS = ("p", "q", "r")
LETTERS = ("top", "b", "c", "d", "e", "f", "g", "hhhhhhhh")


def some_house(source, bits, many):
    """A house of so many dealers of a row."""
    names = LETTERS[:many]
    return tuple((name, source.choice(names[:place]) if place else None, source.choice((0, 1, bits // 2, bits))
                  if source.random() < 0.4 else source.randrange(bits + 1)) for place, name in enumerate(names))


def told_by(ask, *things):
    """What is told, or the class that refuses."""
    try:
        return ask(*things)
    except DealError as refusal:
        return type(refusal)


def all_told(house, dealers):
    """All that a house tells of its dealers."""
    return [(house.has(name), house.outs(name), house.free(name)) for name, above, step in dealers]


class Model:
    """A house of a narrow row, address by address."""

    def __init__(self, bits, dealers):
        self.bits, self.dealers = bits, dealers
        self.above = {name: above for name, above, step in dealers}
        self.step = {name: step for name, above, step in dealers}
        self.out = {name: set() for name in self.above}

    def has(self, dealer):
        above = self.above[dealer]
        return {block for block, name in self.out[above] if name == dealer} if above else {(0, self.bits)}

    def free(self, dealer):
        there = addresses(self.has(dealer)) - addresses([block for block, name in self.out[dealer]])
        return greatest_blocks(self.bits, there)

    def ask(self, dealer, name, height):
        """The block, or None where there is no room."""
        if not any(tall >= height for begin, tall in self.free(dealer)):
            above = self.above[dealer]
            if above is None:
                return None
            if self.ask(above, dealer, max(height, self.step[dealer])) is None:
                if self.ask(above, dealer, height) is None:
                    return None
        great = [(tall, begin) for begin, tall in self.free(dealer) if tall >= height]
        block = (min(great)[1], height)
        self.out[dealer].add((block, name))
        return block

    def give(self, dealer, name, block):
        """Whether the block was theirs."""
        if (block, name) not in self.out[dealer]:
            return False
        self.out[dealer].remove((block, name))
        while self.above[dealer]:
            there = [one for one, whose in self.out[dealer]]
            for own in self.has(dealer):
                if not addresses([own]) & addresses(there):
                    self.out[self.above[dealer]].remove((own, dealer))
            dealer = self.above[dealer]
        return True

    def path(self, address):
        path = [self.dealers[0][0]]
        while True:
            further = [name for block, name in self.out.get(path[-1], ()) if address in addresses([block])]
            if not further:
                return tuple(path)
            path += further

    def all_told(self):
        return [(tuple(sorted(self.has(name))), tuple(sorted(self.out[name])), self.free(name)) for name in self.above]


class IsHouse(unittest.TestCase):
    def test_houses(self):
        for bits in (1, 3, 8, 64):
            for many in range(1, 9):
                chain = tuple((name, LETTERS[place - 1] if place else None, 0) for place, name in enumerate(LETTERS[:many]))
                star = tuple((name, "top" if place else None, bits) for place, name in enumerate(LETTERS[:many]))
                self.assertIs(is_house(bits, chain), True)
                self.assertIs(is_house(bits, star), True)
        self.assertIs(is_house(3, (("abcdefgh", None, 2), ("a", "abcdefgh", 3))), True)

    def test_how_many(self):
        self.assertIs(is_house(3, ()), False)
        nine = tuple((name, "top" if place else None, 0) for place, name in enumerate(LETTERS + ("i",)))
        self.assertIs(is_house(3, nine), False)
        self.assertIs(is_house(3, nine[:8]), True)
        self.assertIs(is_house(3, nine[1:]), False)

    def test_names(self):
        for name in no_names():
            self.assertIs(is_house(3, ((name, None, 0),)), False)
            self.assertIs(is_house(3, (("a", None, 0), (name, "a", 0))), False)
            self.assertIs(is_house(3, ((name, None, 0), ("a", name, 0))), False)
        self.assertIs(is_house(3, (("a", None, 0), ("a", "a", 0))), False)
        self.assertIs(is_house(3, (("a", None, 0), ("b", "a", 0), ("b", "a", 1))), False)
        self.assertIs(is_house(3, (("a", None, 0), ("b", "a", 0), ("a", "b", 0))), False)

    def test_above(self):
        self.assertIs(is_house(3, (("a", "a", 0),)), False)
        self.assertIs(is_house(3, (("a", "b", 0),)), False)
        self.assertIs(is_house(3, (("a", "b", 0), ("b", None, 0))), False)
        self.assertIs(is_house(3, (("a", None, 0), ("b", None, 0))), False)
        self.assertIs(is_house(3, (("a", None, 0), ("b", "b", 0))), False)
        self.assertIs(is_house(3, (("a", None, 0), ("b", "c", 0), ("c", "a", 0))), False)
        self.assertIs(is_house(3, (("a", None, 0), ("c", "a", 0), ("b", "c", 0))), True)
        for above in no_names() + [ANY]:
            self.assertIs(is_house(3, (("a", None, 0), ("b", above, 0))), False)
            if above is not None:
                self.assertIs(is_house(3, (("a", above, 0),)), False)

    def test_steps(self):
        for bits in (1, 2, 8, 64):
            for step in range(bits + 1):
                self.assertIs(is_house(bits, (("a", None, step), ("b", "a", bits - step))), True)
            for step in [-1, bits + 1, -(2 ** 70), 2 ** 70, True, False, None, "1", "", (1,), [0], ANY]:
                self.assertIs(is_house(bits, (("a", None, step),)), False)
                self.assertIs(is_house(bits, (("a", None, 0), ("b", "a", step))), False)

    def test_things_more_or_fewer_and_lists(self):
        right = ("b", "a", 1)
        for dealer in [right + (None,), right[:2], right[:1], (), list(right), (right,), right[::-1], {"b": 1}, "ba1",
                       (["b"], "a", 1), ("b", ["a"], 1), None]:
            self.assertIs(is_house(3, (("a", None, 0), dealer)), False)
            self.assertIs(is_house(3, (dealer,)), False)
        self.assertIs(is_house(3, [("a", None, 0)]), False)
        self.assertIs(is_house(3, (["a", None, 0],)), False)
        self.assertIs(is_house(3, ("a", None, 0)), False)

    def test_anything(self):
        for thing in strange_things() + spoilt_blocks() + no_names() + [ANY, (ANY,), (ANY, ANY)]:
            self.assertIs(is_house(3, thing), False)
            self.assertIs(is_house(3, (thing,)), False)
            self.assertIs(is_house(3, (("a", None, 0), thing)), False)
            self.assertIs(is_house(3, (("a", None, 0), ("b", "a", (thing,)))), False)
        self.assertIs(is_house(3, nested(57, (("a", None, 0),))), False)
        self.assertIs(is_house(3, ((Text("a"), None, 0),)), True)


class ByHand(unittest.TestCase):
    dealers = (("top", None, 0), ("mid", "top", 3), ("low", "mid", 1))

    def test_at_first(self):
        for bits in range(1, 65):
            house = House(bits, (("top", None, 0), ("low", "top", bits)))
            self.assertEqual(all_told(house, (("top", None, 0), ("low", "top", bits))),
                             [(((0, bits),), (), ((0, bits),)), ((), (), ())])
            self.assertEqual(house.path(0), ("top",))
            self.assertEqual(house.path(2 ** bits - 1), ("top",))

    def test_asked_from_above_by_steps(self):
        house = House(4, self.dealers)
        self.assertEqual(house.ask("low", "p", 0), (0, 0))
        self.assertEqual(house.has("low"), ((0, 1),))
        self.assertEqual(house.has("mid"), ((0, 3),))
        self.assertEqual(house.outs("top"), (((0, 3), "mid"),))
        self.assertEqual(house.outs("mid"), (((0, 1), "low"),))
        self.assertEqual(house.outs("low"), (((0, 0), "p"),))
        self.assertEqual(house.free("low"), ((1, 0),))
        self.assertEqual(house.free("mid"), ((2, 1), (4, 2)))
        self.assertEqual(house.free("top"), ((8, 3),))
        self.assertEqual(house.path(0), ("top", "mid", "low", "p"))
        self.assertEqual(house.path(1), ("top", "mid", "low"))
        self.assertEqual(house.path(7), ("top", "mid"))
        self.assertEqual(house.path(8), ("top",))
        # Now out of what low has, then out of what mid has, then out of the top.
        self.assertEqual(house.ask("low", "q", 0), (1, 0))
        self.assertEqual(house.ask("low", "q", 0), (2, 0))
        self.assertEqual(house.has("low"), ((0, 1), (2, 1)))
        self.assertEqual(house.ask("low", "p", 2), (4, 2))
        self.assertEqual(house.ask("mid", "p", 1), (8, 1))
        self.assertEqual(house.has("mid"), ((0, 3), (8, 3)))
        self.assertEqual(house.free("top"), ())
        self.assertRaises(NoRoom, house.ask, "top", "p", 0)
        self.assertEqual(house.ask("mid", "p", 2), (12, 2))
        self.assertRaises(NoRoom, house.ask, "low", "r", 2)
        self.assertEqual(house.ask("low", "r", 1), (10, 1))

    def test_where_the_step_is_refused(self):
        house = House(3, (("top", None, 0), ("low", "top", 3)))
        self.assertEqual(house.ask("top", "p", 0), (0, 0))
        self.assertEqual(house.ask("low", "q", 1), (2, 1))
        self.assertEqual(house.has("low"), ((2, 1),))
        self.assertEqual(house.free("top"), ((1, 0), (4, 2)))
        self.assertEqual(house.ask("low", "q", 0), (1, 0))
        self.assertEqual(house.has("low"), ((1, 0), (2, 1)))

    def test_a_step_in_the_middle(self):
        # mid has no block of low's step, and the top has none of mid's; but of the height it has one.
        house = House(3, (("top", None, 0), ("mid", "top", 3), ("low", "mid", 2)))
        self.assertEqual(house.ask("top", "p", 2), (0, 2))
        self.assertEqual(house.ask("low", "q", 0), (4, 0))
        self.assertEqual((house.has("mid"), house.has("low")), (((4, 2),), ((4, 2),)))
        self.assertEqual(house.give("low", "q", (4, 0)), None)
        self.assertEqual(house.ask("top", "p", 1), (4, 1))
        self.assertEqual(house.ask("low", "q", 0), (6, 0))
        self.assertEqual((house.has("mid"), house.has("low")), (((6, 0),), ((6, 0),)))

    def test_the_tops_step_is_never_asked(self):
        house = House(3, (("top", None, 3),))
        self.assertEqual([house.ask("top", "p", height) for height in (0, 0, 1, 2)], [(0, 0), (1, 0), (2, 1), (4, 2)])

    def test_given_back(self):
        house = House(4, self.dealers)
        first = all_told(house, self.dealers)
        house.ask("low", "p", 0)
        house.ask("low", "q", 0)
        house.ask("mid", "p", 2)
        self.assertIsNone(house.give("low", "p", (0, 0)))
        self.assertEqual(house.has("low"), ((0, 1),))
        self.assertIsNone(house.give("low", "q", (1, 0)))
        self.assertEqual((house.has("low"), house.has("mid")), ((), ((0, 3),)))
        self.assertIsNone(house.give("mid", "p", (4, 2)))
        self.assertEqual(all_told(house, self.dealers), first)

    def test_as_it_was_told(self):
        # Two blocks beside one another that one has: each goes back by itself.
        house = House(3, (("top", None, 0), ("low", "top", 1)))
        for _ in range(4):
            house.ask("low", "p", 0)
        self.assertEqual(house.has("low"), ((0, 1), (2, 1)))
        house.give("low", "p", (3, 0))
        house.give("low", "p", (0, 0))
        self.assertEqual((house.has("low"), house.free("low")), (((0, 1), (2, 1)), ((0, 0), (3, 0))))
        house.give("low", "p", (1, 0))
        self.assertEqual((house.has("low"), house.free("top")), (((2, 1),), ((0, 1), (4, 2))))

    def test_not_theirs(self):
        house = House(3, (("top", None, 0), ("low", "top", 2)))
        house.ask("low", "p", 1)
        house.ask("top", "q", 1)
        dealers = (("top", None, 0), ("low", "top", 2))
        ahead = all_told(house, dealers)
        for dealer, person, block in [
            ("low", "q", (0, 1)), ("top", "p", (0, 1)), ("top", "q", (0, 1)), ("low", "p", (0, 0)), ("low", "p", (0, 2)),
            ("low", "p", (2, 1)), ("top", "p", (0, 2)), ("low", "r", (0, 1)), ("top", "q", (4, 2)),
        ]:
            self.assertRaises(NotTheirs, house.give, dealer, person, block)
            self.assertEqual(all_told(house, dealers), ahead)
        house.give("low", "p", (0, 1))
        self.assertRaises(NotTheirs, house.give, "low", "p", (0, 1))

    def test_one_person_at_two_dealers(self):
        house = House(2, (("top", None, 0), ("low", "top", 0)))
        self.assertEqual((house.ask("low", "p", 0), house.ask("top", "p", 0)), ((0, 0), (1, 0)))
        self.assertEqual(house.outs("top"), (((0, 0), "low"), ((1, 0), "p")))
        self.assertRaises(NotTheirs, house.give, "top", "p", (0, 0))
        house.give("top", "p", (1, 0))
        self.assertEqual(house.path(0), ("top", "low", "p"))

    def test_two_houses(self):
        one, other = House(3, self.dealers), House(3, self.dealers)
        one.ask("low", "p", 1)
        self.assertEqual(all_told(other, self.dealers), all_told(House(3, self.dealers), self.dealers))


class NoDeeds(unittest.TestCase):
    dealers = (("top", None, 0), ("low", "top", 2))

    def setUp(self):
        self.house = House(3, self.dealers)
        self.house.ask("low", "p", 2)
        self.house.ask("top", "p", 2)
        self.ahead = all_told(self.house, self.dealers)

    def refused(self, ask, *things):
        with self.assertRaises(NoDeed) as caught:
            ask(*things)
        self.assertIs(type(caught.exception), NoDeed)
        self.assertEqual(all_told(self.house, self.dealers), self.ahead)

    def test_no_dealer(self):
        house = self.house
        for thing in strange_things() + spoilt_blocks() + no_names() + ["p", "lo", "lows", "a", ("low",), ANY]:
            self.refused(house.ask, thing, "p", 0)
            self.refused(house.give, thing, "p", (0, 2))
            self.refused(house.has, thing)
            self.refused(house.outs, thing)
            self.refused(house.free, thing)

    def test_no_person(self):
        for thing in strange_things() + spoilt_blocks() + no_names() + ["top", "low", ("p",), ANY]:
            self.refused(self.house.ask, "low", thing, 0)
            self.refused(self.house.give, "low", thing, (0, 2))
        # What is out to a dealer isn't given back by it.
        self.refused(self.house.give, "top", "low", (0, 2))

    def test_no_height(self):
        for thing in strange_things() + spoilt_blocks() + no_names() + [4, -2, (0,), ANY]:
            if type(thing) is not int or not 0 <= thing <= 3:
                self.refused(self.house.ask, "low", "p", thing)

    def test_no_block(self):
        for thing in strange_things() + spoilt_blocks() + no_names() + [(8, 0), (0, 4), (1, 1), [0, 2], ((0, 2),), ANY]:
            self.refused(self.house.give, "low", "p", thing)

    def test_no_address(self):
        for thing in strange_things() + spoilt_blocks() + no_names() + [8, 2 ** 64, -1, (0,), ANY]:
            if type(thing) is not int or not 0 <= thing <= 7:
                self.refused(self.house.path, thing)

    def test_ahead_of_all(self):
        # There is no room and nothing is theirs; still what is no deed is refused as such.
        self.assertRaises(NoRoom, self.house.ask, "low", "p", 0)
        self.assertRaises(NotTheirs, self.house.give, "low", "q", (0, 2))
        self.refused(self.house.ask, "low", "p", 4)
        self.refused(self.house.ask, "low", "low", 0)
        self.refused(self.house.give, "low", "q", (0, 4))
        self.refused(self.house.give, "low", "top", (0, 2))


class AddressByAddress(unittest.TestCase):
    def test_as_the_model_tells(self):
        source = chance(110)
        for bits, many in itertools.product((1, 2, 3, 4, 5), (1, 2, 3, 5, 8)):
            dealers = some_house(source, bits, many)
            self.assertIs(is_house(bits, dealers), True)
            house, model = House(bits, dealers), Model(bits, dealers)
            for _ in range(60):
                dealer = source.choice(dealers)[0]
                person = source.choice(PERSONS)
                outs = [(block, name) for block, name in house.outs(dealer) if name in PERSONS]
                if source.random() < 0.6 or not outs:
                    height = source.randrange(bits + 1) if source.random() < 0.5 else 0
                    told = told_by(house.ask, dealer, person, height)
                    self.assertEqual(NoRoom if told is NoRoom else told, model.ask(dealer, person, height) or NoRoom)
                else:
                    block, person = source.choice(outs)
                    if source.random() < 0.2:
                        block = some_block(source, bits)
                    told = told_by(house.give, dealer, person, block)
                    self.assertEqual(told, None if model.give(dealer, person, block) else NotTheirs)
                self.assertEqual(all_told(house, dealers), model.all_told())
                for address in range(2 ** bits):
                    self.assertEqual(house.path(address), model.path(address))


class EveryWidth(unittest.TestCase):
    def agree(self, house, bits, dealers):
        """Dealers above and below agree, and each address is with just one."""
        names = [name for name, above, step in dealers]
        with_one = []
        for name, above, step in dealers:
            has, outs, free = house.has(name), house.outs(name), house.free(name)
            self.assertTrue(is_told((has, outs, free)))
            self.assertEqual(has, ((0, bits),) if above is None else
                             tuple(block for block, whose in house.outs(above) if whose == name))
            self.assertEqual((list(has), list(outs)), (sorted(set(has)), sorted(set(outs))))
            self.assertIs(is_fewest(free), True)
            own = [block for block, whose in outs]
            self.assertEqual(count_of(free) + count_of(own), count_of(has))
            self.assertEqual(fewest(free + tuple(own)), fewest(has))
            if above is not None:
                self.assertTrue(all(any(overlap(block, out) for out in own) for block in has))
            with_one += list(free) + [block for block, whose in outs if whose not in names]
        self.assertEqual(count_of(with_one), 2 ** bits)
        self.assertEqual(fewest(with_one), ((0, bits),))

    def paths_agree(self, source, house, bits, dealers):
        """The path of some addresses, step by step."""
        names = [name for name, above, step in dealers]
        edges = [block[0] for name in names for block, whose in house.outs(name)]
        for _ in range(3):
            address = near_points(source, bits, edges)
            path = house.path(address)
            self.assertTrue(is_told(path))
            self.assertEqual(path[0], names[0])
            for one, other in zip(path, path[1:]):
                self.assertTrue(any(whose == other and overlap((address, 0), block) for block, whose in house.outs(one)))
            if path[-1] in names:
                self.assertTrue(any(overlap((address, 0), block) for block in house.free(path[-1])))

    def test_rows_of_deeds(self):
        source = chance(111)
        counts = {"told": 0, "refused": 0, "from above": 0}
        for bits in WIDTHS * 3:
            dealers = some_house(source, bits, source.randrange(1, 9))
            house = House(bits, dealers)
            first = all_told(house, dealers)
            theirs = []
            for _ in range(40):
                if theirs and source.random() < 0.3:
                    self.assertIsNone(house.give(*theirs.pop(source.randrange(len(theirs)))))
                else:
                    theirs += self.asked(source, house, bits, dealers, counts)
                self.agree(house, bits, dealers)
                self.paths_agree(source, house, bits, dealers)
            source.shuffle(theirs)
            for deed in theirs:
                house.give(*deed)
            self.assertEqual(all_told(house, dealers), first)
        self.assertGreater(min(counts.values()), 20, counts)

    def asked(self, source, house, bits, dealers, counts):
        """Someone asks, and is refused just where none from there up has such a block; told what is to be given back."""
        above = {name: above for name, above, step in dealers}
        dealer, person = source.choice(dealers)[0], source.choice(PERSONS)
        height = source.randrange(bits + 1) if source.random() < 0.6 else source.randrange(min(bits, 2) + 1)
        chain = [dealer]
        while above[chain[-1]] is not None:
            chain.append(above[chain[-1]])
        great = [any(tall >= height for begin, tall in house.free(name)) for name in chain]
        ahead = all_told(house, dealers)
        told = told_by(house.ask, dealer, person, height)
        if not any(great):
            self.assertIs(told, NoRoom)
            self.assertEqual(all_told(house, dealers), ahead)
            counts["refused"] += 1
            return []
        self.assertTrue(is_told(told))
        self.assertEqual(told[1], height)
        self.assertIn((told, person), house.outs(dealer))
        counts["told" if great[0] else "from above"] += 1
        return [(dealer, person, told)]

    def test_what_was_told_stays(self):
        source = chance(112)
        dealers = some_house(source, 8, 4)
        house = House(8, dealers)
        told = []
        for _ in range(30):
            told_by(house.ask, source.choice(dealers)[0], "p", source.randrange(4))
            things = all_told(house, dealers)
            self.assertEqual(all_told(house, dealers), things)
            told.append((things, repr(things)))
        for things, written in told:
            self.assertEqual(repr(things), written)


if __name__ == "__main__":
    unittest.main()
