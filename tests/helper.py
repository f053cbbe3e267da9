"""What the tests share: addresses told one by one or in stretches, straight from what a block is."""

import itertools
import random


class Text(str):
    """A text that is of a kind of its own."""


def nested(depth, core=0, wrap=lambda thing: (thing,)):
    """A thing wrapped so many times."""
    for _ in range(depth):
        core = wrap(core)
    return core


def strange_things():
    """Things of many kinds, none of which is a block or a patch of any row."""
    return [
        None, True, False, 0, 1, -1, 2 ** 64, -(2 ** 70), "", "0", "*", "(0, 1)", "01", Text("01"),
        b"", b"\x00\x01", bytearray(b"\x00\x01"), [], [0, 1], [(0, 1)], [[0, 1]], {}, {0: 1}, {(0, 1): 0},
        {(0, 1)}, frozenset([(0, 1)]), set(), range(2), iter(()), iter((0, 1)), object(), len, int, tuple,
        lambda: (0, 1), NotImplemented, ..., ValueError("no"), strange_things,
        nested(58), nested(59, ()), nested(60, wrap=lambda thing: [thing]), nested(60, wrap=lambda thing: {0: thing}),
        nested(59, wrap=lambda thing: (thing, thing)), nested(59, wrap=lambda thing: (0, thing)),
        nested(59, wrap=lambda thing: (thing, 0)),
    ]


def spoilt_blocks():
    """Tuples that are nearly a block, but a block of no row; none but the empty one is a patch."""
    return [
        (), (0,), (0, 0, 0), (0, 0, None), ((0, 0), 0), (0, (0, 0)),
        (True, 0), (False, 0), (0, True), (0, False), (False, False), (True, False),
        ("0", 0), (0, "0"), ("", ""), (None, 0), (0, None), (None, None), (b"\x00", 0), (0, b""),
        ([0], 0), (0, [0]), ({}, 0), (0, {}), (0, -1), (0, -64), (0, -(2 ** 70)), (0, 2 ** 70),
        (1, 1), (-1, 0), (-2, 1), (-(2 ** 64), 0), (2 ** 200, 0), (2 ** 200, 2 ** 200), 
        (nested(58), 0), (0, nested(58)), (0, object()),
    ]


def no_names():
    """Things of many kinds, none of which is a name."""
    return [
        "", "abcdefghi", "A", "aB", "a1", "1", "a b", " a", "a ", "a\n", "\n", "-", "a-b", "`", "{", "a`", "z{", "@",
        "[", "~", "\u00e4", "\u0430", "a\u0301", Text("a1"), b"a", 0, 1, True, None, (), ("a",), ["a"], {"a"},
        nested(58),
    ]


def all_blocks(bits):
    """Each block of a row."""
    return [(begin, height) for height in range(bits + 1) for begin in range(0, 2 ** bits, 2 ** height)]


def addresses(blocks):
    """The set of all addresses of some blocks, of a narrow row."""
    return {address for begin, height in blocks for address in range(begin, begin + 2 ** height)}


def disjoint(blocks):
    """Whether no address is in two of the blocks."""
    return len(addresses(blocks)) == sum(2 ** height for begin, height in blocks)


def block_sets(bits):
    """Each choice of blocks of a row, rising."""
    blocks = sorted(all_blocks(bits))
    return [chosen for many in range(len(blocks) + 1) for chosen in itertools.combinations(blocks, many)]


def all_patches(bits):
    """Each patch of a row."""
    return [chosen for chosen in block_sets(bits) if disjoint(chosen)]


def stretches(wanted, *groups):
    """The pairs (first, behind the last) of the addresses that are wanted, as told by which groups have them."""
    steps = {}
    for place, blocks in enumerate(groups):
        for begin, height in blocks:
            steps.setdefault(begin, [0] * len(groups))[place] += 1
            steps.setdefault(begin + 2 ** height, [0] * len(groups))[place] -= 1
    depths = [0] * len(groups)
    told = []
    begin = None
    for at in sorted(steps):
        depths = [depth + step for depth, step in zip(depths, steps[at])]
        inside = wanted(*[depth > 0 for depth in depths])
        if inside and begin is None:
            begin = at
        if not inside and begin is not None:
            told.append((begin, at))
            begin = None
    return told


def stretches_of(blocks):
    """The stretches of the addresses of any of the blocks."""
    return stretches(lambda there: there, blocks)


def chance(seed):
    """A source of the same numbers in each run."""
    return random.Random(seed)


def some_block(source, bits, heights=None):
    """A block of a row, of any height or of one of some heights."""
    height = source.choice(heights or range(bits + 1))
    return (source.randrange(2 ** (bits - height)) << height, height)


def some_patch(source, bits, many, heights=None):
    """A patch of at most so many blocks of a row, which needn't be fewest."""
    chosen = []
    for _ in range(many):
        begin, height = some_block(source, bits, heights)
        end = begin + 2 ** height
        if all(end <= other or other + 2 ** tall <= begin for other, tall in chosen):
            chosen.append((begin, height))
    return tuple(sorted(chosen))


def rule_sets(bits, many):
    """Each choice of so many rules of a row, rising."""
    for chosen in itertools.combinations(sorted(all_blocks(bits)), many):
        for signs in itertools.product((0, 1), repeat=many):
            yield tuple(zip(chosen, signs))


def ones_by(bits, rules):
    """The set of the addresses of a narrow row that rules decide 1: greater blocks first, lesser ones over them."""
    signs = [0] * 2 ** bits
    for (begin, height), sign in sorted(rules, key=lambda rule: -rule[0][1]):
        signs[begin:begin + 2 ** height] = [sign] * 2 ** height
    return frozenset(address for address, sign in enumerate(signs) if sign == 1)


def some_rules(source, bits, many, heights=None):
    """At most so many rules of a row."""
    blocks = sorted({some_block(source, bits, heights) for _ in range(many)})
    return tuple((block, source.randrange(2)) for block in blocks)


def near_points(source, bits, points):
    """An address of a row, often one at an edge of a block about one of some points."""
    address = source.choice(points) if points and source.random() < 0.8 else source.randrange(2 ** bits)
    height = source.randrange(bits + 1)
    begin = address >> height << height
    return source.choice([address, begin, begin + 2 ** height - 1, max(begin - 1, 0)])


def overlap(one, other):
    """Whether two blocks have an address together."""
    return one[0] < other[0] + 2 ** other[1] and other[0] < one[0] + 2 ** one[1]


def named_patches(bits, names):
    """Each rising tuple of pairs (block, name) of a row, the blocks apart."""
    return [tuple(zip(patch, chosen)) for patch in all_patches(bits)
            for chosen in itertools.product(names, repeat=len(patch))]


def names_agree(outs, kept):
    """Whether blocks of outs and of kept that have an address together have one name."""
    return all(name == theirs or not overlap(one, other) for one, name in outs for other, theirs in kept)


def all_deals(bits, names):
    """Each deal of a row with some names."""
    shares = named_patches(bits, names)
    return [(bits, outs, kept) for outs in shares for kept in shares if names_agree(outs, kept)]


def some_deal(source, bits, many, names=("a", "b", "c"), heights=None):
    """A deal of a row with at most so many blocks out and as many kept."""
    outs = [(block, source.choice(names)) for block in some_patch(source, bits, many, heights)]
    kept = []
    for block in some_patch(source, bits, many):
        fitting = [name for name in names if names_agree(outs, [(block, name)])]
        if fitting:
            kept.append((block, source.choice(fitting)))
    return (bits, tuple(outs), tuple(kept))


def free_addresses(deal, name):
    """The set of the addresses of a narrow row that are free for a name, or for all for None."""
    bits, outs, kept = deal
    out = addresses([block for block, theirs in outs])
    return set(range(2 ** bits)) - out - addresses([block for block, theirs in kept if theirs != name])


def greatest_blocks(bits, there):
    """The blocks whose addresses are all there and that are held by no other such block, rising."""
    inside = [block for block in all_blocks(bits) if addresses([block]) <= there]
    return tuple(sorted((begin, height) for begin, height in inside
                        if (begin >> height + 1 << height + 1, height + 1) not in inside))


def is_told(thing):
    """Whether a thing is made of tuples, whole numbers, texts and None alone."""
    if type(thing) is tuple:
        return all(is_told(part) for part in thing)
    return thing is None or type(thing) in (int, str)


def is_plain(thing):
    """Whether a thing is made of tuples and whole numbers alone."""
    if type(thing) is tuple:
        return all(is_plain(part) for part in thing)
    return type(thing) is int


def mask(block):
    """The addresses of a block of a narrow row, as the bits of a number."""
    begin, height = block
    return (1 << 2 ** height) - 1 << begin


def busy_for(deal, name):
    """The addresses of a narrow row that aren't free for a name, as the bits of a number."""
    bits, outs, kept = deal
    taken = [block for block, theirs in outs] + [block for block, theirs in kept if theirs != name]
    return sum(mask(block) for block in fewest_masks(taken))


def fewest_masks(blocks):
    """The blocks that no other one holds, each once, so that their masks can be summed."""
    return [block for block in set(blocks)
            if not any(other[1] > block[1] and overlap(block, other) for other in blocks)]


def open_places(deal, name, height):
    """The blocks of a height of a narrow row that are wholly free for a name."""
    busy = busy_for(deal, name)
    blocks = [(begin, height) for begin in range(0, 2 ** deal[0], 2 ** height)] if height <= deal[0] else []
    return [block for block in blocks if not busy & mask(block)]


def moves_there(deal, stays):
    """Each move that can be done to a deal of a narrow row, with the stand behind it."""
    bits, outs, kept = deal
    for block, name in outs:
        if name not in stays:
            for to in open_places(deal, name, block[1]):
                others = [pair for pair in outs if pair != (block, name)]
                yield ("move", name, block, to), tuple(sorted(others + [(to, name)]))


def levels_there(deal, name, height, stays, most):
    """The levels by how many moves at least, and the word: up to a free block, to the end, or to more than most."""
    bits, outs, kept = deal
    levels, known, level = [], {outs}, {outs}
    while True:
        if any(open_places((bits, stand, kept), name, height) for stand in level):
            return "moves", levels
        if not level:
            return "never", levels
        levels.append(tuple(sorted(level)))
        if len(known) > most:
            return "open", levels
        level = {behind for stand in level for move, behind in moves_there((bits, stand, kept), stays)} - known
        known |= level


def spoilt(source, parts, others):
    """A list with a thing left out, another put in, two exchanged, or another in place of one."""
    place = source.randrange(len(parts) + 1)
    way = source.randrange(4)
    if way == 0:
        return parts[:place] + parts[place + 1:]
    if way == 1:
        return parts[:place] + [source.choice(others)] + parts[place:]
    if way == 2:
        return parts[:place] + parts[place:place + 2][::-1] + parts[place + 2:]
    return parts[:place] + [source.choice(others)] + parts[place + 1:]
