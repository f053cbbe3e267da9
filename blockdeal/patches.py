"""Patches: rising tuples of blocks apart from one another, and the fewest blocks that have some addresses.

What is told is reckoned over runs: a run is a pair (low, high) of the addresses from low on, below high. Runs
in a list rise and never touch, so a block whose addresses are all there lies within one of them.
"""

from blockdeal.blocks import holds, is_block, other_half, size_of


def is_patch(bits, thing):
    """Whether a thing, whatever it is, is a patch of the row of so many bits."""
    if not isinstance(thing, tuple):
        return False
    if not all([is_block(bits, block) for block in thing]):
        return False
    # Blocks that are apart rise just where each one begins no earlier than the one ahead of it ends.
    return all([end_of(one) <= other[0] for one, other in zip(thing, thing[1:])])


def is_fewest(patch):
    """Whether no patch with the same addresses has fewer blocks."""
    # Where a greater block could stand, two halves of one block stand somewhere in it, beside one another.
    return not any([other_half(one) == other for one, other in zip(patch, patch[1:])])


def count_of(patch):
    """How many addresses a patch has."""
    return sum([size_of(block) for block in patch])


def fewest(blocks):
    """The fewest patch of all addresses of any of the blocks, a tuple or list."""
    return patch_of(runs_of(blocks))


def span(low, high):
    """The fewest patch of the addresses from low on, below high."""
    blocks = []
    begin = low
    while begin < high:
        block = (begin, greatest_height(begin, high))
        blocks.append(block)
        begin = end_of(block)
    return tuple(blocks)


def rest_of(bits, patch):
    """The fewest patch of the addresses of the row that aren't in a patch."""
    return patch_of(gaps_below(runs_of(patch), 1 << bits))


def both(one, other):
    """The fewest patch of the addresses that are in both patches."""
    return patch_of(shared_runs(runs_of(one), runs_of(other)))


def without(one, other):
    """The fewest patch of the addresses that are in the one patch and not in the other."""
    runs = runs_of(one)
    top = runs[-1][1] if runs else 0
    return patch_of(shared_runs(runs, gaps_below(runs_of(other), top)))


def block_with(patch, address):
    """The block of a patch that has the address, or None."""
    at = ended_by(patch, address)
    if at < len(patch) and patch[at][0] <= address:
        return patch[at]
    return None


def block_about(patch, block):
    """The block of a patch that holds the block, or None."""
    found = block_with(patch, block[0])
    if found is not None and holds(found, block):
        return found
    return None


def has_all(patch, block):
    """Whether all addresses of a block are in a patch that is fewest."""
    # In a patch that isn't fewest they might be there in several blocks.
    return block_about(patch, block) is not None


def has_none(patch, block):
    """Whether no address of a block is in a patch."""
    at = ended_by(patch, block[0])
    return at == len(patch) or end_of(block) <= patch[at][0]


def ended_by(patch, address):
    """How many blocks of a patch have no address from this one on."""
    low = 0
    high = len(patch)
    # The blocks ahead of low end so early, those from high on don't.
    while low < high:
        middle = (low + high) // 2
        if end_of(patch[middle]) <= address:
            low = middle + 1
        else:
            high = middle
    return low


def end_of(block):
    """The first address behind a block."""
    return block[0] + size_of(block)


def greatest_height(begin, high):
    """The height of the greatest block that begins there and ends no later than high."""
    room = (high - begin).bit_length() - 1
    if begin == 0:
        return room
    # The lowest bit of begin is the greatest size of which it is a whole number of times.
    return min(room, (begin & -begin).bit_length() - 1)


def patch_of(runs):
    """The fewest patch of the addresses of a list of runs."""
    return tuple([block for low, high in runs for block in span(low, high)])


def runs_of(blocks):
    """The runs of all addresses of any of the blocks."""
    runs = []
    for block in sorted(blocks):
        if runs and block[0] <= runs[-1][1]:
            low, high = runs[-1]
            runs[-1] = (low, max(high, end_of(block)))
        else:
            runs.append((block[0], end_of(block)))
    return runs


def gaps_below(runs, top):
    """The runs of the addresses below top, or ahead of the last run, that are in none of the runs."""
    gaps = []
    begin = 0
    for low, high in runs:
        if begin < low:
            gaps.append((begin, low))
        begin = high
    if begin < top:
        gaps.append((begin, top))
    return gaps


def shared_runs(ones, others):
    """The runs of the addresses that are in runs of both lists."""
    shared = []
    at = 0
    by = 0
    while at < len(ones) and by < len(others):
        low = max(ones[at][0], others[by][0])
        high = min(ones[at][1], others[by][1])
        if low < high:
            shared.append((low, high))
        # The run that ends first shares nothing with what follows in the other list.
        if ones[at][1] < others[by][1]:
            at += 1
        else:
            by += 1
    return shared
