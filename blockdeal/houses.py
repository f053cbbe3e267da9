"""Houses: several dealers, each dealing out what it has from the one above it."""

from blockdeal.blocks import is_block
from blockdeal.dealing import first_fit
from blockdeal.deals import all_blocks, blocks_of
from blockdeal.deeds import is_address, is_height
from blockdeal.errors import NoDeed, NoRoom, NotTheirs
from blockdeal.names import is_name
from blockdeal.patches import block_with, has_all, without

MOST_DEALERS = 8


def is_house(bits, thing):
    """Whether a thing, whatever it is, is a tuple of dealers (name, above, step) of the row of so many bits."""
    if not isinstance(thing, tuple) or not 1 <= len(thing) <= MOST_DEALERS:
        return False
    names = []
    for dealer in thing:
        if not is_dealer_below(bits, dealer, names):
            return False
        names.append(dealer[0])
    return True


def is_dealer_below(bits, thing, names):
    """Whether a thing, whatever it is, is a dealer whose place is behind those of these names."""
    if not isinstance(thing, tuple) or len(thing) != 3:
        return False
    name, above, step = thing
    if not is_name(name) or name in names or not is_height(bits, step):
        return False
    if not names:
        return above is None
    return is_name(above) and above in names


class House:
    """Dealers of a row: at first the top has it all and nothing is out."""

    def __init__(self, bits, dealers):
        self.bits = bits
        self.top = dealers[0][0]
        self.above = {name: above for name, above, step in dealers}
        self.steps = {name: step for name, above, step in dealers}
        # What is out of each dealer, to persons and to dealers below it: rising pairs (block, name).
        self.shares = {name: () for name, above, step in dealers}

    def ask(self, dealer, person, height):
        """A block of the height dealt to a person; told is it."""
        if not self.is_dealer(dealer) or not self.is_person(person) or not is_height(self.bits, height):
            raise NoDeed()
        return self.dealt(dealer, person, height)

    def give(self, dealer, person, block):
        """A block of a person back with its dealer, and what is no longer wanted back with those above."""
        if not self.is_dealer(dealer) or not self.is_person(person) or not is_block(self.bits, block):
            raise NoDeed()
        if (block, person) not in self.shares[dealer]:
            raise NotTheirs()
        self.take_back(dealer, (block, person))
        self.hand_up(dealer)

    def has(self, dealer):
        """The blocks that are out to a dealer above it, or the whole row of the top."""
        if not self.is_dealer(dealer):
            raise NoDeed()
        if dealer == self.top:
            return ((0, self.bits),)
        return blocks_of(self.shares[self.above[dealer]], dealer)

    def outs(self, dealer):
        """The pairs (block, name) of what is out of a dealer."""
        if not self.is_dealer(dealer):
            raise NoDeed()
        return self.shares[dealer]

    def free(self, dealer):
        """The fewest patch of what a dealer has and isn't out of it."""
        return without(self.has(dealer), all_blocks(self.outs(dealer)))

    def path(self, address):
        """The dealers that have an address, from the top down, and the person it is out to, if any."""
        if not is_address(self.bits, address):
            raise NoDeed()
        found = [self.top]
        while found[-1] in self.shares:
            pairs = self.shares[found[-1]]
            block = block_with(all_blocks(pairs), address)
            if block is None:
                break
            found.append(dict(pairs)[block])
        return tuple(found)

    def is_dealer(self, thing):
        """Whether a thing, whatever it is, is the name of a dealer of the house."""
        return is_name(thing) and thing in self.above

    def is_person(self, thing):
        """Whether a thing, whatever it is, is a name and no dealer's."""
        return is_name(thing) and thing not in self.above

    def dealt(self, dealer, name, height):
        """A block of the height out of a dealer to a name, fetched from above where the dealer has none."""
        if first_fit(self.free(dealer), height) is None:
            self.fetch(dealer, height)
        block = first_fit(self.free(dealer), height)
        self.shares[dealer] = tuple(sorted(list(self.shares[dealer]) + [(block, name)]))
        return block

    def fetch(self, dealer, height):
        """A block for a dealer from the one above: of its step, if that is greater, else of the height."""
        above = self.above[dealer]
        if above is None:
            raise NoRoom()
        try:
            self.dealt(above, dealer, max(height, self.steps[dealer]))
        except NoRoom:
            self.dealt(above, dealer, height)

    def take_back(self, dealer, share):
        """A pair (block, name) out of a dealer no more."""
        self.shares[dealer] = tuple([pair for pair in self.shares[dealer] if pair != share])

    def hand_up(self, dealer):
        """Each block that a dealer has from above and that is wholly free goes back, and so on up to the top."""
        lower = dealer
        while lower != self.top:
            upper = self.above[lower]
            free = self.free(lower)
            for block in self.has(lower):
                if has_all(free, block):
                    self.take_back(upper, (block, lower))
            lower = upper
