"""A dealer: a row of its own, dealt out deed by deed."""

from blockdeal.dealing import fitting
from blockdeal.deals import free_for
from blockdeal.deeds import is_deed
from blockdeal.ledgers import Ledger


class Dealer(Ledger):
    """A row of so many bits, at first with nothing out or kept."""

    def __init__(self, bits):
        Ledger.__init__(self, (bits, (), ()))

    def lists(self):
        """For each height the begins of the blocks that are free for all."""
        bits = self.now[0]
        free = free_for(self.now, None)
        return tuple([tuple([begin for begin, tall in free if tall == height]) for height in range(bits + 1)])

    def can(self, name, height):
        """Whether the name could take a block of the height."""
        return is_deed(self.now[0], ("take", name, height)) and fitting(self.now, name, height) is not None
