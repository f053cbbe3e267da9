"""A ledger: a deal, the deeds that were done to it, and the way back."""

from blockdeal.dealing import done
from blockdeal.errors import NoDeed


class Ledger:
    """A deal as it stands behind the deeds done to it."""

    def __init__(self, deal):
        self.now = deal
        # Each deed done and not undone, with the deal ahead of it.
        self.past = []

    def do(self, deed):
        """A deed done, or refused; told is what it tells."""
        behind, told = done(self.now, deed)
        self.past.append((deed, self.now))
        self.now = behind
        return told

    def deal(self):
        """The deal behind the deeds."""
        return self.now

    def journal(self):
        """The deeds done and not undone."""
        return tuple([deed for deed, ahead in self.past])

    def back(self):
        """The last deed undone; told is it."""
        if not self.past:
            raise NoDeed()
        deed, ahead = self.past.pop()
        self.now = ahead
        return deed
