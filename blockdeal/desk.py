"""A desk: a deal that is asked and dealt by lines of text."""

from blockdeal.beginnings import beginning, block_of
from blockdeal.deals import free_for, holder, out_to
from blockdeal.deeds import is_address, is_height
from blockdeal.errors import NoDeed, NoLine, NoRoom, NotTheirs
from blockdeal.fewrules import many_rules
from blockdeal.figures import number_of
from blockdeal.ledgers import Ledger
from blockdeal.moves import least_moves
from blockdeal.names import is_name
from blockdeal.reading import read_deal
from blockdeal.refusals import had
from blockdeal.showing import show_deal

MOST_STANDS = 3000

# What stands behind the first word of each deed.
DEEDS = {
    "take": ("name", "number"),
    "near": ("name", "number", "number"),
    "give": ("name", "block"),
    "grow": ("name", "block"),
    "keep": ("name", "block"),
    "loose": ("name", "block"),
    "move": ("name", "block", "block"),
}


def tell_free(deal, parts):
    """The blocks that are free for all, or for a name."""
    return show_blocks(deal[0], free_for(deal, parts[0] if parts else None))


def tell_out(deal, parts):
    """The blocks that are out to a name."""
    return show_blocks(deal[0], out_to(deal, parts[0]))


def tell_who(deal, parts):
    """Who has an address."""
    word, name, block = holder(deal, parts[0])
    whose = "-" if name is None else name
    return f"{word} {whose} {beginning(deal[0], block)}"


def tell_none(deal, parts):
    """A paper that a name can have no block of a height."""
    word, told = had(deal, parts[0], parts[1])
    if word == "block":
        return "-"
    return ", ".join([f"{beginning(deal[0], block)} {kind}" for block, kind in told])


def tell_rules(deal, parts):
    """How many rules at least tell what is out to a name."""
    return str(many_rules(deal[0], out_to(deal, parts[0])))


def tell_moves(deal, parts):
    """How many moves at least lead to a free block."""
    name, height, most = parts
    told = least_moves(deal, name, height, (), most)
    return str(len(told[1])) if told[0] == "moves" else told[0]


def tell_deal(deal, parts):
    """The text of the deal."""
    return show_deal(deal)


# What tells the answer to each question, and what stands behind its first word, in each of its forms.
QUESTIONS = {
    "free": tell_free,
    "out": tell_out,
    "who": tell_who,
    "none": tell_none,
    "rules": tell_rules,
    "moves": tell_moves,
    "deal": tell_deal,
}
QUESTION_FORMS = {
    "free": ((), ("name",)),
    "out": (("name",),),
    "who": (("address",),),
    "none": (("name", "height"),),
    "rules": (("name",),),
    "moves": (("name", "height", "most"),),
    "deal": ((),),
}


class Desk:
    """A deal, read from its text, with the deeds done here."""

    def __init__(self, text):
        self.ledger = Ledger(read_deal(text))

    def say(self, line):
        """The answer to a line, whatever it is, or a refusal."""
        if not isinstance(line, str):
            raise NoLine()
        if line == "back":
            return self.undo()
        deal = self.ledger.deal()
        word, *words = line.split(" ")
        if word in DEEDS:
            return self.act(tuple([word] + read_parts(deal[0], (DEEDS[word],), words)))
        if word not in QUESTIONS:
            raise NoLine()
        tell = QUESTIONS[word]
        return tell(deal, read_parts(deal[0], QUESTION_FORMS[word], words))

    def act(self, deed):
        """What a deed tells, as a text, or why it is refused."""
        try:
            told = self.ledger.do(deed)
        except NoDeed:
            return "no deed"
        except NotTheirs:
            return "not theirs"
        except NoRoom:
            return "no room"
        return show_told(self.ledger.deal()[0], deed[0], told)

    def undo(self):
        """The last deed done here and not undone is undone, if there is one."""
        try:
            self.ledger.back()
        except NoDeed:
            return "-"
        return "ok"


def show_told(bits, word, told):
    """What a deed of this word tells, as a text."""
    if told is None:
        return "ok"
    # Giving alone tells a patch; blocks are tuples, too.
    return show_blocks(bits, told if word == "give" else (told,))


def show_blocks(bits, blocks):
    """Blocks as a text."""
    if not blocks:
        return "-"
    return " ".join([beginning(bits, block) for block in blocks])


def read_parts(bits, forms, words):
    """The list of what words write, by that form which has as many parts, or a refusal."""
    for form in forms:
        if len(form) == len(words):
            parts = [part_of(bits, kind, word) for kind, word in zip(form, words)]
            if None not in parts:
                return parts
    raise NoLine()


def part_of(bits, kind, word):
    """What a word writes, by the kind of its place, or None where it writes nothing such."""
    if kind == "name":
        return word if is_name(word) else None
    if kind == "block":
        return block_of(bits, word)
    number = number_of(word)
    if kind == "height" and not is_height(bits, number):
        return None
    if kind == "address" and not is_address(bits, number):
        return None
    if kind == "most" and (number is None or number > MOST_STANDS):
        return None
    return number
