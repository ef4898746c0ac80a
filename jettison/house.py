"""A house of voyages, that is told lines and answers each with a text."""

from jettison.deeds import read
from jettison.errors import BadName, BadNumber, BadRows, NoDeed, NoOwner, NoPart, NoVoyage, TooMuch, Twice
from jettison.voyage import CHEST, Voyage
from jettison.words import figures_of, is_name, ratio_text

# How many words a line of each first word but do has.
WORDS = {"begin": 2, "sign": 3, "undo": 2, "whole": 2, "stake": 3, "settle": 2}


class House:
    """Voyages by their names, in the order in which they were begun."""

    def __init__(self):
        self.begun = {}

    def tell(self, line):
        """The answer to a line."""
        try:
            return self.answer(line)
        except BadName:
            return "refused badname"
        except Twice:
            return "refused twice"
        except NoOwner:
            return "refused noowner"
        except NoPart:
            return "refused nopart"
        except NoVoyage:
            return "refused novoyage"
        except BadNumber:
            return "refused badnumber"
        except TooMuch:
            return "refused toomuch"
        except BadRows:
            return "refused badrows"
        except NoDeed:
            return "refused nodeed"

    def voyage(self, name):
        """The voyage of that name itself."""
        if name not in self.begun:
            raise NoVoyage("no voyage of that name")
        return self.begun[name]

    def voyages(self):
        """The names of the voyages."""
        return list(self.begun)

    def answer(self, line):
        """The answer to a line that isn't refused."""
        words = words_of(line)
        if words[0] == "begin":
            return self.begin(words[1])
        return told(self.voyage(words[1]), words[0], words[2:])

    def begin(self, name):
        """A new voyage of that name."""
        if not is_name(name):
            raise BadName("a voyage's name is none")
        if name in self.begun:
            raise Twice("a voyage of that name is begun already")
        self.begun[name] = Voyage()
        return f"begun {name}"


def words_of(line):
    """The words of a line, as many as its first one asks for."""
    words = line.split(" ")
    # Two blanks together, one ahead or behind, and no sign at all make a word without signs.
    if "" in words:
        raise NoDeed("a word without signs")
    if words[0] == "do":
        if len(words) < 3:
            raise NoDeed("a line without its deed")
    elif words[0] not in WORDS or len(words) != WORDS[words[0]]:
        raise NoDeed("no such line")
    return words


def told(voyage, word, rest):
    """What a line's first word comes to on a voyage, with the words behind its name."""
    if word == "sign":
        voyage.sign(rest[0])
        return f"signed {rest[0]}"
    if word == "do":
        at = voyage.do(read(" ".join(rest)))
        return f"done {at}"
    if word == "undo":
        voyage.undo()
        return f"undone {len(voyage.log())}"
    if word == "whole":
        return figures_of(voyage.now().whole())
    if word == "stake":
        return ratio_text(voyage.now().stake(rest[0]))
    return payments_text(voyage.settle())


def payments_text(payments):
    """Payments as a text."""
    if len(payments) == 0:
        return "none"
    return ", ".join([f"{side(giver)} {side(taker)} {coins}" for giver, taker, coins in payments])


def side(name):
    """A giver or taker as a word."""
    return "-" if name == CHEST else name
