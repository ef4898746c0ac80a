"""A hold, voyages, papers and a house told word by word from the document, with Python's own fractions, for tests to
hold the program against; and deeds and late news that are drawn for it."""

import math
import random
import re
from fractions import Fraction

from jettison.errors import (
    BadName, BadNumber, BadPaper, BadRows, JettisonError, NoDeed, NoOwner, NoPart, NoVoyage, TooMuch, Twice,
)
from jettison.voyage import Voyage

OWNERS = ["ann", "bob", "cid", "dan", "eve"]
PARTS = ["tea", "oak", "silk", "rum", "rye", "salt", "wool", "keel", "mast", "sail", "hemp", "tar"]


def pair(value):
    return (value.numerator, value.denominator)


def fraction(a):
    return Fraction(a[0], a[1])


def check(error, wrong):
    if wrong:
        raise error("plain")


def is_plain_name(text):
    return re.fullmatch("[a-z]{1,8}", text) is not None


class PlainHold:
    def __init__(self):
        self.owners = []
        self.rows = []  # dicts of what is aboard
        self.ever = []
        self.ashore = []

    def find(self, part):
        for row in self.rows:
            if row["part"] == part:
                return row
        raise NoPart("plain")

    def check_owner(self, owner):
        check(NoOwner, owner not in self.owners)

    def check_new(self, part):
        check(BadName, not is_plain_name(part))
        check(Twice, part in self.ever)

    def sweep(self):
        self.rows = [row for row in self.rows if row["worth"] > 0]

    def sign(self, owner):
        check(BadName, not is_plain_name(owner))
        check(Twice, owner in self.owners)
        self.owners.append(owner)

    def load(self, part, owner, worth, weight):
        self.check_new(part)
        self.check_owner(owner)
        check(BadNumber, worth < 1 or weight < 0)
        self.rows.append({"part": part, "owner": owner, "worth": worth, "weight": weight,
                          "shares": {owner: Fraction(1)}})
        self.ever.append(part)

    def cast(self, rows):
        check(BadRows, len(rows) == 0 or len({part for part, amount in rows}) < len(rows))
        for part, amount in rows:
            row = self.find(part)
            check(BadNumber, amount < 1)
            check(TooMuch, amount > row["worth"])
        whole, lost = self.whole(), sum(amount for part, amount in rows)
        check(TooMuch, lost >= whole)
        given = {owner: sum(Fraction(amount, whole) * self.find(part)["shares"].get(owner, 0)
                            for part, amount in rows) for owner in self.owners}
        for row in self.rows:
            row["shares"] = {owner: row["shares"].get(owner, 0) * Fraction(whole - lost, whole) + given[owner]
                             for owner in self.owners}
        for part, amount in rows:
            self.find(part)["worth"] -= amount
        self.sweep()

    def award(self, owner, amount):
        self.check_owner(owner)
        check(BadNumber, amount < 1)
        whole = self.whole()
        check(TooMuch, amount >= whole)
        for row in self.rows:
            row["shares"] = {each: row["shares"].get(each, 0) * Fraction(whole - amount, whole)
                             + (Fraction(amount, whole) if each == owner else 0) for each in self.owners}

    def mishap(self, part, amount):
        row = self.find(part)
        check(BadNumber, amount < 1)
        check(TooMuch, amount > row["worth"])
        row["worth"] -= amount
        self.sweep()

    def rise(self, part, amount):
        row = self.find(part)
        check(BadNumber, amount < 1)
        row["worth"] += amount

    def hand(self, part, taker):
        row = self.find(part)
        self.check_owner(taker)
        if taker != row["owner"]:
            moved = row["shares"].pop(row["owner"], Fraction(0))
            row["shares"][taker] = row["shares"].get(taker, 0) + moved
            row["owner"] = taker

    def land(self, part):
        row = self.find(part)
        self.rows.remove(row)
        self.ashore.append(row)

    def sever(self, part, name, amount, weight):
        row = self.find(part)
        self.check_new(name)
        check(BadNumber, amount < 1 or weight < 0)
        check(TooMuch, amount >= row["worth"] or weight > row["weight"])
        row["worth"] -= amount
        row["weight"] -= weight
        self.rows.append({"part": name, "owner": row["owner"], "worth": amount, "weight": weight,
                          "shares": dict(row["shares"])})
        self.ever.append(name)

    def roster(self):
        return list(self.owners)

    def parts(self):
        return [(row["part"], row["owner"], row["worth"], row["weight"]) for row in self.rows]

    def told(self, row):
        return [(owner, pair(row["shares"][owner])) for owner in self.owners if row["shares"].get(owner, 0) > 0]

    def shares(self, part):
        return self.told(self.find(part))

    def whole(self):
        return sum(row["worth"] for row in self.rows)

    def stake(self, owner):
        self.check_owner(owner)
        return pair(sum((row["worth"] * row["shares"].get(owner, 0) for row in self.rows), Fraction(0)))

    def purse(self, owner):
        self.check_owner(owner)
        purse = Fraction(0)
        for row in self.ashore:
            if row["owner"] == owner:
                purse -= sum(row["worth"] * share for each, share in row["shares"].items() if each != owner)
            else:
                purse += row["worth"] * row["shares"].get(owner, 0)
        return pair(purse)

    def fortune(self, owner):
        his = sum(row["worth"] for row in self.ashore if row["owner"] == owner)
        return pair(fraction(self.stake(owner)) + fraction(self.purse(owner)) + his)

    def landed(self):
        return [(row["part"], row["owner"], row["worth"], self.told(row)) for row in self.ashore]


def seen(hold):
    """All that a hold tells."""
    roster = hold.roster()
    return (
        roster, hold.parts(), [hold.shares(row[0]) for row in hold.parts()], hold.whole(),
        [hold.stake(owner) for owner in roster], [hold.purse(owner) for owner in roster],
        [hold.fortune(owner) for owner in roster], hold.landed(),
    )


NAME, AMOUNT = "[a-z]{1,8}", "(?:[1-9][0-9]{0,8}|1000000000)"
WEIGHT = f"(?:0|{AMOUNT})"
DEED = "|".join([
    f"load {NAME} {NAME} {AMOUNT} {WEIGHT}", f"cast(?: {NAME} {AMOUNT})+", f"award {NAME} {AMOUNT}",
    f"mishap {NAME} {AMOUNT}", f"rise {NAME} {AMOUNT}", f"hand {NAME} {NAME}", f"land {NAME}",
    f"sever {NAME} {NAME} {AMOUNT} {WEIGHT}", "still",
])


def plain_shown(deed):
    return " ".join(str(thing) for thing in deed)


def plain_read(text):
    check(NoDeed, re.fullmatch(DEED, text) is None)
    return tuple(int(word) if word[0].isdigit() else word for word in text.split(" "))


def plain_perform(hold, deed):
    check(NoDeed, re.fullmatch(DEED, plain_shown(deed)) is None or plain_read(plain_shown(deed)) != deed)
    word, *things = deed
    if word == "cast":
        hold.cast(list(zip(things[::2], things[1::2])))
    elif word != "still":
        getattr(hold, word)(*things)


def plain_hold(roster, deeds):
    """A fresh hold that is told all from the beginning."""
    hold = PlainHold()
    for owner in roster:
        hold.sign(owner)
    for deed in deeds:
        plain_perform(hold, deed)
    return hold


class PlainVoyage:
    """Keeps nothing but what it was told: its hold is told all from the beginning whenever it is asked."""

    def __init__(self):
        self.owners = []
        self.deeds = []
        self.coins = []

    def now(self):
        return plain_hold(self.owners, self.deeds)

    def log(self):
        return list(self.deeds)

    def sign(self, owner):
        self.now().sign(owner)
        self.owners.append(owner)
        self.coins.append(0)

    def become(self, deeds):
        plain_hold(self.owners, deeds)
        self.deeds = deeds

    def do(self, deed):
        self.become(self.deeds + [deed])
        return len(self.deeds) - 1

    def amend(self, at, deed):
        check(NoDeed, at not in range(len(self.deeds)))
        self.become(self.deeds[:at] + [deed] + self.deeds[at + 1:])

    def put_in(self, at, deed):
        check(NoDeed, at not in range(len(self.deeds) + 1))
        self.become(self.deeds[:at] + [deed] + self.deeds[at:])

    def strike(self, at):
        check(NoDeed, at not in range(len(self.deeds)))
        self.become(self.deeds[:at] + self.deeds[at + 1:])

    def undo(self):
        check(NoDeed, self.deeds == [])
        self.become(self.deeds[:-1])

    def found(self, at, part, amount):
        check(NoDeed, at not in range(len(self.deeds)) or self.deeds[at][0] != "cast")
        rows = list(zip(self.deeds[at][1::2], self.deeds[at][2::2]))
        check(NoPart, part not in [row[0] for row in rows])
        check(BadNumber, amount < 1)
        check(TooMuch, amount > [row[1] for row in rows if row[0] == part][0])
        left = [(row[0], row[1] - amount if row[0] == part else row[1]) for row in rows]
        words = [thing for row in left if row[1] > 0 for thing in row]
        self.become(self.deeds[:at] + [("cast", *words) if words else ("still",)] + self.deeds[at + 1:])

    def settle(self):
        hold = self.now()
        awaited = [math.floor(fraction(hold.purse(owner))) for owner in self.owners]
        changes = [new - old for new, old in zip(awaited, self.coins)]
        self.coins = awaited
        # Coin by coin: the next coin that is given goes to the next one that is awaited.
        names = self.owners + [""]
        changes.append(-sum(changes))
        given = [name for name, change in zip(names, changes) for coin in range(-change)]
        taken = [name for name, change in zip(names, changes) for coin in range(change)]
        pairs = list(zip(given, taken))
        return [(*pair, pairs.count(pair)) for pair in dict.fromkeys(pairs)]

    def moved(self, owner):
        check(NoOwner, owner not in self.owners)
        return self.coins[self.owners.index(owner)]

    def chest(self):
        return -sum(self.coins)


def seen_voyage(voyage):
    """All that a voyage tells."""
    hold = voyage.now()
    return (voyage.log(), seen(hold), [voyage.moved(owner) for owner in hold.roster()], voyage.chest())


def plain_parts(hold):
    return [(*row, hold.shares(row[0])) for row in hold.parts()]


def plain_account(roster, deeds):
    holds = [plain_hold(roster, deeds[:at + 1]) for at in range(len(deeds))]
    return (list(roster), [(deed, hold.whole(), plain_parts(hold)) for deed, hold in zip(deeds, holds)])


def plain_written(roster, entries):
    text = "roster" + "".join(" " + owner for owner in roster)
    for deed, whole, parts in entries:
        text += f"\ndeed {plain_shown(deed)}\nwhole {whole}"
        for part, owner, worth, weight, shares in parts:
            text += f"\npart {part} {owner} {worth} {weight}"
            text += "".join(f" {holder} {top}/{bottom}" for holder, (top, bottom) in shares)
    return text


NUMBER = "(?:0|[1-9][0-9]*)"
SHARE = f"{NAME} {NUMBER}/[1-9][0-9]*"
PART = f"part {NAME} {NAME} {NUMBER} {NUMBER}(?: {SHARE})*"
ENTRY = f"\ndeed (?:{DEED})\nwhole {NUMBER}(?:\n{PART})*"
PAPER = f"roster(?: {NAME})*(?:{ENTRY})*"


def plain_part(row):
    words = row.split(" ")
    shares = [(owner, tuple(map(int, share.split("/")))) for owner, share in zip(words[5::2], words[6::2])]
    check(BadPaper, any(math.gcd(top, bottom) != 1 for owner, (top, bottom) in shares))
    return (words[1], words[2], int(words[3]), int(words[4]), shares)


def plain_paper(text):
    check(BadPaper, re.fullmatch(PAPER, text) is None)
    entries = []
    for entry in re.findall(ENTRY, text):
        rows = entry.split("\n")
        deed, whole = plain_read(rows[1].removeprefix("deed ")), int(rows[2].split(" ")[1])
        entries.append((deed, whole, [plain_part(row) for row in rows[3:]]))
    return (text.split("\n")[0].split(" ")[1:], entries)


class PlainHouse:
    def __init__(self):
        self.fleet = {}

    def voyage(self, name):
        check(NoVoyage, name not in self.fleet)
        return self.fleet[name]

    def voyages(self):
        return list(self.fleet)

    def tell(self, line):
        try:
            return self.answer(line)
        except JettisonError as error:
            return "refused " + type(error).__name__.lower()

    def answer(self, line):
        form = r"(?:begin|undo|whole|settle) [^ ]+|(?:sign|stake) [^ ]+ [^ ]+|do(?: [^ ]+){2,}"
        check(NoDeed, re.fullmatch(form, line) is None)
        word, name, *rest = line.split(" ")
        if word == "begin":
            check(BadName, not is_plain_name(name))
            check(Twice, name in self.fleet)
            self.fleet[name] = PlainVoyage()
            return "begun " + name
        return getattr(self, "answer_" + word)(self.voyage(name), *rest)

    def answer_sign(self, voyage, owner):
        voyage.sign(owner)
        return "signed " + owner

    def answer_do(self, voyage, *words):
        return f"done {voyage.do(plain_read(' '.join(words)))}"

    def answer_undo(self, voyage):
        number = len(voyage.deeds) - 1
        voyage.undo()
        return f"undone {number}"

    def answer_whole(self, voyage):
        return str(voyage.now().whole())

    def answer_stake(self, voyage, owner):
        return "/".join(map(str, voyage.now().stake(owner)))

    def answer_settle(self, voyage):
        rows = [f"{giver or '-'} {taker or '-'} {coins}" for giver, taker, coins in voyage.settle()]
        return ", ".join(rows) or "none"


UNSOUND = [("cast",), ("land", "Tea"), ("rise", "tea", 0), ("load", "tea", "ann", 10 ** 9 + 1, 0), ("sign", "eve")]


def drawn_deed(chance, hold):
    """A deed for the hold as it stands, now and then one that is refused."""
    aboard = hold.parts()
    part, owner, worth, weight = chance.choice(aboard) if aboard else ("tea", "ann", 5, 5)
    amount = chance.choice([1, worth, worth + 1, chance.randint(1, worth), max(1, worth // 3)])
    fresh, taker = chance.choice(PARTS), chance.choice(OWNERS)
    word = chance.choice("load load cast cast cast award award mishap rise hand land sever still wrong".split())
    if word == "load":
        return (word, fresh, taker, chance.randint(1, 60), chance.randint(0, 9))
    if word == "cast":
        rows = chance.sample(aboard, chance.randint(1, min(3, len(aboard)))) if aboard else [("tea", "ann", 5, 5)]
        return (word, *[thing for row in rows for thing in (row[0], chance.randint(1, max(1, row[2] // 2)))])
    if word == "award":
        return (word, taker, amount)
    if word in ("mishap", "rise"):
        return (word, part, amount)
    if word == "hand":
        return (word, part, taker)
    if word == "land":
        return (word, part)
    if word == "sever":
        return (word, part, fresh, amount, chance.randint(0, weight))
    return ("still",) if word == "still" else chance.choice(UNSOUND)


def drawn_news(chance, voyage):
    """A step of a voyage, now and then one that is refused."""
    log = voyage.log()
    at = chance.randint(-1, len(log) + 1)
    deed = drawn_deed(chance, voyage.now())
    casts = [number for number, each in enumerate(log) if each[0] == "cast"]
    if casts and chance.random() < 0.2:
        cast = chance.choice(casts)
        return ("found", cast, chance.choice(log[cast][1::2] + ("tea",)), chance.choice([0, 1, 2, 5, 9]))
    return chance.choice([
        ("do", deed), ("do", deed), ("do", deed), ("do", deed), ("sign", chance.choice(OWNERS)), ("amend", at, deed),
        ("put_in", at, deed), ("strike", at), ("undo",), ("settle",), ("found", at, "tea", 1),
    ])


def letters(at):
    """A name for each number."""
    return "abcdefghijklmnopqrstuvwxyz"[at // 26] + "abcdefghijklmnopqrstuvwxyz"[at % 26]


def outcome(thing, step):
    """What a hold or a voyage answers to a step, or the class by which it is refused."""
    try:
        return getattr(thing, step[0])(*step[1:])
    except JettisonError as error:
        return type(error)


def told(roster, deeds):
    """A fresh voyage of this roster that is told these deeds."""
    voyage = Voyage()
    for owner in roster:
        voyage.sign(owner)
    for deed in deeds:
        voyage.do(deed)
    return voyage


def drawn_voyage(seed, many=12):
    """A voyage with so many drawn deeds that were let by."""
    chance = random.Random(seed)
    voyage = told(OWNERS[:4], [("load", part, chance.choice(OWNERS[:4]), chance.randint(20, 90), 4)
                               for part in PARTS[:4]])
    while len(voyage.log()) < many:
        outcome(voyage, ("do", drawn_deed(chance, voyage.now())))
    return voyage
