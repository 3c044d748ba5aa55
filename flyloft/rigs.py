"""Rigs: the plate, the bars, the pieces and the bays above a stage, read from lines."""

from flyloft.errors import NoName, NoRig
from flyloft.words import is_name, number_within

# Each number of a line: what it tells, its least and its most.
PLATE_NUMBERS = (("weight", 1, 1_000_000_000_000),)
BAR_NUMBERS = (
    ("top", 1, 60),
    ("at", 0, 60),
    ("room", 0, 60),
    ("pull", 1, 2),
    ("slack", 0, 1_000_000_000_000_000),
    ("hold", 0, 1_000_000_000_000_000),
)
PIECE_NUMBERS = (("weight", 1, 1_000_000_000_000), ("drop", 0, 60))

MOST_OF_SORT = {"plate": 1, "bar": 8, "piece": 12, "bay": 12}
FEWEST_IN_BAY = 2
MOST_IN_BAY = 8

# The plate has no name of its own; this one lets it be kept as the other sorts are.
PLATE_NAME = ""


class Rig:

    def __init__(self, lines):
        told = all_told(lines)
        self.plate_facts = told["plate"][PLATE_NAME]
        self.bar_facts = told["bar"]
        self.piece_facts = told["piece"]
        self.bay_facts = told["bay"]

    def plate(self):
        return self.plate_facts["weight"]

    def bars(self):
        return list(self.bar_facts)

    def pieces(self):
        return list(self.piece_facts)

    def bays(self):
        return list(self.bay_facts)

    def bay(self, name):
        return list(facts_of(self.bay_facts, name))

    def top(self, bar):
        return facts_of(self.bar_facts, bar)["top"]

    def at(self, bar):
        return facts_of(self.bar_facts, bar)["at"]

    def room(self, bar):
        return facts_of(self.bar_facts, bar)["room"]

    def pull(self, bar):
        return facts_of(self.bar_facts, bar)["pull"]

    def slack(self, bar):
        return facts_of(self.bar_facts, bar)["slack"]

    def hold(self, bar):
        return facts_of(self.bar_facts, bar)["hold"]

    def weight(self, piece):
        return facts_of(self.piece_facts, piece)["weight"]

    def drop(self, piece):
        return facts_of(self.piece_facts, piece)["drop"]


def facts_of(facts, name):
    if name not in facts:
        raise NoName(name)
    return facts[name]


def all_told(lines):
    told = {"plate": {}, "bar": {}, "piece": {}, "bay": {}}
    for row, line in enumerate(lines):
        # Blanks too many leave words without signs, which are neither names nor numbers.
        words = line.split(" ")
        facts = line_told(words, told["bar"])
        if facts is None or not has_place(told, words):
            raise NoRig(row)
        told[words[0]][name_told(words)] = facts
    if not told["plate"] or not told["bar"]:
        raise NoRig(None)
    return told


def has_place(told, words):
    alike = told[words[0]]
    return name_told(words) not in alike and len(alike) < MOST_OF_SORT[words[0]]


def name_told(words):
    return PLATE_NAME if words[0] == "plate" else words[1]


# The four below tell None of words that are no line of their sort.


def line_told(words, bars):
    if words[0] == "plate":
        return numbers_told(words[1:], PLATE_NUMBERS)
    if len(words) < 2 or not is_name(words[1]):
        return None
    if words[0] == "bar":
        return bar_told(words[2:])
    if words[0] == "piece":
        return numbers_told(words[2:], PIECE_NUMBERS)
    if words[0] == "bay":
        return bay_told(words[2:], bars)
    return None


def numbers_told(words, bounds):
    if len(words) != len(bounds):
        return None
    numbers = {}
    for word, bound in zip(words, bounds):
        number = number_within(word, bound[1], bound[2])
        if number is None:
            return None
        numbers[bound[0]] = number
    return numbers


def bar_told(words):
    numbers = numbers_told(words, BAR_NUMBERS)
    if numbers is None or numbers["at"] > numbers["top"] or numbers["slack"] > numbers["hold"]:
        return None
    return numbers


def bay_told(names, bars):
    if not FEWEST_IN_BAY <= len(names) <= MOST_IN_BAY:
        return None
    lowest = 0
    for name in names:
        if name not in bars or bars[name]["at"] < lowest:
            return None
        # A bar told twice does not rise either, so this asks for unlike bars too.
        lowest = bars[name]["at"] + 1
    return tuple(names)
