"""Books: cues, and the lines in which they are written."""

from flyloft.errors import NoCue
from flyloft.words import number_within

MOST_HANDS = 8
MOST_TURNS = 500
GREATEST_HEIGHT = 60


def read_book(rig, lines):
    cues = []
    for row, line in enumerate(lines):
        cue = cue_told(rig, line)
        if cue is None:
            raise NoCue(row)
        cues.append(cue)
    return cues


def cue_line(cue):
    if cue[0] == "fly":
        words = ["fly", str(cue[1]), str(cue[2])]
        for bar, height in cue[3]:
            words.extend([bar, str(height)])
        return " ".join(words)
    rows = [" ".join([bar] + list(pieces)) for bar, pieces in cue[1]]
    return "load " + " / ".join(rows)


# Those below tell None of what is no cue of the rig, or no part of one.


def cue_told(rig, line):
    parts = line.partition(" ")
    if parts[0] == "fly":
        return flight_told(rig, parts[2].split(" "))
    if parts[0] == "load":
        return load_told(rig, [row.split(" ") for row in parts[2].split(" / ")])
    return None


def flight_told(rig, words):
    if len(words) < 4:
        return None
    hands = number_within(words[0], 1, MOST_HANDS)
    turns = number_within(words[1], 0, MOST_TURNS)
    goal = goal_told(rig, words[2:])
    if hands is None or turns is None or goal is None:
        return None
    return ("fly", hands, turns, goal)


def goal_told(rig, words):
    bars = words[::2]
    heights = [number_within(word, 0, GREATEST_HEIGHT) for word in words[1::2]]
    if len(bars) != len(heights) or None in heights or not are_unlike_of(bars, rig.bars()):
        return None
    return tuple(zip(bars, heights))


def load_told(rig, rows):
    bars = [row[0] for row in rows]
    pieces = []
    for row in rows:
        pieces.extend(row[1:])
    if not are_unlike_of(bars, rig.bars()) or not are_unlike_of(pieces, rig.pieces()):
        return None
    return ("load", tuple([(row[0], tuple(row[1:])) for row in rows]))


def are_unlike_of(names, known):
    return len(set(names)) == len(names) and all([name in known for name in names])
