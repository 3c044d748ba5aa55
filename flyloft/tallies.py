"""Tallies: what the cues of a list take, and what shows that no bar carries fewer plates."""

from flyloft.chains import chain_of
from flyloft.counts import counts_of
from flyloft.errors import LoftError
from flyloft.shows import Show


def tally(rig, cues):
    show = Show(rig, cues)
    taken = []
    while show.done() < len(cues):
        try:
            deeds = show.go()
        except LoftError:
            return taken
        taken.append(turns_and_plates(deeds))
    return taken


def first_refused(rig, cues):
    done = len(tally(rig, cues))
    return done if done < len(cues) else None


def shown_by(rig, cues, bar):
    show = Show(rig, cues)
    moved = 0
    stretches = []
    for cue in cues:
        moved += plates_moved([deed for deed in show.go() if deed[1] == bar])
        stretches.append(counts_of(rig, bar, show.loft().hanging(bar)))
    return (moved, chain_of(0, stretches))


def turns_and_plates(deeds):
    return (len([deed for deed in deeds if deed[0] == "turn"]), plates_moved(deeds))


def plates_moved(deeds):
    return len([deed for deed in deeds if deed[0] in ("put", "lift")])
