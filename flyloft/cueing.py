"""The deeds of a cue: what a loft at rest has to do so that the cue is done and the loft at rest again."""

from flyloft.bays import ask_clear
from flyloft.counts import counts_of, is_balanced
from flyloft.errors import Taken
from flyloft.flights import timely
from flyloft.leans import drop_of
from flyloft.loading import order
from flyloft.paths import nearest


def at_rest(loft):
    return all([is_at_rest(loft, bar) for bar in loft.rig().bars()])


def is_at_rest(loft, bar):
    return loft.braked(bar) and is_balanced(loft.rig(), bar, loft.hanging(bar), loft.plates(bar))


def deeds_of(loft, cue):
    if cue[0] == "fly":
        return flight_deeds(loft, cue[1], cue[2], dict(cue[3]))
    return load_deeds(loft, cue[1])


def flight_deeds(loft, hands, turns, goal):
    flown = timely(loft.rig(), loft.heights(), loft.drops(), goal, hands, turns)
    going = [bar for bar in goal if goal[bar] != loft.height(bar)]
    loosed = [("loose", bar) for bar in going]
    braked = [("brake", bar) for bar in going]
    return loosed + [("turn", moves) for moves in flown] + braked


# While a bar is loaded what hangs from it reaches no farther down than what hung or what shall hang. So where it is
# clear with all rows done, each single deed is clear, too.
def load_deeds(loft, rows):
    deeds = []
    drops = loft.drops()
    for bar, pieces in rows:
        deeds.extend(row_deeds(loft, bar, list(pieces)))
        drops[bar] = drop_of(loft.rig(), pieces)
    ask_clear(loft.rig(), loft.heights(), drops)
    return deeds


def row_deeds(loft, bar, pieces):
    ask_free(loft, bar, pieces)
    plates = loft.plates(bar)
    count = nearest(plates, counts_of(loft.rig(), bar, pieces))
    return order(loft.rig(), bar, loft.hanging(bar), plates, pieces, count)


def ask_free(loft, bar, pieces):
    for piece in pieces:
        for other in loft.rig().bars():
            if other != bar and piece in loft.hanging(other):
                raise Taken(piece, other)
