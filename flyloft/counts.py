"""Balance and hold, and the numbers of plates with which a bar is in balance."""

from flyloft.errors import Unbalanced, Unheld
from flyloft.leans import lean_of, pull_of
from flyloft.parts import parted_up


def is_balanced(rig, bar, pieces, plates):
    return abs(lean_of(rig, bar, pieces, plates)) <= rig.slack(bar)


def is_held(rig, bar, pieces, plates):
    return abs(lean_of(rig, bar, pieces, plates)) <= rig.hold(bar)


def ask_held(rig, bar, pieces, plates):
    if not is_held(rig, bar, pieces, plates):
        raise Unheld(bar, abs(lean_of(rig, bar, pieces, plates)) - rig.hold(bar))


def counts_of(rig, bar, pieces):
    pull = pull_of(rig, bar, pieces)
    least = parted_up(max(0, pull - rig.slack(bar)), rig.plate())
    most = (pull + rig.slack(bar)) // rig.plate()
    if least > most:
        raise Unbalanced(bar, "plate", nearest_lean(pull, rig.plate()) - rig.slack(bar))
    if least > rig.room(bar):
        raise Unbalanced(bar, "room", least - rig.room(bar))
    return (least, min(most, rig.room(bar)))


# The number of plates that comes nearest may leave the scenery too heavy or the plates.
def nearest_lean(pull, plate):
    return min(pull % plate, plate - pull % plate)
