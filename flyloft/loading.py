"""Orders: how a braked bar is led from some pieces and plates to others so that its brake holds."""

from flyloft.counts import ask_held
from flyloft.errors import TooHeavy
from flyloft.leans import lean_of, pull_of


def order(rig, bar, pieces, plates, goal, count):
    hung = [piece for piece in goal if piece not in pieces]
    struck = [piece for piece in pieces if piece not in goal]
    ask_light(rig, bar, hung + struck, plates != count)
    ask_held(rig, bar, pieces, plates)
    ask_held(rig, bar, goal, count)
    # Each is a deed with what it adds to the lean, or takes from it; a list taken less than once is empty.
    raising = [(("hang", bar, piece), pull_of(rig, bar, [piece])) for piece in hung]
    raising += [(("lift", bar), rig.plate())] * (plates - count)
    lowering = [(("strike", bar, piece), pull_of(rig, bar, [piece])) for piece in struck]
    lowering += [(("put", bar), rig.plate())] * (count - plates)
    return mingled(lean_of(rig, bar, pieces, plates), raising, lowering)


def ask_light(rig, bar, pieces, with_plates):
    for piece in pieces:
        if pull_of(rig, bar, [piece]) > rig.hold(bar):
            raise TooHeavy(bar, piece)
    if with_plates and rig.plate() > rig.hold(bar):
        raise TooHeavy(bar, None)


# A deed against the sign of the lean leaves it within the hold, as none alone is greater than that. Where only deeds
# with its sign are left, the lean goes straight on to the last one, which is held.
def mingled(lean, raising, lowering):
    deeds = []
    raised = 0
    lowered = 0
    while raised < len(raising) or lowered < len(lowering):
        if lowered < len(lowering) and (lean > 0 or raised == len(raising)):
            step = lowering[lowered]
            lean -= step[1]
            lowered += 1
        else:
            step = raising[raised]
            lean += step[1]
            raised += 1
        deeds.append(step[0])
    return deeds
