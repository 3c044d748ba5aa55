"""Bays: which bars stand out of their bounds, and which meet."""

from flyloft.errors import Meets, Out


def first_out(rig, heights, drops):
    for bar in rig.bars():
        if not drops[bar] <= heights[bar] <= rig.top(bar):
            return bar
    return None


def first_meet(rig, heights, drops):
    for bay in rig.bays():
        bars = rig.bay(bay)
        for low, high in zip(bars, bars[1:]):
            if heights[high] - drops[high] <= heights[low]:
                return (low, high)
    return None


def ask_clear(rig, heights, drops):
    bar = first_out(rig, heights, drops)
    if bar is not None:
        raise Out(bar)
    pair = first_meet(rig, heights, drops)
    if pair is not None:
        raise Meets(pair[0], pair[1])
