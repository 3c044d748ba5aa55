"""Turns: moves that are done at once, and how many of them some ways take."""

from flyloft.bays import ask_clear
from flyloft.parts import parted_up


def turned(rig, heights, drops, moves):
    behind = dict(heights)
    for bar, step in moves:
        behind[bar] += step
    ask_clear(rig, behind, drops)
    return behind


def least_turns(ways, hands):
    return max(max(ways, default=0), parted_up(sum(ways), hands))


def least_hands(ways, turns):
    if max(ways, default=0) > turns:
        return None
    # In no turns at all no way is left to go, so one hand is enough.
    if turns == 0:
        return 1
    return max(1, parted_up(sum(ways), turns))
