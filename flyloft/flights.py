"""Flights: turns that lead bars straight to a goal, as few as so many hands can do it in."""

from flyloft.bays import ask_clear
from flyloft.errors import TooFar, TooFew


def flight(rig, heights, drops, goal, hands):
    in_the_end = dict(heights)
    in_the_end.update(goal)
    ask_clear(rig, in_the_end, drops)
    left = ways_left(rig, heights, in_the_end)
    turns = []
    while any(left.values()):
        moves = farthest_moves(rig, left, hands)
        for bar, step in moves:
            left[bar] -= step
        turns.append(moves)
    return turns


def timely(rig, heights, drops, goal, hands, turns):
    fewest = flight(rig, heights, drops, goal, hands)
    if len(fewest) > turns:
        ask_near(rig, heights, goal, turns)
        ways = [abs(goal[bar] - heights[bar]) for bar in goal]
        raise TooFew(sum(ways) - hands * turns)
    return fewest


def ask_near(rig, heights, goal, turns):
    for bar in rig.bars():
        way = abs(goal.get(bar, heights[bar]) - heights[bar])
        if way > turns:
            raise TooFar(bar, way - turns)


# A way left is above 0 where the bar has to go up, below 0 where it has to go down.
def ways_left(rig, heights, in_the_end):
    left = {}
    for bar in rig.bars():
        left[bar] = in_the_end[bar] - heights[bar]
    return left


# Of two bars of a bay that go the same way the one ahead is never left behind where it has as far to go as the other
# one or farther; so they come no nearer to one another than they are in the end.
def farthest_moves(rig, left, hands):
    def urgency(bar):
        # Of those with as far to go, going up the upper one stands in the other's way, going down the lower one. In
        # each bay the AT of the bars rises, so it tells which is which.
        return (-abs(left[bar]), -step_of(left[bar]) * rig.at(bar))

    going = [bar for bar in rig.bars() if left[bar] != 0]
    return [(bar, step_of(left[bar])) for bar in sorted(going, key=urgency)[:hands]]


def step_of(way):
    return 1 if way > 0 else -1
