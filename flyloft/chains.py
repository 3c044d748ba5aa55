"""Chains of rests: what shows that no path of plates carries less."""

from flyloft.paths import lazy


def gap(one, other):
    return max(0, one[0] - other[1], other[0] - one[1])


def worth(begin, stretches, chain):
    from_begin = [(begin, begin)] + stretches
    linked = [from_begin[number] for number in chain]
    return sum([gap(one, other) for one, other in zip(linked, linked[1:])])


# Where the lazy path last rose before it falls, it stands at the least of that stretch; where it last fell before it
# rises, at the most. So what it carries from one such rest to the next is the gap between their stretches.
def chain_of(begin, stretches):
    chain = [0]
    rising = None
    count = begin
    for number, later in enumerate(lazy(begin, stretches), start=1):
        if later == count:
            continue
        if rising == (later > count):
            chain[-1] = number
        else:
            chain.append(number)
        rising = later > count
        count = later
    return chain
