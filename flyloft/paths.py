"""Paths of plates: one count for each rest, each within the stretch of its rest."""


def nearest(count, stretch):
    return min(max(count, stretch[0]), stretch[1])


def lazy(begin, stretches):
    path = []
    count = begin
    for stretch in stretches:
        count = nearest(count, stretch)
        path.append(count)
    return path


def carried(begin, path):
    return sum([abs(later - earlier) for earlier, later in zip([begin] + path, path)])
