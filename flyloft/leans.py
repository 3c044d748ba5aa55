"""Loads, drops, pulls and leans: how hard a bar is drawn down, and how far what hangs from it reaches."""


def load_of(rig, pieces):
    return sum([rig.weight(piece) for piece in pieces])


def drop_of(rig, pieces):
    return max([rig.drop(piece) for piece in pieces], default=0)


def pull_of(rig, bar, pieces):
    return rig.pull(bar) * load_of(rig, pieces)


def lean_of(rig, bar, pieces, plates):
    return pull_of(rig, bar, pieces) - plates * rig.plate()
