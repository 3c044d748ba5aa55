"""Deeds as they are kept, and what undoes them."""

CONTRARY = {
    "brake": "loose",
    "loose": "brake",
    "hang": "strike",
    "strike": "hang",
    "put": "lift",
    "lift": "put",
}


def undone(deed):
    if deed[0] == "turn":
        return ("turn", [(bar, -step) for bar, step in deed[1]])
    return (CONTRARY[deed[0]],) + deed[1:]


def backwards(deeds):
    return [undone(deed) for deed in reversed(deeds)]


# The moves of a turn are a list, which the asker might change.
def copy_of(deed):
    if deed[0] == "turn":
        return ("turn", list(deed[1]))
    return deed
