"""A number parted among some, which both counts and turns need."""


def parted_up(number, parts):
    return (number + parts - 1) // parts
