"""Names and numbers, as they are written in lines."""

LONGEST_NAME = 8
MOST_FIGURES = 16


def is_name(text):
    return 1 <= len(text) <= LONGEST_NAME and all_between(text, "a", "z")


def number_of(text):
    if text == "0":
        return 0
    if not 1 <= len(text) <= MOST_FIGURES or text[0] == "0":
        return None
    # int alone would also take signs, blanks, underscores and figures of other scripts.
    if not all_between(text, "0", "9"):
        return None
    return int(text)


def number_within(text, least, most):
    number = number_of(text)
    return number if number is not None and least <= number <= most else None


def all_between(text, first, last):
    return all([first <= sign <= last for sign in text])
