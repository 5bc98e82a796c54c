"""Whole numbers, names and figures: of any thing, whether it is one."""

LETTERS = "abcdefghijklmnopqrstuvwxyz"
FIGURES = "0123456789"
NAME_SIGNS = "abcdefghijklmnopqrstuvwxyz0123456789"
GROUP_SIGNS = "abcdefghijklmnopqrstuvwxyz0123456789."
LONGEST_NAME = 8
LONGEST_GROUP_NAME = 12
MOST_FIGURES = 4


def is_whole(thing):
    # True and False are ints to Python, and no numbers here.
    return isinstance(thing, int) and not isinstance(thing, bool)


def is_within(thing, low, high):
    return is_whole(thing) and low <= thing <= high


def is_text_of(thing, longest, signs):
    if not isinstance(thing, str) or not 1 <= len(thing) <= longest:
        return False
    return all([sign in signs for sign in thing])


def is_name(thing):
    return is_text_of(thing, LONGEST_NAME, NAME_SIGNS) and thing[0] in LETTERS


def is_group_name(thing):
    return is_text_of(thing, LONGEST_GROUP_NAME, GROUP_SIGNS) and thing[0] in LETTERS


def number_of(thing):
    if not is_text_of(thing, MOST_FIGURES, FIGURES):
        return None
    if thing[0] == "0" and thing != "0":
        return None
    return int(thing)
