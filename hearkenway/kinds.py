"""Questions about single things, which every module asks."""


def is_whole(thing):
    # Python counts True and False among its ints; here they are no numbers.
    return isinstance(thing, int) and not isinstance(thing, bool)


def is_within(thing, least, greatest):
    return is_whole(thing) and least <= thing <= greatest


def rises(row):
    """Whether each item of a list or tuple is less than the next one."""
    return all(low < high for low, high in zip(row, row[1:]))
