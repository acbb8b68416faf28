"""Levels of ends and of reads, and dicts from names to them."""

# From the least to the greatest one.
END_LEVELS = ("set", "keep", "unset")
READ_LEVELS = ("none", "entry", "always")


def is_at_most(levels, one, other):
    """Whether each name is in one dict at most what it is in the other one, which has the same names."""
    return all([levels.index(one[name]) <= levels.index(other[name]) for name in one])


def lesser(levels, one, other):
    """For each name the lesser of what it is in two dicts with the same names."""
    return {name: levels[min(int(levels.index(one[name])), int(levels.index(other[name])))] for name in one}


def greater(levels, one, other):
    """For each name the greater of what it is in two dicts with the same names."""
    return {name: levels[max(int(levels.index(one[name])), int(levels.index(other[name])))] for name in one}
