"""Levels of ends and of reads, and dicts from names to them."""

# From the least to the greatest one. Operators run what stands here, so nothing here calls `index`: objects of the
# package store something under that name.
END_LEVELS = ("set", "keep", "unset")
READ_LEVELS = ("none", "entry", "always")


def lesser_level(levels, one, other):
    """The lesser one of two levels."""
    return [level for level in levels if level in (one, other)][0]


def greater_level(levels, one, other):
    """The greater one of two levels."""
    return [level for level in levels if level in (one, other)][-1]


def is_at_most(levels, one, other):
    """Whether each name is in one dict at most what it is in the other one, which has the same names."""
    return all([lesser_level(levels, one[name], other[name]) == one[name] for name in one])


def lesser(levels, one, other):
    """For each name the lesser of what it is in two dicts with the same names."""
    return {name: lesser_level(levels, one[name], other[name]) for name in one}


def greater(levels, one, other):
    """For each name the greater of what it is in two dicts with the same names."""
    return {name: greater_level(levels, one[name], other[name]) for name in one}
