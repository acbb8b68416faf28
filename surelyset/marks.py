"""What parts of runs do to a few places at once, as numbers.

A code is a number with a digit of base 3 for each place, the first place lowest: 0 for keep, 1 for set, 2 for
unset. Codes are states, too; then 0 stands for none. A mask is a set of codes: the number with the bit 1 << code
for each of them. The number of places does not matter: places that are not there are kept.
"""

ENDS = ("keep", "set", "unset")
STATES = ("none", "set", "unset")
KEEP = 0
SET = 1
UNSET = 2
# The mask of the code that keeps all places, and the one of the code for one place that becomes unset.
KEPT = 1
DROPPED = 4


def code_of(digits):
    """The code with these digits."""
    code = 0
    for digit in digits[::-1]:
        code = 3 * code + digit
    return code


def digits_of(code, many):
    """The digits of a code for so many places, as a list."""
    digits = []
    for _ in range(many):
        digits.append(code % 3)
        code //= 3
    return digits


def codes_of(mask):
    """The codes in a mask, ascending."""
    codes = []
    while mask:
        lowest = mask & -mask
        codes.append(lowest.bit_length() - 1)
        mask -= lowest
    return codes


def code_followed(one, other):
    """The code of what two codes do one after the other: for each place what comes last."""
    code = 0
    weight = 1
    while one or other:
        last = other % 3
        code += weight * (one % 3 if last == KEEP else last)
        weight *= 3
        one //= 3
        other //= 3
    return code


def mask_followed(one, other):
    """The mask of what any code of one mask and any code of the other one do one after the other."""
    mask = 0
    others = codes_of(other)
    for first in codes_of(one):
        for second in others:
            mask |= 1 << code_followed(first, second)
    return mask


def thinned(code, is_left):
    """The code with those digits alone for which the list tells True."""
    digits = digits_of(code, len(is_left))
    return code_of([digit if left else KEEP for digit, left in zip(digits, is_left)])


def mapped(mask, is_left, more):
    """The mask of the codes with only those digits left, and with a code of other digits in their places."""
    told = 0
    for code in codes_of(mask):
        told |= 1 << (thinned(code, is_left) + more)
    return told


def told_rows(mask, many, words):
    """The codes of a mask as an ascending tuple of tuples, with the word for each of so many digits."""
    rows = [tuple([words[digit] for digit in digits_of(code, many)]) for code in codes_of(mask)]
    return tuple(sorted(set(rows)))


def codes_within(code):
    """The codes that keep at least the places which this one keeps, ascending."""
    codes = [0]
    weight = 1
    while code:
        if code % 3 != KEEP:
            codes = [more * weight + lower for more in range(3) for lower in codes]
        weight *= 3
        code //= 3
    return codes
