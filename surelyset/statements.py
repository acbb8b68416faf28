"""Whether a statement is right itself, apart from the statements within it.

The functions of the table FORMS are passed the Sight of the function, the Standing of the block,
and a tuple that begins with the word of the form.
"""

from surelyset.kinds import has_word_form, is_integer, is_list, is_sized, is_tuple_of
from surelyset.limits import MAX_DEPTH

FEWEST_BLOCKS = 2
MOST_BLOCKS = 6
MOST_HANDLERS = 16


def is_name_use(sight, standing, value):
    """Whether this is a set, drop or read."""
    return len(value) == 2 and sight.is_plain(value[1])


def is_cell_use(sight, standing, value):
    """Whether this is a put, cut or look."""
    if len(value) != 3 or not sight.is_array(value[1]):
        return False
    return is_cell(value[2], sight.length(value[1]), standing.counters)


def is_cell(value, length, counters):
    """Whether any value is a cell of an array of this length, perhaps by a counter."""
    if is_integer(value):
        return 0 <= value < length
    if not is_tuple_of(value, 2):
        return False
    counter, more = value
    if not isinstance(counter, str) or counter not in counters or not is_sized(more):
        return False
    low, high = counters[counter]
    return low >= high or (0 <= low + more and high - 1 + more < length)


def are_blocks(standing, values):
    """Whether blocks may stand here and all these are some, whatever is in them."""
    return standing.level < MAX_DEPTH and all([is_list(value) for value in values])


def is_either(sight, standing, value):
    """Whether this is an either."""
    blocks = value[1:]
    return FEWEST_BLOCKS <= len(blocks) <= MOST_BLOCKS and are_blocks(standing, blocks)


def is_free_loop(sight, standing, value):
    """Whether this is a while or an ever."""
    return len(value) == 2 and are_blocks(standing, value[1:])


def is_count(sight, standing, value):
    """Whether this is a count."""
    if len(value) != 5 or not are_blocks(standing, value[4:]):
        return False
    counter, low, high = value[1:4]
    if not has_word_form(counter) or sight.is_seen(counter) or counter in standing.counters:
        return False
    return is_sized(low) and is_sized(high)


def is_jump(sight, standing, value):
    """Whether this is a leave or a next."""
    return len(value) == 1 and standing.is_looping


def is_back(sight, standing, value):
    """Whether this is a back."""
    return len(value) == 1


def is_fail(sight, standing, value):
    """Whether this is a fail."""
    return len(value) == 2 and has_word_form(value[1])


def is_try(sight, standing, value):
    """Whether this is a try."""
    if len(value) != 4 or not is_list(value[2]) or len(value[2]) > MOST_HANDLERS:
        return False
    body, handlers, last = value[1:]
    if not all([is_handler(handler) for handler in handlers]):
        return False
    return are_blocks(standing, [body, *[block for _, block in handlers], last])


def is_handler(value):
    """Whether any value is a handler, apart from its block."""
    if not is_tuple_of(value, 2) or not is_list(value[0]):
        return False
    words = value[0]
    return all([has_word_form(word) for word in words]) and len(set(words)) == len(words)


def is_call(sight, standing, value):
    """Whether this is a call."""
    return len(value) == 2 and sight.is_callee(value[1])


FORMS = {
    "set": is_name_use, "drop": is_name_use, "read": is_name_use,
    "put": is_cell_use, "cut": is_cell_use, "look": is_cell_use,
    "either": is_either, "while": is_free_loop, "ever": is_free_loop, "count": is_count,
    "leave": is_jump, "next": is_jump, "back": is_back, "fail": is_fail,
    "try": is_try, "call": is_call,
}


def is_right(sight, standing, value):
    """Whether any value is a statement that may stand here, apart from what stands within it."""
    if not isinstance(value, tuple) or not value or not isinstance(value[0], str):
        return False
    if value[0] not in FORMS:
        return False
    form = FORMS[value[0]]
    return form(sight, standing, value)
