"""Places: what the names that are asked about mean."""

from surelyset.errors import TooMany, UnknownName
from surelyset.kinds import is_integer, is_tuple_of

MOST_PLACES = 3


def places_of(outline, function, names):
    """The places of names that a function sees, which None does not; the error that is due if there are none."""
    if len(names) > MOST_PLACES:
        raise TooMany(MOST_PLACES)
    found = []
    for name in names:
        if not is_seen(outline, function, name):
            raise UnknownName(name)
        found.append(place_of(outline, function, name))
    return found


def is_seen(outline, function, name):
    """Whether any value is a name that a function sees, or a tuple (array, cell) of an array that it sees."""
    if is_tuple_of(name, 2):
        array, cell = name
        if array_length(outline, function, array) is None or not is_integer(cell):
            return False
        return 0 <= cell < array_length(outline, function, array)
    return isinstance(own_of(outline, function, name), str)


def own_of(outline, function, word):
    """What any value is as a word that a function sees: of a name or of an array; None if it is none."""
    if function is None or not isinstance(word, str) or word not in outline.owners[function]:
        return None
    return outline.owns[outline.owners[function][word]][word]


def array_length(outline, function, word):
    """The length of the array that any value means in a function, None if it means none."""
    own = own_of(outline, function, word)
    return own[0] if isinstance(own, tuple) else None


def place_of(outline, function, name):
    """The place of a name that the function sees."""
    if isinstance(name, str):
        return outline.owners[function][name], name
    array, cell = name
    return outline.owners[function][array], array, cell
