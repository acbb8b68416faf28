"""Frames: the names of functions in single calls of them."""


class Frame:
    """The own names of a function in one call of it, and the frame on which this one hangs, or None."""

    def __init__(self, word, own, around):
        self.word = word
        self.own = own
        self.around = around
        # Only what was changed: an array may have more cells than can be gone through.
        self.changed = {}

    def frame_of(self, word):
        """The frame of this function that is seen here."""
        frame = self
        while frame.word != word:
            frame = frame.around
        return frame

    def change(self, place, is_set):
        """Makes an own name, or a cell as a tuple (array, cell), set or unset."""
        self.changed[place] = is_set

    def is_set(self, place):
        """Whether an own name, or a cell as a tuple (array, cell), is set."""
        if place in self.changed:
            return self.changed[place]
        return is_given(self.own, place)


def is_given(own, place):
    """Whether a name, or a cell as a tuple (array, cell), of a dict of own names is given."""
    if isinstance(place, str):
        return own[place] == "given"
    array, cell = place
    return any([first <= cell < behind for first, behind in own[array][1]])
