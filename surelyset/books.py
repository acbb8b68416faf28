"""Books: programs that are edited, with undoing and trials."""

from surelyset.errors import Faulty, InTrial, InvalidPlaces, OutOfRange
from surelyset.kinds import has_word_form, is_integer, is_tuple_of
from surelyset.states import faults, verdict


class Trial:
    """A trial of a book, for one with block: at its end the book becomes what it was at its beginning."""

    def __init__(self, book, entries):
        self.book = book
        self.entries = entries
        self.ended = book._ended

    def __enter__(self):
        self.history = self.book._history
        self.at = self.book._at
        self.book._begin()
        return self.book

    def __exit__(self, kind, value, trace):
        self.ended.append(True)
        self.book._history = self.history
        self.book._at = self.at
        self.entries.append(("trial",))


class Attempt:
    """An attempt at a book, for one with block: if this raises, the book becomes what it was at its beginning."""

    def __init__(self, book, entries):
        self.book = book
        self.entries = entries
        self.ended = book._ended

    def __enter__(self):
        self.history = self.book._history
        self.at = self.book._at
        self.book._begin()
        return self.book

    def __exit__(self, kind, value, trace):
        self.ended.append(True)
        if kind is None:
            self.entries.append(("attempt", True))
        else:
            self.book._history = self.history
            self.book._at = self.at
            self.entries.append(("attempt", False))


class Book:
    """A program that is edited; edits can be undone, and done again."""

    def __init__(self, program):
        # The programs of the edits that can be undone, the one of the book, and those that can be done again.
        self._history = (program,)
        self._at = 0
        # How many trials, attempts and tries were begun, and an entry for each of them that came to its end: a
        # list, as the end of a with block counts nothing down.
        self._begun = 0
        self._ended = []

    def __iter__(self):
        raise TypeError("a book is not iterated over")

    def __eq__(self, other):
        return isinstance(other, Book) and self.program == other.program

    def __getitem__(self, at):
        return self.program[at]

    def __setitem__(self, at, worth):
        self.edit(self.program.with_function(at, worth))

    @property
    def program(self):
        """The program; setting it is an edit."""
        return self._history[self._at]

    @program.setter
    def program(self, value):
        self.edit(value)

    @property
    def undoable(self):
        """The number of edits that can be undone."""
        return self._at

    @property
    def redoable(self):
        """The number of edits that can be done again."""
        return len(self._history) - 1 - self._at

    @property
    def depth(self):
        """How many trials, attempts and tries are going on."""
        return self._begun - len(self._ended)

    def edit(self, program):
        """Gives the book another program."""
        self._vet(program)
        self._history = (*self._history[:self._at + 1], program)
        self._at += 1
        self._note(("edit", program))

    def remove(self, *names):
        """An edit: the program without these functions."""
        self.edit(self.program.without(*names))

    def undo(self, count=1):
        """Undoes so many edits."""
        self._may_go(count, self.undoable)
        self._at -= count
        self._note(("undo", count))

    def redo(self, count=1):
        """Does so many edits again that were undone."""
        self._may_go(count, self.redoable)
        self._at += count
        self._note(("redo", count))

    def faults(self):
        """The faults of the program."""
        return faults(self.program)

    def verdict(self, spot, name):
        """The verdict of a name at a spot of the program."""
        return verdict(self.program, spot, name)

    def trial(self):
        """An object for a with block, at the end of which the book becomes what it was at its beginning."""
        return Trial(self, self._noted())

    def attempt(self, action):
        """Calls the action with the book; if it raises an error, the book becomes what it was before."""
        with Attempt(self, self._noted()) as book:
            told = action(book)
        return told

    def tried(self, action):
        """Calls the action with the book, which becomes what it was before in any case."""
        with Trial(self, self._noted()) as book:
            told = action(book)
        return told

    def _begin(self):
        """Counts a trial, an attempt or a try that begins; those that came to their ends are forgotten."""
        self._begun = self.depth + 1
        self._ended.clear()

    def _may_go(self, count, most):
        """Raises the error that is due where so many edits are to be undone or done again."""
        if self.depth > 0:
            raise InTrial()
        if not is_integer(count) or not 1 <= count <= most:
            raise OutOfRange(count)

    def _vet(self, program):
        """Raises the error that is due where the book may not have this program: none."""

    def _noted(self):
        """The list to which is added what was done: a new one that nobody keeps."""
        return []

    def _note(self, entry):
        """Adds what was done to this list."""
        entries = self._noted()
        entries.append(entry)


class GuardedBook(Book):
    """A book whose edits bring no faults that read one of its guards."""

    def __init__(self, program, *guards):
        for guard in guards:
            if not is_tuple_of(guard, 2) or not has_word_form(guard[0]) or not has_word_form(guard[1]):
                raise InvalidPlaces(guard)
        Book.__init__(self, program)
        self._guards = guards
        self._vet(program)

    @property
    def guards(self):
        """The guards, as they were passed."""
        return self._guards

    def _vet(self, program):
        """Raises Faulty with the first fault that reads a guard."""
        if not self._guards:
            return
        for spot, _ in faults(program):
            word = program.statement(spot)[1]
            if (program.owner(spot[0], word), word) in self._guards:
                raise Faulty(spot)


class LoggedBook(Book):
    """A book that keeps what was done."""

    def __init__(self, program):
        Book.__init__(self, program)
        self._entries = []

    @property
    def log(self):
        """What was done, in the order of ending."""
        return tuple(self._entries)

    def _noted(self):
        """The list to which is added what was done: the one for the log."""
        return self._entries


class GuardedLoggedBook(GuardedBook, LoggedBook):
    """A book with guards that keeps what was done."""

    def __init__(self, program, *guards):
        GuardedBook.__init__(self, program, *guards)
        self._entries = []

    @property
    def guards(self):
        """The guards, as they were passed."""
        return self._guards

    @property
    def log(self):
        """What was done, in the order of ending."""
        return tuple(self._entries)
