"""What is needed to take the finally blocks out of a program: its words, and how its trys end."""

from surelyset.blocks import handler_at
from surelyset.diagrams import Diagrams
from surelyset.kinds import LETTERS
from surelyset.outlines import Outline
from surelyset.studies import Study

JUMPS = ("leave", "next", "back")
DONE = "done"


class Endings:
    """The endings of a program.

    fail_words are the words of its fail statements. codes is a dict from the outcomes done, leave, next and back to
    the words that stand for them.
    """

    def __init__(self, functions):
        self.outline = Outline(functions)
        self.effects = Study(self.outline, Diagrams(), []).effects
        fails = {}
        named = {}
        for node in self.outline.nodes:
            if node.word == "fail":
                fails[node.row[1]] = True
            if node.word == "try":
                for words, _ in node.row[2]:
                    named.update({word: True for word in words})
        self.fail_words = tuple(sorted(set(fails)))
        outcomes = (DONE, *JUMPS)
        self.codes = {outcome: word for outcome, word in zip(outcomes, free_words({**fails, **named}, len(outcomes)))}

    def handlers_of(self, node):
        """Tuples (words, part) for the handlers of a try, none of them without words."""
        found = []
        for (words, _), part in zip(node.row[2], node.parts[1:]):
            if words or self.fail_words:
                found.append((words if words else self.fail_words, part))
        return found

    def ways_out(self, node):
        """The outcomes of a try without its finally block: done, leave, next, back, then failures by their words."""
        found = {}
        for outcome in self.effects.of_part(node.parts[0]):
            at = handler_at(node.row[2], outcome)
            told = {outcome: True} if at is None else self.effects.of_part(node.parts[at + 1])
            found.update({one: True for one in told})
        first = [outcome for outcome in (DONE, *JUMPS) if outcome in found]
        return [*first, *sorted(set([outcome for outcome in found if outcome not in first]))]


def has_last(node):
    """Whether a try has a finally block."""
    return len(node.parts) == len(node.row[2]) + 2


def free_words(used, many):
    """The first ones of the words a, b, .. z, aa, ab, .. that are not used."""
    found = []
    number = 0
    while len(found) < many:
        number += 1
        word = word_of(number)
        if word not in used:
            found.append(word)
    return found


def word_of(number):
    """The word with this number, from 1 on."""
    word = ""
    while number > 0:
        number -= 1
        word = LETTERS[number % len(LETTERS)] + word
        number //= len(LETTERS)
    return word
