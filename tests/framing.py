"""A second reading of free spots and unset ways: all runs step by step, with what each frame of a function has seen."""

from tests.makers import SmallMaker
from tests.stepping import Stepper, parts_of


class FrameStepper(Stepper):
    """Tells for a function and one of its names what runs do from one free spot of a frame to the next one.

    starts are the spots at which unset ways begin, pairs those between which the name is neither set nor dropped,
    lasts those from which it is then read. is_hopeless tells whether it is dropped and read with none between.
    """

    def __init__(self, functions, name, word, **more):
        self.name, self.word = name, word
        self.starts, self.pairs, self.lasts, self.is_hopeless = set(), set(), set(), False
        Stepper.__init__(self, functions, [(name, word)], **more)

    def is_free(self, path):
        block = self.functions[self.name][2]
        for at, part in zip(path[::2], path[1::2]):
            if block[at][0] == "try" and part == len(block[at][2]) + 1:
                return False
            block = parts_of(block[at])[part]
        return True

    # A worth is a tuple (is set, last free spot, what was done since).

    def call(self, rest, frames, called, link):
        outcome, tasks, frames = Stepper.call(self, rest, frames, called, link)
        name, link, worths = frames[-1]
        if name == self.name:
            worths = tuple((key, (worth, None, "keep")) for key, worth in worths)
        return outcome, tasks, (*frames[:-1], (name, link, worths))

    def worth(self, frame, frames):
        while frame is not None and frames[frame][0] != self.name:
            frame = frames[frame][1]
        return None if frame is None else frames[frame][2][0][1]

    def states(self, name, frame, frames):
        return ()

    def go_on(self, task, rest, frames):
        _, (name, path, counters, frame), at = task
        if name == self.name and self.is_free((*path, at)):
            spot = (name, (*path, at))
            is_set, last, done = self.worth(frame, frames)
            if not is_set and (last is None or done == "unset"):
                self.starts.add(spot)
            if last is not None and done == "keep":
                self.pairs.add((last, spot))
            _, link, _ = frames[frame]
            worths = ((self.word, (is_set, spot, "keep")),)
            frames = (*frames[:frame], (name, link, worths), *frames[frame + 1:])
        return Stepper.go_on(self, task, rest, frames)

    def begin(self, statement, place, rest, frames):
        name, _, _, frame = place
        if statement == ("read", self.word) and self.owner(name) == self.name:
            is_set, last, done = self.worth(frame, frames)
            if done == "keep":
                self.lasts.add(last)
            self.is_hopeless = self.is_hopeless or done == "unset"
        return Stepper.begin(self, statement, place, rest, frames)

    def owner(self, name):
        while self.word not in self.functions[name][1]:
            name = self.functions[name][0]
        return name

    def change(self, statement, counters, frame, frames):
        if statement[1] != self.word or self.owner(frames[frame][0]) != self.name:
            return frames
        while frames[frame][0] != self.name:
            frame = frames[frame][1]
        name, link, ((_, (_, last, _)),) = frames[frame]
        done = "set" if statement[0] == "set" else "unset"
        return (*frames[:frame], (name, link, ((self.word, (done == "set", last, done)),)), *frames[frame + 1:])

    def is_unset_way(self, way):
        return way[0] in self.starts and way[-1] in self.lasts and set(zip(way, way[1:])) <= self.pairs


class OneNameMaker(SmallMaker):
    """Programs in which most statements are about names called x."""

    def names(self):
        if self.chance.random() < 0.4:
            return {}
        return {"x": self.chance.choice(["plain", "plain", "given"])}

    def simple(self, kind, body, depth, looping, counts):
        if kind in ("jump", "call") or "x" not in body.seen:
            return SmallMaker.simple(self, kind, body, depth, looping, counts)
        statement = self.chance.choice(["set", "drop", "read", "read", "read"]), "x"
        return self.perhaps(statement, depth) if self.chance.random() < 0.4 else statement
