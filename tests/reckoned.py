"""What the tests of racks share: a plain reckoning of what a rack must hold, and looks at racks."""

import re

from switchkinds import errors

LINE = re.compile(r"([a-z]{1,4}) = ((0):([01]{1})|(1):([01]{2})|(2):([01]{4})|(3):([01]{8})|(4):([01]{16}))")
JOINS = {"both": (0, 0, 1), "either": (0, 1, 1), "unlike": (0, 1, 0)}


def text_by_words(held):
    """The text of a rack that holds these functions by labels."""
    lines = []
    for label in sorted(held):
        many, worths = held[label]
        lines.append(label + " = " + str(many) + ":" + "".join(str(worth) for worth in worths) + "\n")
    return "".join(lines)


def read_by_words(text):
    """The functions by labels of which this is the writing, None where there are none."""
    if text and not text.endswith("\n"):
        return None
    held = {}
    last = ""
    for line in text.split("\n")[:-1]:
        fits = LINE.fullmatch(line)
        if fits is None or not last < fits.group(1):
            return None
        last = fits.group(1)
        held[last] = (int(fits.group(2)[0]), tuple(int(sign) for sign in fits.group(2)[2:]))
    return held


def is_label_by_words(thing):
    letters = "abcdefghijklmnopqrstuvwxyz"
    return isinstance(thing, str) and len(thing) in (1, 2, 3, 4) and all(sign in letters for sign in thing)


class Reckoned:
    """All states that a rack went through, kept whole, and the place among them."""

    def __init__(self):
        self.states = [{}]
        self.words = []
        self.place = 0

    def held(self):
        return self.states[self.place]

    def counts(self):
        return (self.place, len(self.words) - self.place)

    def do(self, asked):
        """What must be told, or the refusal that must come, a class."""
        word, handed = asked[0], asked[1:]
        if word == "back":
            if self.place == 0:
                return errors.NoBack
            self.place -= 1
            return self.words[self.place]
        if word == "forth":
            if self.place == len(self.words):
                return errors.NoBack
            self.place += 1
            return self.words[self.place - 1]
        held = dict(self.held())
        told = {"put": put, "take": take, "join": join, "turn": turn}[word](held, *handed)
        if not isinstance(told, type):
            self.words = self.words[:self.place] + [word]
            self.states = self.states[:self.place + 1] + [held]
            self.place += 1
        return told


def put(held, label, switch):
    had = label in held
    held[label] = switch
    return had


def take(held, label):
    if label not in held:
        return errors.NoLabel
    return held.pop(label)


def join(held, label, word, one, other):
    if one not in held or other not in held:
        return errors.NoLabel
    if held[one][0] != held[other][0]:
        return errors.Unlike
    ones = [here + there for here, there in zip(held[one][1], held[other][1])]
    held[label] = (held[one][0], tuple(JOINS[word][count] for count in ones))
    return held[label]


def turn(held, label):
    if label not in held:
        return errors.NoLabel
    held[label] = (held[label][0], tuple(1 if worth == 0 else 0 for worth in held[label][1]))
    return held[label]


def do(rack, asked):
    """What the rack tells, or the class of its refusal."""
    word, handed = asked[0], asked[1:]
    try:
        return getattr(rack, word)(*handed)
    except errors.SwitchError as refusal:
        return type(refusal)


def shown(rack):
    """What the rack holds now, and how many steps it has."""
    return repr(({label: rack.switch_of(label) for label in rack.labels()}, rack.counts()))


def walked(rack):
    """All that can be seen of a rack, step by step back and forth, behind which it is as it was."""
    seen = [shown(rack)]
    behind, ahead = rack.counts()
    for word, times in (("back", behind), ("forth", behind + ahead), ("back", ahead)):
        for step in range(times):
            seen.append(repr(do(rack, (word,))))
            seen.append(shown(rack))
    return seen
