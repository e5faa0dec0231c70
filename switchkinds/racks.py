"""Racks: functions by labels, whose steps go back and forth, and their texts."""

from switchkinds.errors import NoBack, NoLabel, NoText
from switchkinds.switches import both, check_switch, either, turned, unlike
from switchkinds.texts import check_text, read_switch, switch_text

LONGEST_LABEL = 4
BETWEEN = " = "


def is_label(thing):
    """Whether any thing is a text of 1 to 4 letters a to z."""
    if not isinstance(thing, str) or not 1 <= len(thing) <= LONGEST_LABEL:
        return False
    return all(["a" <= sign <= "z" for sign in thing])


def check_label(thing):
    """NoLabel of what is no label."""
    if not is_label(thing):
        raise NoLabel("this is no label")


def joined(word, one, other):
    """What the function of the word tells of two functions."""
    if word == "both":
        return both(one, other)
    if word == "either":
        return either(one, other)
    if word == "unlike":
        return unlike(one, other)
    raise NoLabel("there is no such word")


class Rack:
    """Functions by labels."""

    def __init__(self):
        self.held = {}
        # A step is a tuple of its word, its label, and the label's function ahead of it and behind it, None for none.
        self.done = []
        self.undone = []

    def set_to(self, label, switch):
        """Gives the label the function; None takes the label's one away."""
        if switch is None:
            self.held.pop(label)
        else:
            self.held[label] = switch

    def do(self, word, label, switch):
        """Does a new step, behind which nothing can be done again."""
        self.done.append((word, label, self.held.get(label), switch))
        self.undone = []
        self.set_to(label, switch)

    def put(self, label, switch):
        """Gives the label the function; tells whether it had one."""
        check_switch(switch)
        check_label(label)
        had = label in self.held
        self.do("put", label, switch)
        return had

    def switch_of(self, label):
        """The function that has the label."""
        # What is no label may be what no dict can look up.
        check_label(label)
        if label not in self.held:
            raise NoLabel("no function has this label")
        return self.held[label]

    def take(self, label):
        """Takes the function that has the label away, and tells it."""
        switch = self.switch_of(label)
        self.do("take", label, None)
        return switch

    def join(self, label, word, one, other):
        """Gives the label what the function of the word tells of the functions of two labels, and tells it."""
        check_label(label)
        switch = joined(word, self.switch_of(one), self.switch_of(other))
        self.do("join", label, switch)
        return switch

    def turn(self, label):
        """Turns the function that has the label, and tells it."""
        switch = turned(self.switch_of(label))
        self.do("turn", label, switch)
        return switch

    def labels(self):
        """All labels that have functions, rising."""
        return sorted(self.held)

    def like(self, label):
        """All other labels that have the same function, rising."""
        switch = self.switch_of(label)
        return [other for other in self.labels() if other != label and self.held[other] == switch]

    def back(self):
        """Takes the last step back, and tells its word."""
        if self.done == []:
            raise NoBack("there is no step to take back")
        step = self.done.pop()
        self.undone.append(step)
        self.set_to(step[1], step[2])
        return step[0]

    def forth(self):
        """Does the step again that was taken back last, and tells its word."""
        if self.undone == []:
            raise NoBack("there is no step to do again")
        step = self.undone.pop()
        self.done.append(step)
        self.set_to(step[1], step[3])
        return step[0]

    def counts(self):
        """How many steps can be taken back, and how many done again."""
        return (len(self.done), len(self.undone))

    def twin(self):
        """A rack that is as this one; from then on each goes by itself."""
        other = Rack()
        other.held = dict(self.held)
        other.done = list(self.done)
        other.undone = list(self.undone)
        return other


def rack_text(rack):
    """The text of a rack: a line for each label, rising."""
    return "".join([label + BETWEEN + switch_text(rack.switch_of(label)) + "\n" for label in rack.labels()])


def read_rack(text):
    """The rack that is written so, without steps."""
    check_text(text)
    rack = Rack()
    for line in text.split("\n")[:-1]:
        parts = line.partition(BETWEEN)
        if not is_label(parts[0]):
            raise NoText("no label is written so")
        rack.held[parts[0]] = read_switch(parts[2])
    # Labels that come twice or do not rise, and a last line without its end, are not as the rack is written.
    if rack_text(rack) != text:
        raise NoText("no rack is written so")
    return rack
