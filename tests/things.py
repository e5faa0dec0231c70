"""What the tests share: things of all kinds, functions and moves by the document's words, and how to ask."""

import itertools
import re

from switchkinds import errors

# Written forms tell True from 1 and a list from a tuple, which `==` does not always do.
SWITCH_FORMS = [
    re.compile(r"\(0, \([01],\)\)"),
    re.compile(r"\(1, \([01], [01]\)\)"),
    re.compile(r"\(2, \((?:[01], ){3}[01]\)\)"),
    re.compile(r"\(3, \((?:[01], ){7}[01]\)\)"),
    re.compile(r"\(4, \((?:[01], ){15}[01]\)\)"),
]


def written_as_switch(thing):
    return any(form.fullmatch(repr(thing)) for form in SWITCH_FORMS)


def moves_by_words(many):
    """All moves of so many names, in Python's order of tuples."""
    return sorted(itertools.product(
        itertools.permutations(range(many)), itertools.product((0, 1), repeat=many), (0, 1)))


MOVE_FORMS = [{repr(move) for move in moves_by_words(many)} for many in range(5)]


def written_as_move(many, thing):
    return repr(many) in ("0", "1", "2", "3", "4") and repr(thing) in MOVE_FORMS[many]


def terms_by_words(many):
    """All terms of so many names, in the document's order."""
    return list(itertools.product((0, 1, None), repeat=many))


TERM_FORMS = [{repr(term) for term in terms_by_words(many)} for many in range(5)]


def written_as_term(many, thing):
    return repr(many) in ("0", "1", "2", "3", "4") and repr(thing) in TERM_FORMS[many]


def settings_by_words(many):
    """All settings by their numbers: name 0 changes with each, the last name just once."""
    return [setting[::-1] for setting in itertools.product((0, 1), repeat=many)]


def number_by_words(setting):
    return sum(weight for weight, part in zip((1, 2, 4, 8), setting) if part == 1)


def worth_by_words(switch, setting):
    return switch[1][number_by_words(setting)]


def moved_by_words(switch, move):
    """The document's words, setting by setting and name by name."""
    many, worths = switch
    order, turns, whole = move
    told = []
    for setting in settings_by_words(many):
        looked_up = []
        for place in range(many):
            part = setting[order[place]]
            if turns[place] == 1:
                part = 1 if part == 0 else 0
            looked_up.append(part)
        worth = worths[number_by_words(looked_up)]
        if whole == 1:
            worth = 1 if worth == 0 else 0
        told.append(worth)
    return (many, tuple(told))


def switches_by_words(many):
    """All functions of 0 to 3 names, rising by worths."""
    return [(many, worths) for worths in itertools.product((0, 1), repeat=2 ** many)]


def some_switches(many, step=None):
    """All functions of few names; of 4 names (or by a step) every so many-th, and the last one."""
    if step is None:
        step = 1 if many < 4 else 251
    last = 2 ** 2 ** many - 1
    return [(many, tuple(number >> place & 1 for place in range(2 ** many)))
            for number in sorted(set(range(0, last, step)) | {last})]


def some_moves(many):
    """All moves of few names; of 4 names every 7th, which takes all orders, turns and wholes in turn."""
    return moves_by_words(many)[::7 if many == 4 else 1]


PLAIN = [
    0, 1, -1, 2, 3, 4, 5, 6, 7, 8, 15, 16, 17, 31, 32, -2, -16, 10 ** 30, -10 ** 30, 2 ** 64,
    True, False, None, "", "0", "1", "01", "2:0110", "(0, (0,))", "many",
]


def deep(part, depth, kinds):
    for level in range(depth):
        part = kinds[level % len(kinds)]([part])
    return part


def wild_things():
    """Things of all kinds that are made without a look at functions or moves, some five deep."""
    found = list(PLAIN)
    found += [[], (), [[]], [()], ([],), ((),), ((), ()), ((), (), 0), ((), (), 1), ((), (), False), ([], [], 0)]
    for part in (0, 1, True, None, "1", 10 ** 30):
        for depth in range(1, 6):
            found += [deep(part, depth, (tuple,)), deep(part, depth, (list,)), deep(part, depth, (tuple, list))]
    for pair in itertools.product((0, 1, 2, True, None, "0", (), (0,), [0], (0, 1), (True,)), repeat=2):
        found += [pair, list(pair)]
    return found


def near_things(thing):
    """Things that are as this nested tuple but for one place, at any depth, and some equal but of other kinds."""
    yield thing
    yield from PLAIN
    if isinstance(thing, tuple):
        yield list(thing)
        yield thing + (0,)
        yield thing + ((),)
        yield thing + thing
        yield thing[:-1]
        yield (thing,)
        yield [thing]
        for place, part in enumerate(thing):
            for changed in near_things(part):
                yield thing[:place] + (changed,) + thing[place + 1:]
    else:
        yield bool(thing)
        yield (thing,)
        yield [thing]
        yield [[[[[thing]]]]]


SOME_SWITCHES = [(0, (0,)), (0, (1,)), (1, (0, 1)), (2, (0, 1, 1, 0)), (3, (1, 0, 0, 1, 0, 1, 1, 0)),
                 (4, (0, 1, 1, 0, 1, 0, 0, 1, 1, 1, 1, 1, 0, 0, 0, 0))]
SOME_MOVES = [((), (), 0), ((), (), 1), ((0,), (1,), 0), ((1, 0), (0, 1), 1), ((1, 2, 0), (1, 0, 0), 1),
              ((3, 0, 2, 1), (0, 1, 1, 0), 0)]
# Made as the document says, but of a number of names that can't be.
TOO_MANY = [(5, (0, 1) * 16), (-1, (0,)), (-1, ()), (6, (1,) * 64)]
TOO_LONG = [((0, 1, 2, 3, 4), (0, 0, 0, 0, 0), 0), ((4, 3, 2, 1, 0), (1, 0, 1, 0, 1), 1)]


def all_things():
    found = wild_things() + TOO_MANY + TOO_LONG
    for thing in SOME_SWITCHES + SOME_MOVES:
        found += list(near_things(thing))
    return list({repr(thing): thing for thing in found}.values())


THINGS = all_things()
NO_SWITCHES = [thing for thing in THINGS if not written_as_switch(thing)]


def no_moves(many):
    return [thing for thing in THINGS if not written_as_move(many, thing)]


def no_wholes(least, most):
    """Things that are no whole numbers from the least to the most."""
    fitting = [str(number) for number in range(least, most + 1)]
    return [thing for thing in THINGS if repr(thing) not in fitting]


def no_settings(many):
    fitting = [repr(setting) for setting in settings_by_words(many)]
    near = [thing for setting in settings_by_words(many) for thing in near_things(setting)]
    return [thing for thing in THINGS + near if repr(thing) not in fitting]


SIGNS = "".join(chr(number) for number in range(ord(" "), ord("~") + 1)) + "\n"


def spoilt(text, signs=SIGNS):
    """Texts that come of this one: signs put in, taken out, exchanged; stretches and lines left out, twice, moved."""
    places = range(len(text) + 1)
    for place in places:
        for sign in signs:
            yield text[:place] + sign + text[place:]
            yield text[:place] + sign + text[place + 1:]
        yield text[:place] + text[place:place + 2][::-1] + text[place + 2:]
        for end in places[place + 1:]:
            yield text[:place] + text[end:]
            yield text[:end] + text[place:]
            yield text[place:end]
    lines = text.split("\n")
    for one, other in itertools.combinations(range(len(lines)), 2):
        changed = list(lines)
        changed[one], changed[other] = changed[other], changed[one]
        yield "\n".join(changed)
        yield "\n".join(lines[:one] + lines[other:])
        yield "\n".join(lines[:other] + lines[one:])
    for old, new in ((" ", ""), (" ", "  "), (" ", "\n"), ("\n", ""), ("\n", " "), ("\n", "\n\n"), ("\n", " \n"),
                     (":", ""), (":", "::"), (":", " : "), ("=", "!"), ("=", "=="), ("-", "--"), ("-", "- "),
                     ("0", "00"), ("1", "01"), ("1", "+1"), ("1", "True"), ("0", "O"), ("1", "l"), ("0", "-0"),
                     ("2", "02")):
        yield text.replace(old, new)
        yield text.replace(old, new, 1)
    yield from (text.upper(), text.strip(), text[::-1], text + text, " " + text, text + " ", text + "\n", "\n" + text)


class Asking:
    """Ways to ask, for a TestCase."""

    def same(self, told, wanted):
        """Equal, and of the same kinds at every depth."""
        if repr(told) != repr(wanted):
            self.fail(f"told {told!r}, wanted {wanted!r}")

    def refused(self, error, asked, *handed):
        """Refused with just this error, and what was handed in is as it was."""
        ahead = repr(handed)
        try:
            told = asked(*handed)
        except errors.SwitchError as refusal:
            if type(refusal) is not error:
                self.fail(f"{asked.__name__}{ahead} refused with {type(refusal).__name__}, not {error.__name__}")
        else:
            self.fail(f"{asked.__name__}{ahead} told {told!r} in the place of {error.__name__}")
        self.assertEqual(repr(handed), ahead)

    def new_each_time(self, asked, *handed):
        """The told list may be changed by who gets it, and is told again as it was."""
        told = asked(*handed)
        self.assertIs(type(told), list)
        wanted = repr(told)
        for part in told:
            if isinstance(part, list):
                part.append("changed")
        told.append("changed")
        told.reverse()
        told[0] = None
        again = asked(*handed)
        self.assertIsNot(again, told)
        self.assertEqual(repr(again), wanted)
        again.clear()
        self.assertEqual(repr(asked(*handed)), wanted)
