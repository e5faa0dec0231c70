"""Stage 10, racks: 10.1, 10.2, 0.2 (i), and 0.3 and 1.2 as far as racks go."""

import itertools
import random
import unittest

from reckoned import Reckoned, do, is_label_by_words, shown, walked
from switchkinds.errors import NoBack, NoLabel, NoSwitch, Unlike
from switchkinds.racks import Rack
from switchkinds.switches import both, constant, either, single, turned, unlike
from things import NO_SWITCHES, SOME_SWITCHES, THINGS, Asking, some_switches

AND = (2, (0, 0, 0, 1))
XOR = (2, (0, 1, 1, 0))
NOT = (1, (1, 0))
JOINS = {"both": both, "either": either, "unlike": unlike}
WRONG_TEXTS = [
    "", "abcde", "aaaaa", "zzzzzzzz", "A", "Z", "aB", "Ab", "ABCD", "abcD", "1", "a1", "1a", "abc0", " ", "a ", " a",
    "a b", "\n", "a\n", "\na", "a-", "_", "a_b", "`", "a`", "{", "z{", "@", "[", ".", "a.", "=", "a =", "\t", "a\t",
    "\0", "a\0", "\xe4", "\xdf", "a\xe9", "\u0430", "\uff41", "\U0001d41a", "\u2170", "\xaa", "\u0131", "a\u0301"]
NO_LABELS = [thing for thing in THINGS + WRONG_TEXTS if not is_label_by_words(thing)]
LABELS = ["a", "z", "ab", "zz", "abc", "abcd", "zzzz", "many"]


def filled():
    """A rack with steps of all words, some of them taken back."""
    rack = Rack()
    rack.put("a", AND)
    rack.put("b", XOR)
    rack.put("no", NOT)
    rack.put("a", AND)
    rack.join("c", "either", "a", "b")
    rack.turn("c")
    rack.take("b")
    rack.put("b", XOR)
    rack.turn("a")
    rack.take("no")
    rack.back()
    rack.back()
    return rack


class Labels(Asking, unittest.TestCase):
    """10.1, labels, put, switch_of and take"""

    def test_an_empty_rack(self):
        rack = Rack()
        self.same(rack.labels(), [])
        self.same(rack.counts(), (0, 0))
        for label in LABELS:
            for asked in (rack.switch_of, rack.take, rack.turn, rack.like):
                self.refused(NoLabel, asked, label)
        self.refused(NoBack, rack.back)
        self.refused(NoBack, rack.forth)
        self.same(shown(rack), shown(Rack()))

    def test_two_racks_hold_nothing_in_common(self):
        one, other = Rack(), Rack()
        one.put("a", AND)
        self.same(other.labels(), [])
        self.same(other.counts(), (0, 0))
        other.put("a", XOR)
        other.back()
        self.same(one.switch_of("a"), AND)
        self.same(one.counts(), (1, 0))

    def test_put_tells_whether_one_had_the_label(self):
        rack = Rack()
        self.assertIs(rack.put("a", AND), False)
        self.assertIs(rack.put("a", XOR), True)
        self.same(rack.switch_of("a"), XOR)
        self.assertIs(rack.put("a", XOR), True)
        self.assertIs(rack.put("b", XOR), False)
        self.same(rack.take("a"), XOR)
        self.assertIs(rack.put("a", NOT), False)
        self.same(rack.labels(), ["a", "b"])

    def test_take_tells_the_function_which_is_no_more_there(self):
        rack = Rack()
        rack.put("a", AND)
        rack.put("b", XOR)
        self.same(rack.take("a"), AND)
        self.refused(NoLabel, rack.switch_of, "a")
        self.refused(NoLabel, rack.take, "a")
        self.same(rack.labels(), ["b"])
        self.same(rack.switch_of("b"), XOR)

    def test_labels_of_1_to_4_letters(self):
        rack = Rack()
        letters = "abcdefghijklmnopqrstuvwxyz"
        wanted = LABELS + list(letters) + [letter * 4 for letter in letters] + ["x" + letter for letter in letters]
        for label in wanted:
            rack.put(label, AND)
            self.same(rack.switch_of(label), AND)
        self.same(rack.labels(), sorted(set(wanted)))

    def test_functions_of_all_numbers_of_names(self):
        rack = Rack()
        for many in range(5):
            for switch in some_switches(many, {3: 23, 4: 4999}.get(many)):
                rack.put("f", switch)
                self.same(rack.switch_of("f"), switch)
                self.same(rack.turn("f"), turned(switch))
                self.same(rack.take("f"), turned(switch))

    def test_labels_are_rising(self):
        rack = Rack()
        for label in ["b", "ab", "a", "zz", "z", "aaaa", "aab", "ba"]:
            rack.put(label, AND)
        self.same(rack.labels(), ["a", "aaaa", "aab", "ab", "b", "ba", "z", "zz"])

    def test_what_asks_is_no_step(self):
        rack = filled()
        ahead = walked(rack.twin())
        rack.switch_of("a"), rack.labels(), rack.like("a"), rack.counts(), rack.twin()
        self.assertEqual(walked(rack), ahead)


class Joins(Asking, unittest.TestCase):
    """10.1, join, turn and like"""

    def test_join_gives_the_label_what_the_word_tells(self):
        for many in range(5):
            some = some_switches(many, {2: 3, 3: 29, 4: 9973}.get(many))
            for one, other in itertools.product(some, repeat=2):
                for word, asked in JOINS.items():
                    rack = Rack()
                    rack.put("a", one)
                    rack.put("b", other)
                    self.same(rack.join("c", word, "a", "b"), asked(one, other))
                    self.same(rack.switch_of("c"), asked(one, other))
                    self.same([rack.switch_of("a"), rack.switch_of("b")], [one, other])

    def test_join_onto_its_own_labels(self):
        rack = Rack()
        rack.put("a", AND)
        rack.put("b", XOR)
        self.same(rack.join("a", "either", "a", "b"), (2, (0, 1, 1, 1)))
        self.same(rack.switch_of("a"), (2, (0, 1, 1, 1)))
        self.same(rack.join("a", "unlike", "a", "a"), (2, (0, 0, 0, 0)))
        self.same(rack.labels(), ["a", "b"])

    def test_join_of_unlike_numbers_of_names(self):
        for one, other in itertools.permutations(range(5), 2):
            rack = Rack()
            rack.put("a", constant(one, 1))
            rack.put("b", constant(other, 1))
            rack.put("c", AND)
            rack.back()
            ahead = walked(rack.twin())
            for label, word in itertools.product(("a", "b", "c", "d"), JOINS):
                self.refused(Unlike, rack.join, label, word, "a", "b")
            self.assertEqual(walked(rack), ahead)

    def test_turn_tells_what_turned_tells(self):
        rack = Rack()
        rack.put("a", AND)
        rack.put("b", AND)
        self.same(rack.turn("a"), (2, (1, 1, 1, 0)))
        self.same(rack.switch_of("a"), (2, (1, 1, 1, 0)))
        self.same(rack.switch_of("b"), AND)
        self.same(rack.turn("a"), AND)

    def test_like(self):
        rack = Rack()
        for label, switch in [("b", AND), ("ab", XOR), ("a", AND), ("zz", AND), ("z", NOT), ("c", (1, (0, 1))),
                              ("d", constant(1, 0)), ("e", constant(2, 0))]:
            rack.put(label, switch)
        self.same(rack.like("a"), ["b", "zz"])
        self.same(rack.like("b"), ["a", "zz"])
        self.same(rack.like("zz"), ["a", "b"])
        for label in ("ab", "z", "c", "d", "e"):
            self.same(rack.like(label), [])
        rack.turn("z")
        self.same(rack.like("z"), ["c"])
        rack.take("b")
        self.same(rack.like("a"), ["zz"])
        rack.back()
        rack.back()
        self.same(rack.like("z"), [])
        self.same(rack.like("a"), ["b", "zz"])

    def test_told_lists_are_new_ones(self):
        rack = filled()
        rack.put("aa", rack.switch_of("a"))
        for empty in (rack, Rack()):
            self.new_each_time(empty.labels)
        for label in rack.labels():
            self.new_each_time(rack.like, label)


class BackAndForth(Asking, unittest.TestCase):
    """10.2 and 0.2 (i)"""

    def test_each_word_is_told_and_taken_back_and_done_again(self):
        rack = Rack()
        rack.put("a", AND)
        rack.put("b", XOR)
        rack.join("c", "both", "a", "b")
        rack.turn("a")
        rack.take("b")
        self.same(rack.counts(), (5, 0))
        self.same([rack.back() for step in range(3)], ["take", "turn", "join"])
        self.same(rack.counts(), (2, 3))
        self.same(rack.labels(), ["a", "b"])
        self.same([rack.switch_of("a"), rack.switch_of("b")], [AND, XOR])
        self.same([rack.forth() for step in range(3)], ["join", "turn", "take"])
        self.same(rack.labels(), ["a", "c"])
        self.same([rack.switch_of("a"), rack.switch_of("c")], [turned(AND), constant(2, 0)])
        self.same([rack.back() for step in range(5)], ["take", "turn", "join", "put", "put"])
        self.same(rack.labels(), [])
        self.same(rack.counts(), (0, 5))
        self.refused(NoBack, rack.back)
        self.same([rack.forth() for step in range(5)], ["put", "put", "join", "turn", "take"])
        self.refused(NoBack, rack.forth)
        self.same(rack.counts(), (5, 0))

    def test_join_by_each_word_tells_join(self):
        for word in JOINS:
            rack = Rack()
            rack.put("a", AND)
            rack.join("b", word, "a", "a")
            self.same(rack.back(), "join")
            self.same(rack.forth(), "join")

    def test_a_put_in_the_stead_of_another(self):
        rack = Rack()
        rack.put("a", AND)
        rack.put("a", XOR)
        self.same(rack.back(), "put")
        self.same(rack.switch_of("a"), AND)
        self.same(rack.back(), "put")
        self.same(rack.labels(), [])
        rack.forth()
        self.same(rack.switch_of("a"), AND)
        rack.forth()
        self.same(rack.switch_of("a"), XOR)

    def test_what_changed_nothing_is_taken_back_all_the_same(self):
        rack = Rack()
        rack.put("a", constant(2, 0))
        rack.put("a", constant(2, 0))
        rack.join("a", "both", "a", "a")
        self.same(rack.counts(), (3, 0))
        self.same(rack.back(), "join")
        self.same(rack.switch_of("a"), constant(2, 0))
        self.same(rack.back(), "put")
        self.same(rack.switch_of("a"), constant(2, 0))
        self.same(rack.counts(), (1, 2))
        self.same(rack.back(), "put")
        self.refused(NoLabel, rack.switch_of, "a")
        self.same(rack.counts(), (0, 3))
        self.same([rack.forth(), rack.forth(), rack.forth()], ["put", "put", "join"])

    def test_a_step_that_changes_nothing_ends_what_can_be_done_again(self):
        rack = Rack()
        rack.put("a", AND)
        rack.put("b", XOR)
        rack.back()
        rack.put("a", AND)
        self.same(rack.counts(), (2, 0))
        self.refused(NoBack, rack.forth)
        self.same(rack.labels(), ["a"])

    def test_no_forth_behind_another_step(self):
        for step in [("put", "a", NOT), ("put", "d", NOT), ("take", "a"), ("turn", "b"),
                     ("join", "a", "either", "a", "b"), ("join", "d", "unlike", "a", "b")]:
            rack = Rack()
            rack.put("a", AND)
            rack.put("b", XOR)
            rack.turn("a")
            rack.turn("b")
            rack.back()
            rack.back()
            self.same(rack.counts(), (2, 2))
            do(rack, step)
            self.same(rack.counts(), (3, 0))
            ahead = shown(rack)
            self.refused(NoBack, rack.forth)
            self.same(shown(rack), ahead)
            self.same(rack.back(), step[0])
            self.same(rack.counts(), (2, 1))
            self.same([rack.switch_of("a"), rack.switch_of("b")], [AND, XOR])
            self.same(rack.forth(), step[0])
            self.same(shown(rack), ahead)

    def test_back_and_forth_again_and_again(self):
        rack = filled()
        ahead = walked(rack)
        for times in range(4):
            self.assertEqual(walked(rack), ahead)


class Twins(Asking, unittest.TestCase):
    """10.2, twin"""

    STEPS = [("put", "a", NOT), ("put", "new", AND), ("take", "a"), ("turn", "a"), ("turn", "c"), ("back",), ("forth",),
             ("join", "a", "both", "b", "b"), ("join", "new", "unlike", "a", "b")]

    def test_is_as_this_one(self):
        for rack in (Rack(), filled()):
            twin = rack.twin()
            self.assertIsInstance(twin, Rack)
            self.assertIsNot(twin, rack)
            self.assertEqual(shown(twin), shown(rack))
            self.assertEqual(walked(twin), walked(rack))

    def test_each_goes_by_itself(self):
        for step in self.STEPS:
            for first in (True, False):
                rack = filled()
                twin = rack.twin()
                wanted = walked(filled())
                goes, stays = (rack, twin) if first else (twin, rack)
                do(goes, step)
                self.assertNotEqual(walked(goes), wanted)
                self.assertEqual(walked(stays), wanted)

    def test_both_go_on_unlike_ways(self):
        for one, other in itertools.product(self.STEPS, repeat=2):
            rack = filled()
            twin = rack.twin()
            alone, second = filled(), filled()
            self.same(do(rack, one), do(alone, one))
            self.same(do(twin, other), do(second, other))
            self.assertEqual(walked(rack), walked(alone))
            self.assertEqual(walked(twin), walked(second))

    def test_a_twin_of_a_twin(self):
        rack = filled()
        twin = rack.twin().twin()
        rack.back()
        self.assertEqual(walked(twin), walked(filled()))


class LongRows(Asking, unittest.TestCase):
    """10.1, 10.2 and 0.2 (i), against a plain reckoning"""

    def agrees(self, rack, plain):
        self.same(rack.labels(), sorted(plain.held()))
        self.same(rack.counts(), plain.counts())
        for label, switch in plain.held().items():
            self.same(rack.switch_of(label), switch)
            same = [other for other in sorted(plain.held()) if other != label and plain.held()[other] == switch]
            self.same(rack.like(label), same)

    def test_all_short_rows(self):
        steps = [("put", "a", AND), ("put", "b", NOT), ("put", "a", NOT), ("take", "a"), ("turn", "b"),
                 ("join", "b", "unlike", "a", "b"), ("back",), ("forth",)]
        for row in itertools.product(steps, repeat=5):
            rack, plain = Rack(), Reckoned()
            for step in row:
                self.same(do(rack, step), plain.do(step))
            self.same(rack.labels(), sorted(plain.held()))
            self.same([rack.switch_of(label) for label in rack.labels()],
                      [plain.held()[label] for label in rack.labels()])
            self.same(rack.counts(), plain.counts())

    def any_step(self, source, labels, some):
        word = source.choice(["put", "put", "put", "take", "join", "join", "turn", "back", "back", "forth", "forth"])
        picked = [source.choice(labels) for place in range(3)]
        if word == "put":
            return (word, picked[0], source.choice(some))
        if word == "join":
            return (word, picked[0], source.choice(["both", "either", "unlike"]), picked[1], picked[2])
        return (word,) if word in ("back", "forth") else (word, picked[0])

    def test_long_rows(self):
        for seed, labels in enumerate([["a"], ["a", "b"], ["a", "b", "ab"], LABELS, LABELS]):
            source = random.Random(seed)
            some = [AND, XOR, constant(2, 1), single(2, 0)] if seed % 2 == 0 else SOME_SWITCHES
            rack, plain = Rack(), Reckoned()
            for count in range(1500):
                step = self.any_step(source, labels, some)
                self.same(do(rack, step), plain.do(step))
                self.agrees(rack, plain)
            while do(rack, ("back",)) != NoBack:
                plain.do(("back",))
                self.agrees(rack, plain)
            while do(rack, ("forth",)) != NoBack:
                plain.do(("forth",))
                self.agrees(rack, plain)
            self.same(plain.counts()[1], 0)

    def test_twins_in_long_rows(self):
        source = random.Random(77)
        pairs = [(Rack(), Reckoned())]
        for count in range(1200):
            rack, plain = source.choice(pairs)
            if count % 60 == 59:
                again = Reckoned()
                again.states, again.words, again.place = list(plain.states), list(plain.words), plain.place
                pairs.append((rack.twin(), again))
            step = self.any_step(source, ["a", "b", "c", "d"], SOME_SWITCHES)
            self.same(do(rack, step), plain.do(step))
            for each, reckoned in pairs:
                self.agrees(each, reckoned)

    def test_many_steps_back(self):
        rack = Rack()
        rack.put("a", AND)
        for count in range(5000):
            rack.turn("a")
        for count in range(5000):
            self.assertEqual(rack.back(), "turn")
        self.same(rack.switch_of("a"), AND)
        self.same(rack.counts(), (1, 5000))


class WhatRacksRefuse(Asking, unittest.TestCase):
    """10.1, 10.2 and 0.3, wrong inputs: what is refused leaves the rack, and its steps, as they were"""

    def setUp(self):
        self.rack = filled()
        self.ahead = walked(filled())

    def tearDown(self):
        self.assertEqual(walked(self.rack), self.ahead)

    def test_put_of_no_function(self):
        for thing in NO_SWITCHES:
            self.refused(NoSwitch, self.rack.put, "a", thing)
            self.refused(NoSwitch, self.rack.put, "new", thing)

    def test_put_by_no_label(self):
        for thing in NO_LABELS:
            self.refused(NoLabel, self.rack.put, thing, AND)

    def test_no_switch_ahead_of_no_label(self):
        for thing in NO_LABELS:
            for other in (None, 0, "", (), [2, [0, 1, 1, 0]], (2, (0, 1, 1, True))):
                self.refused(NoSwitch, self.rack.put, thing, other)
        for thing in NO_SWITCHES:
            self.refused(NoSwitch, self.rack.put, "A", thing)
            self.refused(NoSwitch, self.rack.put, thing, thing)

    def test_what_is_no_label(self):
        for thing in NO_LABELS:
            for asked in (self.rack.switch_of, self.rack.take, self.rack.turn, self.rack.like):
                self.refused(NoLabel, asked, thing)

    def test_a_label_that_none_has(self):
        for label in ("z", "aa", "ab", "zzzz", "new", "cc"):
            for asked in (self.rack.switch_of, self.rack.take, self.rack.turn, self.rack.like):
                self.refused(NoLabel, asked, label)

    def test_join_by_no_label(self):
        for thing in NO_LABELS:
            for word in JOINS:
                self.refused(NoLabel, self.rack.join, thing, word, "a", "b")
                self.refused(NoLabel, self.rack.join, "c", word, thing, "b")
                self.refused(NoLabel, self.rack.join, "c", word, "a", thing)
                self.refused(NoLabel, self.rack.join, thing, word, thing, thing)

    def test_join_of_labels_that_none_has(self):
        for label, word in itertools.product(("a", "new"), JOINS):
            self.refused(NoLabel, self.rack.join, label, word, "z", "b")
            self.refused(NoLabel, self.rack.join, label, word, "a", "z")
            self.refused(NoLabel, self.rack.join, label, word, "new", "new")

    def test_no_label_ahead_of_unlike(self):
        self.assertIn("no", self.rack.labels())
        for thing in NO_LABELS:
            for word in JOINS:
                self.refused(NoLabel, self.rack.join, thing, word, "a", "no")
                self.refused(NoLabel, self.rack.join, thing, word, "no", "a")

    def test_unlike(self):
        for label, word in itertools.product(("a", "no", "new"), JOINS):
            self.refused(Unlike, self.rack.join, label, word, "a", "no")
            self.refused(Unlike, self.rack.join, label, word, "no", "b")

    def test_a_word_that_there_is_not(self):
        for word in ("", "Both", "neither", "both ", "put"):
            self.refused(NoLabel, self.rack.join, "new", word, "a", "b")

    def test_no_step_to_take_back_or_to_do_again(self):
        while self.rack.counts()[0] > 0:
            self.rack.back()
        for times in range(3):
            self.refused(NoBack, self.rack.back)
        while self.rack.counts()[1] > 0:
            self.rack.forth()
        for times in range(3):
            self.refused(NoBack, self.rack.forth)
        self.rack.back()
        self.rack.back()


if __name__ == "__main__":
    unittest.main()
