"""Stage 11, texts of racks: 11.1, 0.2 (g), and 0.3 as far as texts of racks go."""

import random
import unittest

from reckoned import read_by_words, shown, text_by_words
from switchkinds.errors import NoBack, NoText
from switchkinds.racks import Rack, rack_text, read_rack
from things import SIGNS, SOME_SWITCHES, THINGS, Asking, some_switches, spoilt

RIGHT = "a = 2:0001\nab = 1:10\nb = 0:1\nzzzz = 3:01101001\n"
# Signs beyond those that are written too, as read_rack takes any text.
MORE_SIGNS = SIGNS + "\t\r\0\x0b\x85\xa0\xe4\u0661\uff11\uff41"


def rack_of(held):
    rack = Rack()
    for label, switch in held.items():
        rack.put(label, switch)
    return rack


class Reading(Asking, unittest.TestCase):
    def read_as_written(self, text):
        held = read_by_words(text)
        if held is None:
            self.refused(NoText, read_rack, text)
            return
        rack = read_rack(text)
        self.assertIsInstance(rack, Rack)
        self.same(rack.labels(), sorted(held))
        for label, switch in held.items():
            self.same(rack.switch_of(label), switch)
        self.same(rack.counts(), (0, 0))
        self.same(rack_text(rack), text)


class TextsOfRacks(Reading):
    """11.1 and 0.2 (g)"""

    def test_by_hand(self):
        rack = Rack()
        self.same(rack_text(rack), "")
        rack.put("b", (0, (1,)))
        self.same(rack_text(rack), "b = 0:1\n")
        rack.put("zzzz", (3, (0, 1, 1, 0, 1, 0, 0, 1)))
        rack.put("a", (2, (0, 0, 0, 1)))
        rack.put("ab", (1, (1, 0)))
        self.same(rack_text(rack), RIGHT)
        rack.turn("b")
        rack.take("zzzz")
        self.same(rack_text(rack), "a = 2:0001\nab = 1:10\nb = 0:0\n")
        rack.back()
        rack.back()
        self.same(rack_text(rack), RIGHT)

    def test_writing_is_no_step(self):
        rack = read_rack(RIGHT)
        rack.turn("a")
        rack.turn("a")
        rack.back()
        ahead = shown(rack)
        rack_text(rack)
        self.same(shown(rack), ahead)

    def test_an_empty_rack(self):
        rack = read_rack("")
        self.same(rack.labels(), [])
        self.same(rack.counts(), (0, 0))
        self.same(rack_text(rack), "")

    def test_all_functions_of_few_names(self):
        for many in range(5):
            for switch in some_switches(many):
                rack = rack_of({"f": switch, "e": (0, (1,))})
                self.same(rack_text(rack), text_by_words({"e": (0, (1,)), "f": switch}))
                self.read_as_written(rack_text(rack))

    def test_long_texts(self):
        source = random.Random(5)
        letters = "abcxyz"
        for size in (1, 2, 5, 30, 200):
            held = {}
            for count in range(size):
                label = "".join(source.choice(letters) for place in range(source.randint(1, 4)))
                held[label] = source.choice(SOME_SWITCHES)
            text = rack_text(rack_of(held))
            self.same(text, text_by_words(held))
            self.read_as_written(text)

    def test_what_is_read_has_no_steps(self):
        rack = read_rack(RIGHT)
        self.same(rack.counts(), (0, 0))
        self.refused(NoBack, rack.back)
        self.refused(NoBack, rack.forth)
        self.same(rack_text(rack), RIGHT)

    def test_what_is_read_goes_on_as_any_rack(self):
        rack = read_rack(RIGHT)
        self.assertIs(rack.put("a", (0, (1,))), True)
        self.same(rack.like("a"), ["b"])
        self.same(rack.back(), "put")
        self.same(rack.switch_of("a"), (2, (0, 0, 0, 1)))
        self.same(rack.forth(), "put")
        self.same(rack.take("ab"), (1, (1, 0)))
        self.same(rack.counts(), (2, 0))
        self.same([rack.back(), rack.back()], ["take", "put"])
        self.same(rack_text(rack), RIGHT)

    def test_what_is_read_is_a_new_one_each_time(self):
        one = read_rack(RIGHT)
        one.take("a")
        other = read_rack(RIGHT)
        self.assertIsNot(one, other)
        self.same(rack_text(other), RIGHT)
        self.same(other.counts(), (0, 0))
        self.same(rack_text(one), RIGHT[RIGHT.index("ab"):])
        read_rack("").put("a", (0, (1,)))
        self.same(read_rack("").labels(), [])

    def test_a_rack_with_steps_reads_again_without_them(self):
        rack = rack_of({"a": (0, (1,)), "b": (1, (0, 1))})
        rack.turn("b")
        rack.back()
        again = read_rack(rack_text(rack))
        self.same(rack.counts(), (2, 1))
        self.same(again.counts(), (0, 0))
        self.same(rack_text(again), rack_text(rack))


class NoTextsOfRacks(Reading):
    """11.1 and 0.3: NoText of all else"""

    def test_by_hand(self):
        for text in ["\n", " ", "a", "a = 0:1", "a = 0:1\n\n", "\na = 0:1\n", " a = 0:1\n", "a = 0:1 \n", "a =0:1\n",
                     "a= 0:1\n", "a=0:1\n", "a  = 0:1\n", "a =  0:1\n", "a = 0:1\r\n", "a = 0:1\r", "A = 0:1\n",
                     "1 = 0:1\n", " = 0:1\n", "= 0:1\n", "abcde = 0:1\n", "a b = 0:1\n", "a = 0:2\n", "a = 1:1\n",
                     "a = 00:1\n", "a = +0:1\n", "a = 0:1 = 0:1\n", "a = a = 0:1\n", "a = \n", "a = 0:1\nb = 0:1",
                     "b = 0:1\na = 0:1\n", "a = 0:1\na = 0:1\n", "a = 0:1\na = 0:0\n", "ab = 0:1\na = 0:1\n",
                     "a = 0:1\n\nb = 0:1\n", "a = 0:1\n b = 0:1\n", "a = 0:1 b = 0:1\n", "a = 5:" + "01" * 16 + "\n",
                     "a: 0:1\n", "a == 0:1\n", "a = (0, (1,))\n", "# a\n", "a\t=\t0:1\n", "\xe4 = 0:1\n",
                     "a = \u0660:1\n", "a = 0:\u0661\n", "a = 0:1\x0b", "a = 0:1\x0bb = 0:1\n",
                     "a = 0:1\u2028b = 0:1\n", "a = 0:1\x85", "a = 0:1\f\n", "a\xa0=\xa00:1\n", "\uff41 = 0:1\n",
                     "a = 0:\uff11\n", "\ufeffa = 0:1\n", "a = 0:1\n\0", "\0"]:
            self.assertIsNone(read_by_words(text))
            self.refused(NoText, read_rack, text)

    def test_any_thing(self):
        for thing in THINGS:
            if repr(thing) == repr(""):
                self.read_as_written(thing)
            else:
                self.refused(NoText, read_rack, thing)

    def test_lists_and_tuples_of_what_is_written(self):
        for thing in (["a = 0:1\n"], ("a = 0:1\n",), ["a", " = ", "0:1"], [], (), [""], [["a = 0:1\n"]], {}, None, 0,
                      True, [("a", (0, (1,)))], (("a", (0, (1,))),)):
            self.refused(NoText, read_rack, thing)

    def test_spoilt(self):
        for text in ("", "a = 0:1\n", "a = 2:0001\nb = 1:10\n", "zzzz = 4:0110100111110000\n", RIGHT):
            for changed in spoilt(text, MORE_SIGNS):
                self.read_as_written(changed)

    def test_lines_in_other_orders(self):
        source = random.Random(9)
        lines = RIGHT.splitlines(keepends=True)
        for count in range(400):
            picked = [source.choice(lines) for place in range(source.randint(0, 5))]
            self.read_as_written("".join(picked))

    def test_spoilt_twice(self):
        source = random.Random(11)
        for count in range(4000):
            text = RIGHT
            for times in range(2):
                place = source.randrange(len(text) + 1)
                end = min(len(text), place + source.randint(0, 2))
                text = text[:place] + source.choice(list(MORE_SIGNS) + ["", ""]) + text[end:]
            self.read_as_written(text)


if __name__ == "__main__":
    unittest.main()
