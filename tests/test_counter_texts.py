"""Promise 6: a program's text, read and shown."""

import inspect
import random
import unittest

from oneofall.counters import counter_read, counter_show
from refusals import assert_no_program

GOOD = "up 0 1"

NO_ROWS = (
    # words
    "Up 0 1", "UP 0 1", "Down 0 1 2", "left 0 1", "u 0 1", "upp 0 1", "dow 0 1 2", "downs 0 1 2",
    "0 1", "0 up 1", "up", "down", "up up 1", "up 0 up", "up a b", "down 0 1 x", "x", "#",
    # blanks
    " up 0 1", "up 0 1 ", "up  0 1", "up 0  1", "up0 1", "up 01", " ", "  ", "down 0 1 2 ", " down 0 1 2",
    "down 0  1 2", "down 0 1  2", "up ", "down ", "up 0 ", "up  1", "up  ", "down   ",
    "up\t0 1", "up 0\t1", "up 0 1\t", "\tup 0 1", "up 0 1\r", "\rup 0 1", "up\u00a00 1", "up 0 1\v", "up 0\f1",
    # figures
    "up -1 0", "up 0 -1", "up +1 0", "up 1_0 0", "up 1.0 0", "up 0x1 0", "up 1e1 0", "up 0 1,", "up a 0",
    "up \u0663 0", "up 0 \u00b2", "up 0 \uff11", "up 0 1\u0661", "up 0 \u2155", "down 0 1 \u0967",
    "up 1000 0", "up 0 1000", "down 1000 0 0", "down 0 1000 0", "down 0 0 1000", "up 0 12345",
    # a nought ahead
    "up 00 1", "up 01 1", "up 0 00", "up 0 01", "up 0 001", "up 000 1", "up 0 010", "up 0 0001",
    "down 01 0 0", "down 0 01 0", "down 0 0 01", "down 00 0 0", "down 0 0 000",
    # the number of numbers
    "up 0", "up 0 1 2", "up 0 1 2 3", "down 0", "down 0 1", "down 0 1 2 3",
    # other parters of lines, which are none here
    "up 0 1\rup 0 1", "up 0 1\x0bup 0 1", "up 0 1\x0cup 0 1", "up 0 1\x1cup 0 1", "up 0 1\x85up 0 1",
    "up 0 1\u2028up 0 1", "up 0 1;up 0 1",
)


class Read(unittest.TestCase):

    def test_rows(self):
        self.assertEqual(counter_read("up 0 1"), [("up", 0, 1)])
        self.assertEqual(counter_read("down 0 1 2"), [("down", 0, 1, 2)])
        self.assertEqual(counter_read("down 0 1 2\nup 1 0"), [("down", 0, 1, 2), ("up", 1, 0)])
        self.assertEqual(counter_read("up 0 0\nup 0 0\nup 0 0"), [("up", 0, 0)] * 3)

    def test_kinds(self):
        program = counter_read("down 5 1 2\nup 1 0")
        self.assertIs(type(program), list)
        for row in program:
            self.assertIs(type(row), tuple)
            self.assertEqual([type(part) for part in row], [str] + [int] * (len(row) - 1))

    def test_text_without_signs(self):
        self.assertEqual(counter_read(""), [])

    def test_one_to_three_figures(self):
        for number in (0, 1, 9, 10, 19, 99, 100, 101, 500, 990, 999):
            self.assertEqual(counter_read(f"up {number} 0"), [("up", number, 0)])
            self.assertEqual(counter_read(f"up 0 {number}"), [("up", 0, number)])
            self.assertEqual(counter_read(f"down {number} 0 0"), [("down", number, 0, 0)])
            self.assertEqual(counter_read(f"down 0 {number} 0"), [("down", 0, number, 0)])
            self.assertEqual(counter_read(f"down 0 0 {number}"), [("down", 0, 0, number)])

    def test_whether_it_fits_is_not_asked(self):
        self.assertEqual(counter_read("up 999 999\ndown 999 999 999"), [("up", 999, 999), ("down", 999, 999, 999)])

    def test_lines_that_are_no_rows(self):
        for line in NO_ROWS:
            with self.subTest(line=line):
                assert_no_program(self, 0, counter_read, line)
                assert_no_program(self, 0, counter_read, line + "\n" + GOOD)
                assert_no_program(self, 1, counter_read, GOOD + "\n" + line)
                assert_no_program(self, 2, counter_read, GOOD + "\ndown 0 1 2\n" + line + "\n" + GOOD)

    def test_lines_without_signs(self):
        assert_no_program(self, 0, counter_read, "\n")
        assert_no_program(self, 0, counter_read, "\n\n")
        assert_no_program(self, 0, counter_read, "\n" + GOOD)
        assert_no_program(self, 1, counter_read, GOOD + "\n")
        assert_no_program(self, 1, counter_read, GOOD + "\n\n")
        assert_no_program(self, 1, counter_read, GOOD + "\n\n" + GOOD)
        assert_no_program(self, 3, counter_read, "\n".join([GOOD] * 3) + "\n")

    def test_line_feed_of_two_signs(self):
        assert_no_program(self, 0, counter_read, GOOD + "\r\n" + GOOD)

    def test_first_of_several_lines(self):
        assert_no_program(self, 1, counter_read, "\n".join([GOOD, "up 01 1", GOOD, "", "down 0"]))
        assert_no_program(self, 1, counter_read, "\n".join([GOOD, "", "up 01 1", GOOD, "down 0"]))
        assert_no_program(self, 0, counter_read, "\n".join(["down 0", "", "up 01 1"]))
        assert_no_program(self, 3, counter_read, "\n".join([GOOD, GOOD, GOOD, "up  0 1", "x", ""]))

    def test_last_of_many_lines(self):
        assert_no_program(self, 19, counter_read, "\n".join([GOOD] * 19 + ["up 0"]))


class Show(unittest.TestCase):

    def test_programs(self):
        self.assertEqual(counter_show([("up", 0, 1)]), "up 0 1")
        self.assertEqual(counter_show([("down", 0, 1, 2), ("up", 1, 0)]), "down 0 1 2\nup 1 0")
        self.assertEqual(counter_show([("up", 999, 100), ("down", 10, 0, 99)]), "up 999 100\ndown 10 0 99")

    def test_no_rows(self):
        self.assertEqual(counter_show([]), "")


class ThereAndBack(unittest.TestCase):

    def test_what_is_shown_is_read_back(self):
        chance = random.Random(6)
        for turn in range(200):
            program = []
            for k in range(chance.randrange(21)):
                numbers = [chance.choice([0, 7, 10, 99, 100, 999]) for part in range(3)]
                program.append(chance.choice([("up", *numbers[:2]), ("down", *numbers)]))
            text = counter_show(program)
            self.assertEqual(counter_read(text), program)
            self.assertEqual(counter_show(counter_read(text)), text)


class Interface(unittest.TestCase):

    def test_arguments(self):
        self.assertEqual(list(inspect.signature(counter_read).parameters), ["text"])
        self.assertEqual(list(inspect.signature(counter_show).parameters), ["program"])


if __name__ == "__main__":
    unittest.main()
