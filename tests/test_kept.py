"""Promise 2: what is handed in stays as it was, what is told is the asker's own."""

import copy
import unittest

from oneofall.counters import counter_look, counter_read, counter_run, counter_show, counter_step
from oneofall.errors import NoProgram
from oneofall.rows import row_look, row_run, row_step

PROGRAM = (("down", 0, 1, 2), ("up", 1, 0))
RULES = ((0, "a", "b", 0), (0, "b", "", 1), (1, "b", "", 0))
TEXT = "down 0 1 2\nup 1 0"


class HandedIn(unittest.TestCase):

    def assert_kept(self, call, *things):
        before = copy.deepcopy(things)
        try:
            call(*things)
        except NoProgram:
            pass
        self.assertEqual(things, before)

    def test_counters(self):
        self.assert_kept(counter_look, list(PROGRAM), 2)
        self.assert_kept(counter_look, list(PROGRAM), 1)
        for stand in ((0, (2, 0)), (0, (0, 0)), (1, (0, 0)), (2, (0, 0))):
            self.assert_kept(counter_step, list(PROGRAM), stand)
            self.assert_kept(counter_run, list(PROGRAM), stand)
            self.assert_kept(counter_run, list(PROGRAM), stand, 0)
        self.assert_kept(counter_show, list(PROGRAM))

    def test_rows(self):
        self.assert_kept(row_look, list(RULES))
        self.assert_kept(row_look, list(RULES + RULES))
        for stand in ((0, "aab"), (1, "a"), (0, "")):
            self.assert_kept(row_step, list(RULES), stand)
            self.assert_kept(row_run, list(RULES), stand)
            self.assert_kept(row_run, list(RULES), stand, 0)


class ToldLists(unittest.TestCase):

    def assert_own(self, call):
        told = call()
        whole = list(told)
        told.reverse()
        told.append("more")
        again = call()
        self.assertIsNot(again, told)
        self.assertEqual(again, whole)
        again.clear()
        self.assertEqual(call(), whole)

    def test_counter_run(self):
        program = list(PROGRAM)
        self.assert_own(lambda: counter_run(program, (0, (2, 0))))
        self.assert_own(lambda: counter_run(program, (0, (2, 0)), 0))
        self.assert_own(lambda: counter_run(program, (2, (2, 0))))

    def test_counter_read(self):
        self.assert_own(lambda: counter_read(TEXT))
        self.assert_own(lambda: counter_read(""))

    def test_row_run(self):
        rules = list(RULES)
        self.assert_own(lambda: row_run(rules, (0, "aab")))
        self.assert_own(lambda: row_run(rules, (0, "aab"), 0))
        self.assert_own(lambda: row_run(rules, (0, "")))

    def test_changing_what_was_read_changes_no_step(self):
        program = counter_read(TEXT)
        program[0] = ("up", 0, 2)
        self.assertEqual(counter_step(counter_read(TEXT), (0, (1, 0))), (1, (0, 0)))


class ChangedBehindTheCall(unittest.TestCase):

    def test_counter_program(self):
        program = list(PROGRAM)
        stands = counter_run(program, (0, (1, 0)))
        text = counter_show(program)
        whole = list(stands)
        program[0] = ("up", 0, 2)
        self.assertEqual(stands, whole)
        self.assertEqual(text, TEXT)
        self.assertEqual(counter_run(program, (0, (1, 0))), [(0, (1, 0)), (2, (2, 0))])
        self.assertEqual(counter_step(program, (0, (1, 0))), (2, (2, 0)))
        self.assertEqual(counter_show(program), "up 0 2\nup 1 0")
        program[1] = ("up", 2, 0)
        with self.assertRaises(NoProgram):
            counter_look(program, 2)
        program.clear()
        self.assertIs(counter_look(program, 2), True)
        self.assertEqual(stands, whole)
        self.assertEqual(counter_run(list(PROGRAM), (0, (1, 0))), whole)

    def test_row_rules(self):
        rules = list(RULES)
        stands = row_run(rules, (0, "aab"))
        whole = list(stands)
        rules[0] = (0, "a", "", 1)
        self.assertEqual(stands, whole)
        self.assertEqual(row_run(rules, (0, "aab")), [(0, "aab"), (1, "ab")])
        self.assertEqual(row_step(rules, (0, "aab")), (1, "ab"))
        self.assertIs(row_look(rules), True)
        rules.append((0, "a", "b", 0))
        with self.assertRaises(NoProgram):
            row_look(rules)
        rules.clear()
        self.assertIs(row_look(rules), True)
        self.assertIsNone(row_step(rules, (0, "aab")))
        self.assertEqual(stands, whole)
        self.assertEqual(row_run(list(RULES), (0, "aab")), whole)


class SameAnswer(unittest.TestCase):

    def test_same_question_again(self):
        for turn in range(3):
            self.assertEqual(counter_step(list(PROGRAM), (0, (0, 3))), (2, (0, 3)))
            self.assertEqual(row_step(list(RULES), (0, "ab")), (0, "bb"))
            self.assertEqual(counter_show(counter_read(TEXT)), TEXT)
            with self.assertRaises(NoProgram) as taken:
                row_look(list(RULES + RULES))
            self.assertEqual(taken.exception.at, 3)


class WholeNumbers(unittest.TestCase):

    def test_numbers_told_are_no_truths(self):
        told = [counter_step(list(PROGRAM), (0, (1, 0))), counter_step([("up", 0, 1)], (0, (0,)))]
        for place, counts in told:
            self.assertIs(type(place), int)
            self.assertEqual([type(count) for count in counts], [int] * len(counts))
        self.assertIs(type(row_step(list(RULES), (0, "b"))[0]), int)


if __name__ == "__main__":
    unittest.main()
