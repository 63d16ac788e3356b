"""Promise 2 for makerows, tapes and maketapes: what is handed in stays, what is told is the asker's own."""

import unittest

from keeping import Keeping, answer
from oneofall.makerows import counter_image, counter_told, make_rows
from oneofall.maketapes import make_tape, row_image, row_told
from oneofall.tapes import tape_look, tape_run, tape_step

PROGRAM = (("down", 0, 1, 2), ("up", 1, 0))
ROWS = ((0, "a", "b", 0), (0, "b", "", 1), (1, "b", "ab", 0))
TAPE = ((0, "a", "b", "r", 0), (0, "_", "_", "l", 1), (1, "b", "a", "l", 1))

QUESTIONS = (
    (make_rows, [list(PROGRAM), 2]),
    (make_rows, [[], 1]),
    (counter_image, [(1, (2, 0))]),
    (counter_told, [2, 2, (1, "biiee")]),
    (counter_told, [2, 2, (1, "biie")]),
    (tape_look, [list(TAPE)]),
    (tape_look, [list(TAPE + TAPE)]),
    (tape_step, [list(TAPE), (0, "", "a", "a")]),
    (tape_step, [list(TAPE), (9, "", "a", "a")]),
    (tape_run, [list(TAPE), (0, "", "a", "a")]),
    (tape_run, [list(TAPE), (0, "", "a", "a"), 0]),
    (tape_run, [list(TAPE), (9, "", "a", "a")]),
    (make_tape, [list(ROWS), "ab", 1]),
    (make_tape, [[], "", 0]),
    (row_image, [(0, "ab"), 3]),
    (row_told, [0, (0, "_", "a", "b_")]),
    (row_told, [0, (0, "_", "_", "b_")]),
)


class Kept(Keeping, unittest.TestCase):

    QUESTIONS = QUESTIONS

    def test_later_answers_go_by_what_is_handed_in_then(self):
        rules = list(TAPE)
        self.assertEqual(tape_step(rules, (0, "", "a", "")), (0, "b", "_", ""))
        rules[0] = (0, "a", "c", "l", 7)
        self.assertEqual(tape_step(rules, (0, "", "a", "")), (7, "", "_", "c"))
        self.assertEqual(tape_run(rules, (0, "", "a", "")), [(0, "", "a", ""), (7, "", "_", "c")])
        rules.append(rules[0])
        self.assertEqual(answer(tape_look, [rules]), ("refused", 3))
        program = list(PROGRAM)
        make_rows(program, 2)
        program.append(("up", 0, 3))
        self.assertEqual(make_rows(program, 2), make_rows(list(PROGRAM) + [("up", 0, 3)], 2))
        rows = list(ROWS)
        make_tape(rows, "ab", 1)
        rows.pop()
        self.assertEqual(make_tape(rows, "ab", 1), make_tape(list(ROWS[:2]), "ab", 1))

    def test_numbers_told_are_no_truths(self):
        for call, things in QUESTIONS:
            self.assertNotIn(bool, kinds_within(answer(call, things)) if call != tape_look else [])


def kinds_within(thing):
    if isinstance(thing, (list, tuple)):
        return [kind for part in thing for kind in kinds_within(part)]
    return [type(thing)]


if __name__ == "__main__":
    unittest.main()
