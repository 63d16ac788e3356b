"""Promises 12 and 13: programs of tapes, their steps and runs."""

import inspect
import random
import unittest

from oneofall.tapes import tape_look, tape_run, tape_step
from refusals import assert_no_program

RULES = [
    (0, "a", "b", "r", 1),
    (0, "b", "_", "l", 0),
    (0, "_", "c", "l", 5000),
    (1, "_", "_", "r", 1),
    (1, "a", "_", "r", 0),
    (1, "b", "b", "l", 2),
]
TO_AND_FRO = [(0, "a", "a", "r", 0), (0, "_", "_", "l", 1), (1, "a", "a", "l", 1), (1, "_", "_", "r", 0)]
LETTERS = "_abcdefghijklmnopqrstuvwxyz"


class Look(unittest.TestCase):

    def test_rules_all_unlike(self):
        self.assertIs(tape_look(RULES), True)
        self.assertIs(tape_look(TO_AND_FRO), True)
        self.assertIs(tape_look([(0, "_", "_", "l", 0)]), True)

    def test_no_rules(self):
        self.assertIs(tape_look([]), True)

    def test_same_state_or_same_sign_alone(self):
        self.assertIs(tape_look([(3, sign, "w", "r", 3) for sign in LETTERS]), True)
        self.assertIs(tape_look([(state, "_", "w", "r", 3) for state in range(50)]), True)

    def test_two_rules_that_are_the_same(self):
        assert_no_program(self, 1, tape_look, [(0, "a", "b", "r", 1), (0, "a", "b", "r", 1)])
        assert_no_program(self, 1, tape_look, [(0, "_", "_", "r", 1), (0, "_", "_", "r", 1)])

    def test_same_state_and_sign_with_another_end(self):
        first = (0, "a", "b", "r", 1)
        for second in ((0, "a", "c", "r", 1), (0, "a", "b", "l", 1), (0, "a", "b", "r", 2), (0, "a", "_", "l", 3)):
            assert_no_program(self, 1, tape_look, [first, second])
            assert_no_program(self, 2, tape_look, [first, (1, "a", "b", "r", 1), second])

    def test_several_like_rules(self):
        first, second, third = (0, "a", "_", "r", 0), (0, "_", "_", "r", 0), (1, "a", "_", "r", 0)
        assert_no_program(self, 2, tape_look, [first, second, second, first])
        assert_no_program(self, 2, tape_look, [first, second, first, second])
        assert_no_program(self, 1, tape_look, [first, first, first])
        assert_no_program(self, 3, tape_look, [first, second, third, third, second, first])
        assert_no_program(self, 3, tape_look, [first, second, third, first, third])

    def test_like_ones_among_6000_rules(self):
        rules = [(k // 27, LETTERS[k % 27], LETTERS[k % 5], "lr"[k % 2], k % 5001) for k in range(6000)]
        self.assertIs(tape_look(rules), True)
        for ahead, behind in ((0, 5999), (5998, 5999), (0, 1), (2400, 4777)):
            like = list(rules)
            like[behind] = (rules[ahead][0], rules[ahead][1], "z", "l", 0)
            assert_no_program(self, behind, tape_look, like)
        like[900] = rules[3]
        like[300] = rules[2]
        assert_no_program(self, 300, tape_look, like)


class Step(unittest.TestCase):

    def test_to_the_right_onto_the_side(self):
        self.assertEqual(tape_step(RULES, (0, "xy", "a", "cd")), (1, "xyb", "c", "d"))
        self.assertEqual(tape_step(RULES, (0, "", "a", "c")), (1, "b", "c", ""))
        self.assertEqual(tape_step(RULES, (0, "", "a", "_d")), (1, "b", "_", "d"))

    def test_to_the_right_beyond_the_end(self):
        self.assertEqual(tape_step(RULES, (0, "xy", "a", "")), (1, "xyb", "_", ""))
        self.assertEqual(tape_step(RULES, (0, "", "a", "")), (1, "b", "_", ""))

    def test_to_the_left_onto_the_side(self):
        self.assertEqual(tape_step(RULES, (1, "xy", "b", "cd")), (2, "x", "y", "bcd"))
        self.assertEqual(tape_step(RULES, (1, "x", "b", "")), (2, "", "x", "b"))
        self.assertEqual(tape_step(RULES, (1, "x_", "b", "")), (2, "x", "_", "b"))

    def test_to_the_left_beyond_the_end(self):
        self.assertEqual(tape_step(RULES, (1, "", "b", "cd")), (2, "", "_", "bcd"))
        self.assertEqual(tape_step(RULES, (1, "", "b", "")), (2, "", "_", "b"))

    def test_blank_written_is_not_cut_off(self):
        self.assertEqual(tape_step(RULES, (1, "", "a", "")), (0, "_", "_", ""))
        self.assertEqual(tape_step(RULES, (1, "", "a", "__")), (0, "_", "_", "_"))
        self.assertEqual(tape_step(RULES, (0, "", "b", "")), (0, "", "_", "_"))
        self.assertEqual(tape_step(RULES, (0, "__", "b", "")), (0, "_", "_", "_"))
        self.assertEqual(tape_step(RULES, (1, "__", "_", "__")), (1, "___", "_", "_"))
        self.assertEqual(tape_step(RULES, (1, "", "_", "")), (1, "_", "_", ""))

    def test_blank_read(self):
        self.assertEqual(tape_step(RULES, (0, "a", "_", "b")), (5000, "", "a", "cb"))

    def test_no_rule(self):
        self.assertIsNone(tape_step(RULES, (0, "a", "c", "a")))
        self.assertIsNone(tape_step(RULES, (2, "a", "a", "a")))
        self.assertIsNone(tape_step(RULES, (5000, "a", "_", "a")))
        self.assertIsNone(tape_step([], (0, "a", "a", "a")))
        self.assertIsNone(tape_step([], (0, "", "_", "")))

    def test_kinds(self):
        told = tape_step(RULES, (0, "", "a", ""))
        self.assertIs(type(told), tuple)
        self.assertEqual([type(part) for part in told], [int, str, str, str])

    def test_order_of_the_rules_is_nothing(self):
        for stand in ((0, "x", "a", "y"), (0, "x", "b", "y"), (1, "", "_", ""), (2, "", "a", "")):
            self.assertEqual(tape_step(list(reversed(RULES)), stand), tape_step(RULES, stand))

    def test_long_sides(self):
        left, right = "xyzw" * 100, "abcd" * 100
        self.assertEqual(tape_step(RULES, (0, left, "a", right)), (1, left + "b", "a", right[1:]))
        self.assertEqual(tape_step(RULES, (1, left, "b", right)), (2, left[:-1], "w", "b" + right))

    def test_6000_rules(self):
        rules = [(k // 27, LETTERS[k % 27], LETTERS[k % 5], "lr"[k % 2], k % 5001) for k in range(6000)]
        for k in (0, 1, 26, 27, 3000, 5998, 5999):
            state, sign, write, move, target = rules[k]
            behind = (target, "x", "y", write) if move == "l" else (target, "xy" + write, "_", "")
            self.assertEqual(tape_step(rules, (state, "xy", sign, "")), behind)


class Run(unittest.TestCase):

    def test_run_up_to_the_stop(self):
        stands = [
            (0, "", "a", "_b"),
            (1, "b", "_", "b"),
            (1, "b_", "b", ""),
            (2, "b", "_", "b"),
        ]
        self.assertEqual(tape_run(RULES, (0, "", "a", "_b")), stands)
        for most in range(4):
            self.assertEqual(tape_run(RULES, (0, "", "a", "_b"), most), stands[:most + 1])
        self.assertEqual(tape_run(RULES, (0, "", "a", "_b"), 4), stands)
        self.assertEqual(tape_run(RULES, (0, "", "a", "_b"), 50000), stands)

    def test_most_0_tells_the_stand_alone(self):
        for stand in ((0, "", "a", ""), (9, "x", "_", "y")):
            self.assertEqual(tape_run(RULES, stand, 0), [stand])

    def test_run_from_a_stand_without_step(self):
        self.assertEqual(tape_run(RULES, (9, "a", "b", "c")), [(9, "a", "b", "c")])
        self.assertEqual(tape_run([], (0, "", "_", "")), [(0, "", "_", "")])

    def test_most_left_out_is_100(self):
        stands = tape_run([(1, "_", "a", "r", 1)], (1, "", "_", ""))
        self.assertEqual(stands, [(1, "a" * k, "_", "") for k in range(101)])
        stands = tape_run([(1, "_", "a", "l", 1)], (1, "", "_", ""))
        self.assertEqual(stands, [(1, "", "_", "a" * k) for k in range(101)])
        self.assertEqual(inspect.signature(tape_run).parameters["most"].default, 100)

    def test_most_by_its_name(self):
        stands = tape_run(rules=TO_AND_FRO, stand=(0, "", "a", ""), most=1)
        self.assertEqual(stands, [(0, "", "a", ""), (0, "a", "_", "")])

    def test_long_run_to_and_fro(self):
        row = "a" * 399
        stands = tape_run(TO_AND_FRO, (0, "", "a", row), 50000)
        self.assertEqual(len(stands), 50001)
        self.assertEqual(stands[400], (0, "a" * 400, "_", ""))
        self.assertEqual(stands[800], (1, "", "a", row + "_"))
        self.assertEqual(stands[801], (1, "", "_", "a" * 400 + "_"))
        self.assertEqual(stands[802], (0, "_", "a", row + "_"))
        self.assertEqual(stands[50000], stands[50000 - 802])
        for stand in stands[802:]:
            self.assertEqual(len(stand[1]) + len(stand[3]), 401)

    def test_long_run_by_many_rules(self):
        rules = [(k, "_", "_", "lr"[k % 2], (k + 1) % 5000) for k in range(5000)]
        stands = tape_run(rules, (0, "", "_", ""), 50000)
        self.assertEqual(len(stands), 50001)
        self.assertEqual(stands[1:3], [(1, "", "_", "_"), (2, "_", "_", "")])
        self.assertEqual(stands[50000], (0, "_", "_", ""))

    def test_many_programs_against_a_plain_player(self):
        chance = random.Random(13)
        for turn in range(300):
            rules = any_rules(chance)
            self.assertIs(tape_look(rules), True)
            left, right = ["".join(chance.choice("ab_") for k in range(chance.randrange(5))) for side in "lr"]
            stand = (chance.randrange(4), left, chance.choice("ab_"), right)
            most = chance.randrange(80)
            stands = tape_run(rules, stand, most)
            self.assertEqual(stands, played(rules, stand, most))
            for ahead, behind in zip(stands, stands[1:]):
                self.assertEqual(tape_step(rules, ahead), behind)


def any_rules(chance):
    keys = [(state, sign) for state in range(4) for sign in "ab_"]
    chance.shuffle(keys)
    rules = []
    for state, sign in keys[:chance.randrange(6, 13)]:
        rules.append((state, sign, chance.choice("ab_"), chance.choice("lr"), chance.randrange(4)))
    return rules


def played(rules, stand, most):
    """A player that keeps the tape in a dict by place, and the places where the head has been."""
    state, left, sign, right = stand
    tape = dict(enumerate(left + sign + right, start=-len(left)))
    head = 0
    stands = [stand]
    for turn in range(most):
        fit = [rule for rule in rules if rule[:2] == (state, tape[head])]
        if not fit:
            break
        tape[head] = fit[0][2]
        head += 1 if fit[0][3] == "r" else -1
        state = fit[0][4]
        tape.setdefault(head, "_")
        sides = ["".join(tape[at] for at in range(min(tape), head)),
                 "".join(tape[at] for at in range(head + 1, max(tape) + 1))]
        stands.append((state, sides[0], tape[head], sides[1]))
    return stands


class Interface(unittest.TestCase):

    def test_arguments(self):
        for call, names in (
            (tape_look, ["rules"]),
            (tape_step, ["rules", "stand"]),
            (tape_run, ["rules", "stand", "most"]),
        ):
            self.assertEqual(list(inspect.signature(call).parameters), names)


if __name__ == "__main__":
    unittest.main()
