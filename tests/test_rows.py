"""Promises 7 and 8: programs of rows, their steps and runs."""

import inspect
import random
import unittest

from oneofall.rows import row_look, row_run, row_step
from refusals import assert_no_program

RULES = [(0, "a", "bb", 1), (1, "b", "", 0), (1, "a", "a", 1), (0, "b", "abcdefgh", 5000)]
TURN = [(0, "a", "a", 0), (0, "b", "b", 0)]


class Look(unittest.TestCase):

    def test_rules_all_unlike(self):
        self.assertIs(row_look(RULES), True)
        self.assertIs(row_look([(0, "a", "", 0)]), True)

    def test_no_rules(self):
        self.assertIs(row_look([]), True)

    def test_same_state_or_same_sign_alone(self):
        self.assertIs(row_look([(3, sign, "w", 3) for sign in "abcdefghijklmnopqrstuvwxyz"]), True)
        self.assertIs(row_look([(state, "a", "w", 3) for state in range(50)]), True)

    def test_same_word_and_next(self):
        self.assertIs(row_look([(0, "a", "b", 1), (1, "a", "b", 1), (0, "b", "b", 1)]), True)

    def test_two_rules_that_are_the_same(self):
        assert_no_program(self, 1, row_look, [(0, "a", "b", 1), (0, "a", "b", 1)])

    def test_same_state_and_sign_with_other_word_and_next(self):
        assert_no_program(self, 1, row_look, [(0, "a", "b", 1), (0, "a", "c", 1)])
        assert_no_program(self, 1, row_look, [(0, "a", "b", 1), (0, "a", "b", 2)])
        assert_no_program(self, 2, row_look, [(0, "a", "b", 1), (1, "a", "b", 1), (0, "a", "", 7)])

    def test_several_like_rules(self):
        first, second, third = (0, "a", "", 0), (0, "b", "", 0), (1, "a", "", 0)
        assert_no_program(self, 2, row_look, [first, second, second, first])
        assert_no_program(self, 2, row_look, [first, second, first, second])
        assert_no_program(self, 1, row_look, [first, first, first])
        assert_no_program(self, 3, row_look, [first, second, third, third, second, first])
        assert_no_program(self, 3, row_look, [first, second, third, first, third])

    def test_like_ones_among_many_rules(self):
        rules = [(k // 20, "abcdefghijklmnopqrst"[k % 20], "a" * (k % 9), k) for k in range(1000)]
        self.assertIs(row_look(rules), True)
        for ahead, behind in ((0, 999), (998, 999), (0, 1), (400, 777), (500, 501)):
            like = list(rules)
            like[behind] = (rules[ahead][0], rules[ahead][1], "z", 0)
            assert_no_program(self, behind, row_look, like)
        like[900] = rules[3]
        like[300] = rules[2]
        assert_no_program(self, 300, row_look, like)


class Step(unittest.TestCase):

    def test_step(self):
        self.assertEqual(row_step(RULES, (0, "a")), (1, "bb"))
        self.assertEqual(row_step(RULES, (0, "ab")), (1, "bbb"))
        self.assertEqual(row_step(RULES, (0, "aca")), (1, "cabb"))
        self.assertEqual(row_step(RULES, (1, "abc")), (1, "bca"))

    def test_word_without_signs(self):
        self.assertEqual(row_step(RULES, (1, "bca")), (0, "ca"))
        self.assertEqual(row_step(RULES, (1, "b")), (0, ""))

    def test_word_of_eight_signs_and_the_greatest_state(self):
        self.assertEqual(row_step(RULES, (0, "bx")), (5000, "xabcdefgh"))
        self.assertEqual(row_step([(5000, "z", "z", 5000)], (5000, "zy")), (5000, "yz"))

    def test_no_step_for_the_row_without_signs(self):
        for state in (0, 1, 7):
            self.assertIsNone(row_step(RULES, (state, "")))

    def test_no_step_without_a_rule(self):
        self.assertIsNone(row_step(RULES, (0, "c")))
        self.assertIsNone(row_step(RULES, (0, "ca")))
        self.assertIsNone(row_step(RULES, (2, "a")))
        self.assertIsNone(row_step(RULES, (5000, "a")))
        self.assertIsNone(row_step([], (0, "a")))
        self.assertIsNone(row_step([], (0, "")))

    def test_step_tells_a_tuple(self):
        self.assertIs(type(row_step(RULES, (0, "a"))), tuple)

    def test_order_of_the_rules_is_nothing(self):
        for stand in ((0, "ab"), (1, "b"), (1, "a"), (0, "b"), (2, "a")):
            self.assertEqual(row_step(list(reversed(RULES)), stand), row_step(RULES, stand))

    def test_long_row(self):
        row = "a" + "xyz" * 133
        self.assertEqual(len(row), 400)
        self.assertEqual(row_step(RULES, (0, row)), (1, "xyz" * 133 + "bb"))

    def test_many_rules(self):
        signs = "abcdefghijklmnopqrst"
        rules = [(k // 20, signs[k % 20], "w" * (k % 9), 5000 - k) for k in range(1000)]
        for k in (0, 1, 19, 20, 500, 998, 999):
            self.assertEqual(row_step(rules, (k // 20, signs[k % 20] + "v")), (5000 - k, "v" + "w" * (k % 9)))


class Run(unittest.TestCase):

    def test_run_up_to_a_stand_without_a_rule(self):
        stands = [(0, "ac"), (1, "cbb")]
        self.assertEqual(row_run(RULES, (0, "ac")), stands)
        self.assertEqual(row_run(RULES, (0, "ac"), 1), stands)
        self.assertEqual(row_run(RULES, (0, "ac"), 50000), stands)

    def test_run_up_to_the_row_without_signs(self):
        rules = [(0, "a", "b", 0), (0, "b", "", 1), (1, "b", "", 0)]
        stands = [(0, "aa"), (0, "ab"), (0, "bb"), (1, "b"), (0, "")]
        self.assertEqual(row_run(rules, (0, "aa")), stands)
        for most in range(5):
            self.assertEqual(row_run(rules, (0, "aa"), most), stands[:most + 1])
        self.assertEqual(row_run(rules, (0, "aa"), 5), stands)

    def test_most_0_tells_the_stand_alone(self):
        for stand in ((0, "aa"), (0, ""), (9, "a")):
            self.assertEqual(row_run(RULES, stand, 0), [stand])

    def test_run_from_a_stand_without_step(self):
        self.assertEqual(row_run(RULES, (0, "")), [(0, "")])
        self.assertEqual(row_run(RULES, (9, "a")), [(9, "a")])
        self.assertEqual(row_run([], (0, "a")), [(0, "a")])

    def test_most_left_out_is_100(self):
        stands = row_run(TURN, (0, "ab"))
        self.assertEqual(stands, [(0, "ab"), (0, "ba")] * 50 + [(0, "ab")])
        self.assertEqual(inspect.signature(row_run).parameters["most"].default, 100)

    def test_most_by_its_name(self):
        self.assertEqual(row_run(rules=TURN, stand=(0, "ab"), most=1), [(0, "ab"), (0, "ba")])

    def test_long_run_of_a_long_row(self):
        row = "ab" * 150 + "b" * 100
        stands = row_run(TURN, (0, row), 50000)
        self.assertEqual(len(stands), 50001)
        for k in (0, 1, 2, 399, 400, 401, 49999, 50000):
            cut = k % 400
            self.assertEqual(stands[k], (0, row[cut:] + row[:cut]))

    def test_long_run_by_many_rules(self):
        rules = [(k, "a", "a", (k + 1) % 1000) for k in range(1000)]
        stands = row_run(rules, (0, "a"), 50000)
        self.assertEqual(stands, [(k % 1000, "a") for k in range(50001)])

    def test_many_programs_against_a_plain_player(self):
        chance = random.Random(8)
        for turn in range(300):
            rules = any_rules(chance)
            self.assertIs(row_look(rules), True)
            row = "".join(chance.choice("abc") for k in range(chance.randrange(20)))
            stand = (chance.randrange(4), row)
            most = chance.randrange(60)
            stands = row_run(rules, stand, most)
            self.assertEqual(stands, played(rules, stand, most))
            for ahead, behind in zip(stands, stands[1:]):
                self.assertEqual(row_step(rules, ahead), behind)


def any_rules(chance):
    keys = [(state, sign) for state in range(4) for sign in "abc"]
    chance.shuffle(keys)
    rules = []
    for state, sign in keys[:chance.randrange(6, 13)]:
        word = "".join(chance.choice("abc") for k in range(chance.choice([0, 0, 1, 1, 2, 8])))
        rules.append((state, sign, word, chance.randrange(4)))
    return rules


def played(rules, stand, most):
    state, signs = stand[0], list(stand[1])
    stands = [stand]
    for turn in range(most):
        fit = [rule for rule in rules if signs and rule[:2] == (state, signs[0])]
        if not fit:
            break
        signs.pop(0)
        signs.extend(fit[0][2])
        state = fit[0][3]
        stands.append((state, "".join(signs)))
    return stands


class Interface(unittest.TestCase):

    def test_arguments(self):
        for call, names in (
            (row_look, ["rules"]),
            (row_step, ["rules", "stand"]),
            (row_run, ["rules", "stand", "most"]),
        ):
            self.assertEqual(list(inspect.signature(call).parameters), names)


if __name__ == "__main__":
    unittest.main()
