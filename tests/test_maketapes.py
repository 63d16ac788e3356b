"""Promises 14 to 16, and 3 as far as it speaks of rows made tapes."""

import inspect
import random
import unittest

from oneofall.counters import counter_run
from oneofall.makerows import counter_image, counter_told, make_rows
from oneofall.maketapes import make_tape, row_image, row_told
from oneofall.rows import row_look, row_run, row_step
from oneofall.tapes import tape_look, tape_run, tape_step

ALPHABET = "abcdefghijklmnopqrstuvwxyz"


class Image(unittest.TestCase):

    def test_k_0(self):
        self.assertEqual(row_image((3, "a")), (3, "", "a", ""))
        self.assertEqual(row_image((3, "abc")), (3, "", "a", "bc"))
        self.assertEqual(row_image((3, "abc"), 0), (3, "", "a", "bc"))

    def test_k_above_0(self):
        self.assertEqual(row_image((0, "a"), 1), (0, "_", "a", "_"))
        self.assertEqual(row_image((0, "ab"), 1), (0, "_", "a", "b_"))
        self.assertEqual(row_image((5, "abc"), 3), (5, "___", "a", "bc_"))
        self.assertEqual(row_image((5, "abc"), k=400), (5, "_" * 400, "a", "bc_"))

    def test_row_without_signs(self):
        self.assertEqual(row_image((2, "")), (2, "", "_", ""))
        self.assertEqual(row_image((2, ""), 0), (2, "", "_", ""))
        self.assertEqual(row_image((2, ""), 1), (2, "_", "_", ""))
        self.assertEqual(row_image((2, ""), 400), (2, "_" * 400, "_", ""))

    def test_long_row(self):
        row = "abcd" * 100
        self.assertEqual(row_image((2, row)), (2, "", "a", row[1:]))
        self.assertEqual(row_image((2, row), 2), (2, "__", "a", row[1:] + "_"))


class Told(unittest.TestCase):

    def test_images_are_read_back(self):
        for row in ("", "a", "ab", "abc", "z" * 400):
            for k in (0, 1, 2, 400):
                for state in (0, 6, 7):
                    self.assertEqual(row_told(7, row_image((state, row), k)), (state, row))

    def test_states_at_and_above_top(self):
        self.assertEqual(row_told(7, (7, "", "a", "b")), (7, "ab"))
        self.assertIsNone(row_told(7, (8, "", "a", "b")))
        self.assertIsNone(row_told(7, (9000, "", "a", "b")))
        self.assertIsNone(row_told(0, (1, "", "_", "")))
        self.assertEqual(row_told(0, (0, "", "_", "")), (0, ""))

    def test_blanks_at_the_end(self):
        self.assertEqual(row_told(7, (1, "", "a", "b_")), (1, "ab"))
        self.assertEqual(row_told(7, (1, "", "a", "b____")), (1, "ab"))
        self.assertEqual(row_told(7, (1, "", "a", "_")), (1, "a"))
        self.assertEqual(row_told(7, (1, "", "a", "___")), (1, "a"))
        self.assertEqual(row_told(7, (1, "", "_", "___")), (1, ""))

    def test_a_blank_amid(self):
        for sign, right in (("a", "_b"), ("_", "a"), ("_", "ab_"), ("_", "_a"), ("a", "b_c_"), ("a", "__b__")):
            self.assertIsNone(row_told(7, (1, "", sign, right)))
            self.assertIsNone(row_told(7, (1, "___", sign, right)))

    def test_left_side_is_not_asked(self):
        for left in ("", "_", "___", "a", "ab_", "_ab"):
            self.assertEqual(row_told(7, (1, left, "a", "b_")), (1, "ab"))
            self.assertEqual(row_told(7, (1, left, "_", "")), (1, ""))
            self.assertIsNone(row_told(7, (1, left, "_", "b")))

    def test_kinds(self):
        told = row_told(7, (1, "", "a", ""))
        self.assertEqual((type(told), type(told[0]), type(told[1])), (tuple, int, str))


class Made(unittest.TestCase):

    def assert_form(self, made, rules, signs):
        self.assertIs(type(made), list)
        self.assertIs(tape_look(made), True)
        for rule in made:
            self.assertIs(type(rule), tuple)
            state, sign, write, move, target = rule
            self.assertEqual((type(state), type(target)), (int, int))
            self.assertGreaterEqual(min(state, target), 0)
            for letter in (sign, write):
                self.assertEqual((type(letter), len(letter)), (str, 1))
                self.assertIn(letter, signs + "_")
            self.assertIn(move, ("l", "r"))

    def assert_step(self, rules, made, top, stand, k):
        """From a stand's image to that of the next one behind one step more, or no step."""
        image = row_image(stand, k)
        behind = row_step(rules, stand)
        if behind is None:
            self.assertIsNone(tape_step(made, image))
            return
        word = [rule for rule in rules if rule[:2] == (stand[0], stand[1][0])][0][2]
        steps = 2 * len(stand[1]) + 2 * len(word) + 1
        stands = tape_run(made, image, steps)
        self.assertEqual(len(stands), steps + 1)
        self.assertEqual(stands[-1], row_image(behind, k + 1))
        for between in stands[1:-1]:
            self.assertGreater(between[0], top)
            self.assertIsNone(row_told(top, between))

    def assert_plays(self, rules, signs, top, stands):
        self.assertIs(row_look(rules), True)
        made = make_tape(rules, signs, top)
        self.assert_form(made, rules, signs)
        for stand in stands:
            for k in (0, 1, 2):
                self.assert_step(rules, made, top, stand, k)
        return made

    def test_no_rules(self):
        for signs in ("", "a", ALPHABET):
            made = make_tape([], signs, 3)
            self.assert_form(made, [], signs)
            for state in range(4):
                for row in [""] + list(signs) + [signs]:
                    for k in (0, 1):
                        self.assertIsNone(tape_step(made, row_image((state, row), k)))

    def test_words_of_each_length(self):
        for many in range(9):
            word = "abcdabcd"[:many]
            rules = [(0, "a", word, 0), (0, "b", word, 1), (1, "c", word[::-1], 0)]
            rows = ["", "a", "b", "c", "aa", "ab", "ba", "abcd", "cba", "bbbbbbbb"]
            self.assert_plays(rules, "abcd", 1, [(state, row) for state in (0, 1) for row in rows])

    def test_row_of_one_sign_and_word_without_signs(self):
        made = make_tape([(0, "a", "", 1)], "a", 1)
        stands = tape_run(made, (0, "", "a", ""), 3)
        self.assertEqual(stands[-1], (1, "_", "_", ""))
        self.assertIsNone(tape_step(made, stands[-1]))
        self.assertEqual(tape_run(made, (0, "__", "a", "_"))[-1], (1, "___", "_", ""))

    def test_words_that_end_alike(self):
        rules = [(0, "a", "abb", 0), (0, "b", "bb", 0), (1, "a", "bb", 0), (1, "b", "b", 0), (2, "a", "", 0),
                 (2, "b", "abb", 1)]
        rows = ["a", "b", "ab", "ba", "bbb", "aaab"]
        self.assert_plays(rules, "ab", 2, [(state, row) for state in (0, 1, 2) for row in rows])

    def test_signs_that_stand_in_no_rule(self):
        rules = [(0, "a", "ab", 1), (1, "b", "", 0)]
        stands = [(state, row) for state in (0, 1) for row in ("azyx", "bcq", "zab", "az", "bz", "a", "z", "")]
        self.assert_plays(rules, ALPHABET, 1, stands)
        self.assert_plays(rules, ALPHABET[::-1], 1, stands)

    def test_top_above_all_states(self):
        rules = [(0, "a", "ab", 1), (1, "b", "", 0), (1, "a", "b", 7)]
        for top in (7, 8, 100, 5000):
            stands = [(state, row) for state in (0, 1, 7, top) for row in ("ab", "ba", "b", "aab", "")]
            self.assert_plays(rules, "ab", top, stands)

    def test_top_at_the_states_and_states_with_gaps(self):
        rules = [(5000, "a", "a", 4000), (4000, "a", "ba", 5000), (4000, "b", "", 0)]
        self.assert_plays(rules, "ab", 5000, [(state, row) for state in (0, 4000, 5000) for row in ("ab", "ba", "a")])
        self.assert_plays([(0, "a", "aa", 0)], "a", 0, [(0, "a"), (0, "aaa"), (0, "")])

    def test_many_programs(self):
        chance = random.Random(15)
        for turn in range(150):
            signs = "".join(chance.sample(ALPHABET, chance.randrange(1, 6)))
            states = chance.randrange(1, 5)
            rules = any_rules(chance, signs, states, states * len(signs))
            top = states - 1 + chance.choice([0, 0, 3])
            stands = [(chance.randrange(states), any_text(chance, signs, 9)) for k in range(8)]
            self.assert_plays(rules, signs, top, stands)

    def test_long_rows_far_behind(self):
        rules = [(0, "a", "abababab", 1), (1, "b", "", 0), (1, "a", "b", 0)]
        made = make_tape(rules, "ab", 1)
        for row in ("a" * 400, "ab" * 200, "ba" * 200):
            for k in (0, 1, 400):
                for state in (0, 1):
                    self.assert_step(rules, made, 1, (state, row), k)

    def test_run_of_several_steps(self):
        chance = random.Random(3)
        for turn in range(40):
            rules = any_rules(chance, "abc", 3, 9)
            start = (0, any_text(chance, "abc", 6))
            stands = row_run(rules, start, 12)
            made = make_tape(rules, "abc", 2)
            taped = tape_run(made, row_image(start), 4000)
            images = [stand for stand in taped if row_told(2, stand) is not None]
            self.assertEqual(images[:len(stands)], [row_image(stand, k) for k, stand in enumerate(stands)])
            if len(stands) < 13:
                self.assertEqual(taped[-1], row_image(stands[-1], len(stands) - 1))

    def test_200_rules_within_the_bound_of_tapes(self):
        chance = random.Random(200)
        for signs, states in (("abc", 100), ("abcdefgh", 50), ("abcdefghi", 200)):
            keys = [(state, sign) for state in range(states) for sign in signs]
            keys = chance.sample(keys, 200)
            rules = []
            for k, (state, sign) in enumerate(keys):
                rules.append((state, sign, any_text(chance, signs, 8, 8), k % states))
            stands = [(state, sign + any_text(chance, signs, 9)) for state, sign in keys[:40]]
            made = self.assert_plays(rules, signs, states - 1, stands)
            self.assertLessEqual(len(made), 6000)

    def test_200_rules_with_all_letters(self):
        chance = random.Random(201)
        keys = chance.sample([(state, sign) for state in range(8) for sign in ALPHABET], 200)
        rules = [(state, sign, any_text(chance, ALPHABET, 8), chance.randrange(8)) for state, sign in keys]
        stands = [(state, sign + any_text(chance, ALPHABET, 9)) for state, sign in keys]
        self.assert_plays(rules, ALPHABET, 7, stands)
        rules = [(state, sign, sign, 0) for state, sign in keys]
        made = self.assert_plays(rules, ALPHABET, 7, stands)
        self.assertLessEqual(len(made), 6000)

    def test_states_made_leave_no_gap(self):
        made = make_tape([(0, "a", "ab", 1), (1, "b", "", 0)], "ab", 10)
        states = sorted({rule[0] for rule in made} | {rule[4] for rule in made})
        self.assertEqual(states, [0, 1] + list(range(11, 11 + len(states) - 2)))


class CountersToTapes(unittest.TestCase):

    def test_counters_are_played_by_a_tape(self):
        program = [("down", 0, 1, 2), ("up", 1, 0)]
        rules = make_rows(program, 2)
        top = max(max(rule[0], rule[3]) for rule in rules)
        made = make_tape(rules, "bei", top)
        for counts in ((0, 0), (1, 0), (2, 3)):
            told = []
            for stand in tape_run(made, row_image(counter_image((0, counts))), 20000):
                row = row_told(top, stand)
                if row is not None and counter_told(2, 2, row) is not None:
                    told.append(counter_told(2, 2, row))
            self.assertEqual(told, counter_run(program, (0, counts)))


def any_rules(chance, signs, states, most):
    keys = [(state, sign) for state in range(states) for sign in signs]
    rules = []
    for state, sign in chance.sample(keys, chance.randrange(len(keys) // 2, most + 1)):
        rules.append((state, sign, any_text(chance, signs, chance.choice([0, 1, 2, 8])), chance.randrange(states)))
    return rules


def any_text(chance, signs, most, least=0):
    return "".join(chance.choice(signs) for k in range(chance.randrange(least, most + 1)))


class Interface(unittest.TestCase):

    def test_arguments(self):
        for call, names in (
            (row_image, ["stand", "k"]),
            (make_tape, ["rules", "signs", "top"]),
            (row_told, ["top", "stand"]),
        ):
            self.assertEqual(list(inspect.signature(call).parameters), names)
        self.assertEqual(inspect.signature(row_image).parameters["k"].default, 0)


if __name__ == "__main__":
    unittest.main()
