"""Promises 4 and 5: programs of counters, their steps and runs."""

import inspect
import random
import unittest

from oneofall.counters import counter_look, counter_run, counter_step
from oneofall.errors import NoTree, OneError
from refusals import assert_no_program

MOVE = [("down", 0, 1, 2), ("up", 1, 0)]
AROUND = [("up", 0, 0)]


class Look(unittest.TestCase):

    def test_programs_that_fit(self):
        self.assertIs(counter_look(MOVE, 2), True)
        self.assertIs(counter_look(MOVE, 3), True)
        self.assertIs(counter_look(AROUND, 1), True)

    def test_program_without_rows_fits(self):
        self.assertIs(counter_look([], 1), True)
        self.assertIs(counter_look([], 6), True)

    def test_greatest_program_fits(self):
        program = [("down", k % 6, 20, k) for k in range(20)]
        self.assertIs(counter_look(program, 6), True)
        assert_no_program(self, 5, counter_look, program, 5)

    def test_counter_at_the_number_of_counters(self):
        for many in range(1, 7):
            for row in (("up", many, 0), ("down", many, 0, 0)):
                self.assertIs(counter_look([row], many + 1), True)
                assert_no_program(self, 0, counter_look, [row], many)

    def test_counter_far_above(self):
        assert_no_program(self, 0, counter_look, [("up", 999, 0)], 6)

    def test_to_at_the_stop_and_above_it(self):
        for many_rows in range(1, 5):
            ahead = [("up", 0, 0)] * (many_rows - 1)
            for to in range(many_rows + 1):
                self.assertIs(counter_look(ahead + [("up", 0, to)], 1), True)
                self.assertIs(counter_look(ahead + [("down", 0, to, 0)], 1), True)
            above = many_rows + 1
            assert_no_program(self, many_rows - 1, counter_look, ahead + [("up", 0, above)], 1)
            assert_no_program(self, many_rows - 1, counter_look, ahead + [("down", 0, above, 0)], 1)

    def test_other_at_the_stop_and_above_it(self):
        for many_rows in range(1, 5):
            ahead = [("up", 0, 0)] * (many_rows - 1)
            for other in range(many_rows + 1):
                self.assertIs(counter_look(ahead + [("down", 0, 0, other)], 1), True)
            above = many_rows + 1
            assert_no_program(self, many_rows - 1, counter_look, ahead + [("down", 0, 0, above)], 1)

    def test_row_that_fits_in_nothing(self):
        assert_no_program(self, 1, counter_look, [("up", 0, 0), ("down", 9, 9, 9)], 1)

    def test_first_of_several_rows_that_do_not_fit(self):
        fits = ("up", 0, 0)
        no_counter = ("up", 2, 0)
        no_to = ("up", 0, 6)
        no_other = ("down", 1, 0, 6)
        bad_rows = (no_counter, no_to, no_other)
        for first in bad_rows:
            for second in bad_rows:
                assert_no_program(self, 0, counter_look, [first, fits, second, fits, fits], 2)
                assert_no_program(self, 2, counter_look, [fits, fits, first, second, fits], 2)
                assert_no_program(self, 3, counter_look, [fits, fits, fits, first, second], 2)
                assert_no_program(self, 4, counter_look, [fits, fits, fits, fits, second], 2)

    def test_refusal_is_taken_as_one_error_and_as_value_error(self):
        for kind in (OneError, ValueError):
            with self.assertRaises(kind):
                counter_look([("up", 1, 0)], 1)

    def test_refusal_is_not_taken_as_no_tree(self):
        try:
            counter_look([("up", 1, 0)], 1)
        except NoTree:
            self.fail("taken as NoTree")
        except OneError as error:
            self.assertEqual(error.at, 0)
        else:
            self.fail("not refused")


class Step(unittest.TestCase):

    def test_up(self):
        program = [("up", 1, 2), ("up", 0, 1), ("up", 2, 3)]
        self.assertEqual(counter_step(program, (0, (4, 5, 6))), (2, (4, 6, 6)))
        self.assertEqual(counter_step(program, (1, (4, 5, 6))), (1, (5, 5, 6)))
        self.assertEqual(counter_step(program, (2, (4, 5, 6))), (3, (4, 5, 7)))
        self.assertEqual(counter_step(program, (0, (0, 0, 0))), (2, (0, 1, 0)))

    def test_down_of_a_counter_that_is_not_0(self):
        program = [("down", 1, 1, 2), ("down", 0, 0, 1)]
        self.assertEqual(counter_step(program, (0, (4, 5, 6))), (1, (4, 4, 6)))
        self.assertEqual(counter_step(program, (0, (0, 1, 0))), (1, (0, 0, 0)))
        self.assertEqual(counter_step(program, (1, (1, 0, 0))), (0, (0, 0, 0)))

    def test_down_of_a_counter_that_is_0(self):
        program = [("down", 1, 1, 2), ("down", 0, 0, 1)]
        self.assertEqual(counter_step(program, (0, (4, 0, 6))), (2, (4, 0, 6)))
        self.assertEqual(counter_step(program, (1, (0, 5, 6))), (1, (0, 5, 6)))

    def test_step_tells_tuples(self):
        for stand in ((0, (0, 0)), (0, (1, 0)), (1, (0, 0))):
            told = counter_step(MOVE, stand)
            self.assertIs(type(told), tuple)
            self.assertIs(type(told[1]), tuple)
            self.assertEqual(len(told), 2)

    def test_no_step_at_the_stop(self):
        self.assertIsNone(counter_step(MOVE, (2, (1, 1))))
        self.assertIsNone(counter_step(MOVE, (2, (0, 0))))
        self.assertIsNone(counter_step([], (0, (3,))))

    def test_counts_near_the_bound(self):
        top = 10 ** 18 - 1
        program = [("up", 0, 1), ("down", 1, 0, 2)]
        self.assertEqual(counter_step(program, (0, (top - 1, top))), (1, (top, top)))
        self.assertEqual(counter_step(program, (1, (top, top))), (0, (top, top - 1)))
        self.assertEqual(counter_step(program, (0, (top, 0))), (1, (10 ** 18, 0)))

    def test_six_counters(self):
        for counter in range(6):
            counts = (1, 2, 3, 4, 5, 6)
            more = tuple(n + 1 if k == counter else n for k, n in enumerate(counts))
            less = tuple(n - 1 if k == counter else n for k, n in enumerate(counts))
            self.assertEqual(counter_step([("up", counter, 1)], (0, counts)), (1, more))
            self.assertEqual(counter_step([("down", counter, 1, 0)], (0, counts)), (1, less))


class Run(unittest.TestCase):

    def test_run_up_to_the_stop(self):
        stands = [
            (0, (2, 1)),
            (1, (1, 1)),
            (0, (1, 2)),
            (1, (0, 2)),
            (0, (0, 3)),
            (2, (0, 3)),
        ]
        self.assertEqual(counter_run(MOVE, (0, (2, 1))), stands)
        for most in range(6):
            self.assertEqual(counter_run(MOVE, (0, (2, 1)), most), stands[:most + 1])
        self.assertEqual(counter_run(MOVE, (0, (2, 1)), 6), stands)
        self.assertEqual(counter_run(MOVE, (0, (2, 1)), 50000), stands)

    def test_run_begins_anywhere(self):
        self.assertEqual(counter_run(MOVE, (1, (0, 0))), [(1, (0, 0)), (0, (0, 1)), (2, (0, 1))])

    def test_most_0_tells_the_stand_alone(self):
        for stand in ((0, (2, 1)), (1, (0, 0)), (2, (5, 5))):
            self.assertEqual(counter_run(MOVE, stand, 0), [stand])

    def test_run_from_the_stop(self):
        self.assertEqual(counter_run(MOVE, (2, (5, 5))), [(2, (5, 5))])
        self.assertEqual(counter_run([], (0, (5,)), 7), [(0, (5,))])

    def test_most_left_out_is_100(self):
        stands = counter_run(AROUND, (0, (3,)))
        self.assertEqual(stands, [(0, (k + 3,)) for k in range(101)])
        self.assertEqual(inspect.signature(counter_run).parameters["most"].default, 100)

    def test_most_by_its_name(self):
        stands = counter_run(program=AROUND, stand=(0, (0,)), most=2)
        self.assertEqual(stands, [(0, (0,)), (0, (1,)), (0, (2,))])

    def test_long_runs(self):
        stands = counter_run(AROUND, (0, (0,)), 50000)
        self.assertEqual(stands, [(0, (k,)) for k in range(50001)])
        stands = counter_run(MOVE, (0, (10 ** 17, 0)), 50000)
        self.assertEqual(len(stands), 50001)
        self.assertEqual(stands[-1], (0, (10 ** 17 - 25000, 25000)))

    def test_long_run_that_stops(self):
        stands = counter_run(MOVE, (0, (20000, 0)), 50000)
        self.assertEqual(len(stands), 40002)
        self.assertEqual(stands[-1], (2, (0, 20000)))

    def test_run_with_counts_near_the_bound(self):
        low = 10 ** 18 - 4
        self.assertEqual(counter_run(AROUND, (0, (low,)), 3), [(0, (low + k,)) for k in range(4)])

    def test_many_programs_against_a_plain_player(self):
        chance = random.Random(5)
        for turn in range(300):
            program, many = any_program(chance)
            self.assertIs(counter_look(program, many), True)
            counts = tuple(chance.randrange(4) for k in range(many))
            stand = (chance.randrange(len(program) + 1), counts)
            most = chance.randrange(60)
            stands = counter_run(program, stand, most)
            self.assertEqual(stands, played(program, stand, most))
            for ahead, behind in zip(stands, stands[1:]):
                self.assertEqual(counter_step(program, ahead), behind)


def any_program(chance):
    many = chance.randrange(1, 7)
    stop = chance.randrange(1, 21)
    program = []
    for k in range(stop):
        counter, to, other = chance.randrange(many), chance.randrange(stop + 1), chance.randrange(stop + 1)
        program.append(chance.choice([("up", counter, to), ("down", counter, to, other)]))
    return program, many


def played(program, stand, most):
    place, counts = stand[0], list(stand[1])
    stands = [stand]
    for turn in range(most):
        if place == len(program):
            break
        word, counter, *places = program[place]
        if word == "up":
            counts[counter] += 1
            place = places[0]
        elif counts[counter]:
            counts[counter] -= 1
            place = places[0]
        else:
            place = places[1]
        stands.append((place, tuple(counts)))
    return stands


class Interface(unittest.TestCase):

    def test_arguments(self):
        for call, names in (
            (counter_look, ["program", "many"]),
            (counter_step, ["program", "stand"]),
            (counter_run, ["program", "stand", "most"]),
        ):
            self.assertEqual(list(inspect.signature(call).parameters), names)


if __name__ == "__main__":
    unittest.main()
