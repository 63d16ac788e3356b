"""Promises 9 to 11, and 3 as far as it speaks of counters made rows."""

import inspect
import random
import unittest

from oneofall.counters import counter_look, counter_run, counter_step
from oneofall.makerows import counter_image, counter_told, make_rows
from oneofall.rows import row_look, row_run, row_step

MOVE = [("down", 0, 1, 2), ("up", 1, 0)]
STANDS = (
    ((0, (0,)), (0, "be")),
    ((3, (2,)), (3, "biie")),
    ((0, (0, 0)), (0, "bee")),
    ((1, (0, 2)), (1, "beiie")),
    ((1, (2, 0)), (1, "biiee")),
    ((20, (1, 2, 0, 3)), (20, "bieiieeiiie")),
    ((7, (0, 0, 0, 0, 0, 0)), (7, "beeeeee")),
    ((7, (61,)), (7, "b" + "i" * 61 + "e")),
    ((7, (0, 0, 0, 0, 0, 61)), (7, "beeeee" + "i" * 61 + "e")),
)


class Image(unittest.TestCase):

    def test_images(self):
        for stand, image in STANDS:
            self.assertEqual(counter_image(stand), image)

    def test_kinds(self):
        told = counter_image((4, (1, 0)))
        self.assertEqual((type(told), type(told[0]), type(told[1])), (tuple, int, str))


class Told(unittest.TestCase):

    def test_images_are_read_back(self):
        for stand, image in STANDS:
            many = len(stand[1])
            for size in (stand[0], stand[0] + 1, 20):
                self.assertEqual(counter_told(size, many, image), stand)

    def test_kinds(self):
        told = counter_told(4, 2, (4, "biee"))
        self.assertEqual((type(told), type(told[0]), type(told[1])), (tuple, int, tuple))
        self.assertEqual([type(count) for count in told[1]], [int, int])

    def test_place_up_to_the_number_of_rows(self):
        self.assertEqual(counter_told(0, 1, (0, "be")), (0, (0,)))
        self.assertIsNone(counter_told(0, 1, (1, "be")))
        self.assertEqual(counter_told(20, 1, (20, "bie")), (20, (1,)))
        self.assertIsNone(counter_told(20, 1, (21, "bie")))
        self.assertIsNone(counter_told(3, 1, (5000, "bie")))

    def test_another_number_of_counters(self):
        for stand, image in STANDS:
            for many in range(1, 8):
                told = counter_told(20, many, image)
                self.assertEqual(told, stand if many == len(stand[1]) else None)

    def test_rows_that_are_no_images(self):
        for row in ("", "b", "e", "i", "bi", "ib", "eb", "bii", "ie", "iie", "bb", "bbe", "beb", "bebe", "bie ", "ebe",
                    "ibe", "bieb", "biei", "bibe", "bxe", "bae", "bje", "xe", "be_", "_be", "abe", "bez", "biae"):
            self.assertIsNone(counter_told(9, 1, (0, row)), row)
        for row in ("", "b", "be", "bie", "ee", "iee", "beei", "beeb", "bebe", "eeb", "beee", "bxee", "beex", "xbee"):
            self.assertIsNone(counter_told(9, 2, (0, row)), row)

    def test_a_sign_left_out_put_in_or_exchanged(self):
        """Whatever row comes of it is told only where it is itself an image, by hand."""
        for stand, image in STANDS:
            many = len(stand[1])
            for row in near_rows(image[1]):
                self.assertEqual(counter_told(20, many, (stand[0], row)), by_hand(stand[0], row, many), row)

    def test_all_short_rows(self):
        rows = [""]
        for row in rows:
            if len(row) < 6:
                rows.extend(row + sign for sign in "beix")
        for many in (1, 2, 3):
            for row in rows:
                self.assertEqual(counter_told(3, many, (2, row)), by_hand(2, row, many), row)


def near_rows(row):
    for k in range(len(row) + 1):
        yield row[:k] + row[k + 1:]
        for sign in "beiaz":
            yield row[:k] + sign + row[k:]
            yield row[:k] + sign + row[k + 1:]


def by_hand(place, row, many):
    counts = []
    count = 0
    for k, sign in enumerate(row):
        if (sign == "b") != (k == 0) or sign not in "bei":
            return None
        if sign == "i":
            count += 1
        if sign == "e":
            counts.append(count)
            count = 0
    if len(counts) != many or not row.endswith("e"):
        return None
    return (place, tuple(counts))


class Made(unittest.TestCase):

    def assert_form(self, rules, size):
        self.assertIs(type(rules), list)
        self.assertIs(row_look(rules), True)
        self.assertLessEqual(len(rules), 1000)
        for rule in rules:
            self.assertIs(type(rule), tuple)
            state, sign, word, target = rule
            self.assertEqual((type(state), type(target)), (int, int))
            self.assertTrue(0 <= state <= 5000 and 0 <= target <= 5000)
            self.assertIn(sign, ("b", "e", "i"))
            self.assertIs(type(word), str)
            self.assertLessEqual(len(word), 8)
            self.assertLessEqual(set(word), set("bei"))
            self.assertNotEqual(state, size, "the stop has no rule")

    def assert_lap(self, program, rules, stand):
        """From a stand's image to that of the next one, or no step at the stop's."""
        image = counter_image(stand)
        behind = counter_step(program, stand)
        if behind is None:
            self.assertIsNone(row_step(rules, image))
            return
        steps = len(image[1])
        stands = row_run(rules, image, steps)
        self.assertEqual(len(stands), steps + 1)
        self.assertEqual(stands[-1], counter_image(behind))
        for between in stands[1:-1]:
            self.assertGreater(between[0], len(program))
            self.assertIsNone(counter_told(len(program), len(stand[1]), between))

    def assert_plays(self, program, many, stands):
        self.assertIs(counter_look(program, many), True)
        rules = make_rows(program, many)
        self.assert_form(rules, len(program))
        for stand in stands:
            self.assert_lap(program, rules, stand)

    def test_no_rows(self):
        for many in range(1, 7):
            rules = make_rows([], many)
            self.assert_form(rules, 0)
            for count in (0, 1, 10):
                self.assertIsNone(row_step(rules, counter_image((0, (count,) * many))))

    def test_each_row_alone(self):
        for many in range(1, 7):
            for counter in range(many):
                for to in (0, 1):
                    self.assert_plays([("up", counter, to)], many, some_stands(2, many))
                    for other in (0, 1):
                        self.assert_plays([("down", counter, to, other)], many, some_stands(2, many))

    def test_two_rows_that_go_to_one_place(self):
        for many in (1, 2, 3):
            for one in range(many):
                for two in range(many):
                    for first in (("up", one, 2), ("down", one, 2, 2)):
                        for second in (("up", two, 2), ("down", two, 2, 2), ("down", two, 0, 2), ("down", two, 2, 0)):
                            self.assert_plays([first, second], many, some_stands(3, many))

    def test_known_program(self):
        self.assert_plays(MOVE, 2, [(place, (a, b)) for place in (0, 1, 2) for a in range(4) for b in range(4)])

    def test_twenty_rows(self):
        chance = random.Random(10)
        for many in range(1, 7):
            program = any_program(chance, 20, many)
            self.assert_plays(program, many, [any_stand(chance, 20, many) for k in range(60)])

    def test_greatest_programs(self):
        chance = random.Random(11)
        for counter in range(6):
            for program in (
                [("up", counter, (k + 1) % 21) for k in range(20)],
                [("down", counter, k + 1, 20 - k) for k in range(20)],
                [("down", counter, k, k) for k in range(20)],
            ):
                self.assert_plays(program, 6, [any_stand(chance, 20, 6) for k in range(30)])

    def test_counts_of_61_together(self):
        program = [("up", 0, 1), ("down", 5, 2, 0), ("down", 0, 3, 3), ("up", 5, 0)]
        for counts in ((61, 0, 0, 0, 0, 0), (0, 0, 0, 0, 0, 61), (0, 30, 1, 0, 30, 0), (11, 10, 10, 10, 10, 10)):
            self.assert_plays(program, 6, [(place, counts) for place in range(5)])
        self.assert_plays([("down", 0, 0, 1)], 1, [(0, (61,)), (1, (61,))])
        self.assert_plays([("up", 0, 1)], 1, [(0, (61,)), (1, (61,))])

    def test_many_programs(self):
        chance = random.Random(12)
        for turn in range(150):
            many = chance.randrange(1, 7)
            size = chance.randrange(0, 9)
            program = any_program(chance, size, many)
            self.assert_plays(program, many, [any_stand(chance, size, many) for k in range(8)])

    def test_run_lap_by_lap(self):
        chance = random.Random(13)
        for turn in range(60):
            many = chance.randrange(1, 5)
            size = chance.randrange(1, 7)
            program = any_program(chance, size, many)
            start = (chance.randrange(size), tuple(chance.randrange(4) for k in range(many)))
            stands = counter_run(program, start, 20)
            laps = [len(counter_image(stand)[1]) for stand in stands[:-1]]
            rows = row_run(make_rows(program, many), counter_image(start), sum(laps))
            self.assertEqual(len(rows), sum(laps) + 1)
            told = [counter_told(size, many, row) for row in rows]
            self.assertEqual([stand for stand in told if stand is not None], stands)
            at = 0
            for lap, stand in zip([0] + laps, stands):
                at += lap
                self.assertEqual(told[at], stand)

    def test_run_stops_where_the_program_stops(self):
        rules = make_rows(MOVE, 2)
        rows = row_run(rules, counter_image((0, (3, 1))), 5000)
        self.assertEqual(rows[-1], counter_image((2, (0, 4))))
        self.assertEqual(len(rows) - 1, sum(len(counter_image(s)[1]) for s in counter_run(MOVE, (0, (3, 1)))[:-1]))


def some_stands(places, many):
    stands = []
    for place in range(places):
        for count in (0, 1, 3):
            stands.append((place, (count,) * many))
            stands.append((place, tuple(k % 2 * count for k in range(many))))
            stands.append((place, tuple((k + 1) % 2 * count for k in range(many))))
    return stands


def any_program(chance, size, many):
    program = []
    for k in range(size):
        counter, to, other = chance.randrange(many), chance.randrange(size + 1), chance.randrange(size + 1)
        program.append(chance.choice([("up", counter, to), ("down", counter, to, other)]))
    return program


def any_stand(chance, size, many):
    most = chance.choice([1, 3, 60 // many])
    return (chance.randrange(size + 1), tuple(chance.randrange(most + 1) for k in range(many)))


class Interface(unittest.TestCase):

    def test_arguments(self):
        for call, names in (
            (counter_image, ["stand"]),
            (make_rows, ["program", "many"]),
            (counter_told, ["size", "many", "stand"]),
        ):
            self.assertEqual(list(inspect.signature(call).parameters), names)


if __name__ == "__main__":
    unittest.main()
