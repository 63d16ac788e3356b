"""Promises 17 and 18: trees, values, steps and runs."""

import inspect
import random
import unittest

from oneofall.names import made_of
from oneofall.trees import is_value, joint, leaves, tree_run, tree_step
from plaintrees import (
    IDENTITY, all_nests, any_nest, any_value, depth, parted, plain_leaves, plain_step, plain_value, tree_of,
)

TWICE = made_of(["x"], joint(joint("S", "x"), "x"))
SELF = joint(joint("S", IDENTITY), IDENTITY)
FOREVER = joint(SELF, SELF)
# Handed itself and a thing it comes to the same again.
ROUND = made_of(["w", "x"], joint(joint("w", "w"), "x"))

VALUES = (
    "S", "K", ("K", "S"), ("K", "K"), ("S", "S"), ("S", "K"), (("S", "K"), "K"), (("S", "S"), ("K", "S")),
    ("K", ("S", "K")), ("S", (("S", "K"), "K")), (("S", ("K", "S")), "K"), ("K", (("S", "S"), "S")),
)
NO_VALUES = (
    (("K", "S"), "K"), (("K", "S"), "S"), ((("S", "K"), "K"), "S"), ((("S", "S"), "S"), "S"),
    ("K", (("K", "S"), "K")), ("S", (("K", "S"), "K")), (("S", "K"), (("K", "S"), "K")),
    (("S", (("K", "S"), "K")), "K"), ((("K", "S"), "K"), "S"), ((("K", "S"), "K"), (("K", "K"), "K")),
    (("K", ("K", "S")), "K"), (((("S", "S"), "S"), "S"), "S"), ((("K", "K"), "S"), "S"),
)


def chain(many, last):
    """K of K of and so on, so many times, of the last."""
    tree = last
    for k in range(many):
        tree = joint("K", tree)
    return tree


class Joint(unittest.TestCase):

    def test_parts(self):
        self.assertEqual(joint("S", "K"), ("S", "K", 2, True))
        self.assertEqual(joint(joint("K", "S"), "K"), (("K", "S", 2, True), "K", 3, False))
        self.assertEqual(joint("K", joint("S", "K")), ("K", ("S", "K", 2, True), 3, True))
        whole = joint(joint(joint("S", "K"), "K"), joint(joint("K", "S"), "K"))
        self.assertEqual(whole[2:], (6, False))

    def test_kinds(self):
        for nest in VALUES + NO_VALUES:
            tree = tree_of(nest)
            if not isinstance(tree, str):
                self.assertEqual((type(tree), len(tree)), (tuple, 4))
                self.assertEqual((type(tree[2]), type(tree[3])), (int, bool))

    def test_leaves(self):
        self.assertEqual((leaves("S"), leaves("K")), (1, 1))
        for many in range(1, 6):
            for nest in all_nests(many):
                self.assertEqual(leaves(tree_of(nest)), many)
        self.assertEqual(leaves(chain(300, "S")), 301)

    def test_forms_of_values(self):
        for nest in VALUES:
            self.assertIs(is_value(tree_of(nest)), True, nest)
            if not isinstance(nest, str):
                self.assertIs(tree_of(nest)[3], True, nest)

    def test_joints_that_are_none(self):
        for nest in NO_VALUES:
            self.assertIs(is_value(tree_of(nest)), False, nest)
            self.assertIs(tree_of(nest)[3], False, nest)

    def test_all_small_trees(self):
        for many in range(1, 7):
            for nest in all_nests(many):
                tree = tree_of(nest)
                self.assertIs(is_value(tree), plain_value(nest))
                self.assertEqual(leaves(tree), plain_leaves(nest))
                self.assertEqual(parted(tree), nest)

    def test_written_joint_is_a_tree(self):
        self.assertIs(is_value(("S", "K", 2, True)), True)
        self.assertEqual(leaves(("S", "K", 2, True)), 2)
        self.assertEqual(tree_step((("K", "S", 2, True), "K", 3, False)), "S")


class Step(unittest.TestCase):

    def assert_step(self, nest, behind):
        self.assertEqual(tree_step(tree_of(nest)), tree_of(behind))

    def test_values_have_none(self):
        for nest in VALUES:
            self.assertIsNone(tree_step(tree_of(nest)))

    def test_both_changes_at_the_tree_itself(self):
        self.assert_step((("K", "S"), "K"), "S")
        self.assert_step((("K", ("S", "K")), ("K", "S")), ("S", "K"))
        self.assert_step(((("S", "K"), "S"), "K"), (("K", "K"), ("S", "K")))
        u, v, w = ("K", "S"), ("S", "S"), (("S", "K"), "K")
        self.assert_step(((("S", u), v), w), ((u, w), (v, w)))

    def test_left_ahead_of_right(self):
        ready = (("K", "S"), "K")
        self.assert_step((ready, ready), ("S", ready))
        self.assert_step((((("S", "K"), "K"), "S"), ready), ((("K", "S"), ("K", "S")), ready))

    def test_right_where_left_is_a_value(self):
        ready = (("K", "S"), "K")
        self.assert_step(("K", ready), ("K", "S"))
        self.assert_step(("S", ready), ("S", "S"))
        self.assert_step((("S", "K"), ready), (("S", "K"), "S"))
        self.assert_step((("K", "K"), ready), (("K", "K"), "S"))
        self.assert_step(((("S", "K"), "K"), ready), ((("S", "K"), "K"), "S"))

    def test_left_part_of_a_joint_that_looks_ready(self):
        ready = (("K", "S"), "K")
        self.assert_step((("K", ready), "S"), (("K", "S"), "S"))
        self.assert_step(((("S", "K"), ready), "S"), ((("S", "K"), "S"), "S"))
        self.assert_step(((("S", ready), "K"), "S"), ((("S", "S"), "K"), "S"))

    def test_place_deep_within(self):
        ready = (("K", "S"), "K")
        self.assert_step(("K", ("S", (("S", "K"), ready))), ("K", ("S", (("S", "K"), "S"))))
        self.assert_step((((ready, "S"), "S"), ready), ((("S", "S"), "S"), ready))

    def test_all_small_trees(self):
        for many in range(1, 7):
            for nest in all_nests(many):
                behind = plain_step(nest)
                told = tree_step(tree_of(nest))
                self.assertEqual(told, None if behind is None else tree_of(behind))

    def test_deep_trees(self):
        ready = joint(joint("K", "S"), "K")
        self.assertEqual(depth(chain(298, ready)), 300)
        self.assertEqual(tree_step(chain(298, ready)), chain(298, "S"))
        tree, behind = ready, "S"
        for k in range(298):
            tree, behind = joint(tree, "K"), joint(behind, "K")
        self.assertEqual(tree_step(tree), behind)


class Run(unittest.TestCase):

    def test_value_has_no_steps(self):
        for nest in VALUES:
            tree = tree_of(nest)
            for most in (0, 1, 1000):
                self.assertEqual(tree_run(tree, most), ("value", tree, 0))

    def test_most_0(self):
        for nest in NO_VALUES:
            tree = tree_of(nest)
            self.assertEqual(tree_run(tree, 0), ("on", tree, 0))

    def test_just_enough_and_one_too_few(self):
        tree = joint(IDENTITY, "S")
        between = tree_of((("K", "S"), ("K", "S")))
        self.assertEqual(tree_run(tree), ("value", "S", 2))
        self.assertEqual(tree_run(tree, 3), ("value", "S", 2))
        self.assertEqual(tree_run(tree, 2), ("value", "S", 2))
        self.assertEqual(tree_run(tree, 1), ("on", between, 1))
        self.assertEqual(tree_run(tree, 0), ("on", tree, 0))

    def test_just_enough_beneath_other_joints(self):
        tree = tree_of((("S", (("K", "S"), "K")), ("K", (("K", "K"), "S"))))
        self.assertEqual(tree_run(tree, 1), ("on", tree_of((("S", "S"), ("K", (("K", "K"), "S")))), 1))
        self.assertEqual(tree_run(tree, 2), ("value", tree_of((("S", "S"), ("K", "K"))), 2))

    def test_kinds(self):
        for most in (0, 1, 5):
            told = tree_run(joint(IDENTITY, "S"), most)
            self.assertEqual([type(told), type(told[0]), type(told[2])], [tuple, str, int])

    def test_most_left_out_is_1000(self):
        word, tree, steps = tree_run(FOREVER)
        self.assertEqual((word, steps), ("on", 1000))
        self.assertEqual(tree, tree_run(FOREVER, 1000)[1])
        self.assertEqual(inspect.signature(tree_run).parameters["most"].default, 1000)

    def test_most_by_its_name(self):
        self.assertEqual(tree_run(tree=FOREVER, most=7)[2], 7)

    def test_run_is_step_by_step(self):
        chance = random.Random(18)
        nests = [any_nest(chance, chance.randrange(2, 14)) for k in range(300)]
        for nest in nests + [parted(FOREVER), parted(joint(joint(ROUND, ROUND), "S"))]:
            tree = tree_of(nest)
            for most in range(25):
                self.assertEqual(tree_run(tree_of(nest), most), ("on" if tree_step(tree) else "value", tree, most))
                behind = tree_step(tree)
                if behind is None:
                    self.assertEqual(tree_run(tree_of(nest), most + 1), ("value", tree, most))
                    break
                self.assertEqual(parted(behind), plain_step(parted(tree)))
                tree = behind

    def test_run_in_two_parts(self):
        chance = random.Random(19)
        for turn in range(100):
            tree = joint(tree_of(any_nest(chance, 12)), tree_of(any_value(chance, 6)))
            whole = tree_run(tree, 40)
            first = tree_run(tree, chance.randrange(41))
            second = tree_run(first[1], 40 - first[2])
            self.assertEqual((second[0], second[1], first[2] + second[2]), whole)

    def test_tree_grows_greatly(self):
        tree = "K"
        for k in range(290):
            tree = joint(TWICE, tree)
        word, end, steps = tree_run(tree, 50000)
        self.assertEqual(word, "value")
        # Each joint of two like values and an S: n leaves become 2 n + 1.
        self.assertEqual(leaves(end), 2 ** 291 - 1)
        for k in range(290):
            self.assertEqual(end[0][0], "S")
            self.assertEqual((leaves(end[0][1]), leaves(end[1])), (2 ** (290 - k) - 1, 2 ** (290 - k) - 1))
            self.assertIs(end[3], True)
            end = end[1] if k % 2 else end[0][1]
        self.assertEqual(end, "K")

    def test_many_steps_with_a_great_tree(self):
        great = "K"
        for k in range(200):
            great = joint(joint("S", great), great)
        tree = joint(joint(ROUND, ROUND), great)
        word, end, steps = tree_run(tree, 50000)
        self.assertEqual((word, steps), ("on", 50000))
        self.assertGreaterEqual(leaves(end), leaves(great))
        self.assertEqual(tree_run(joint(joint(ROUND, ROUND), "K"), 50000)[2], 50000)

    def test_great_tree_of_a_run_is_run_again(self):
        tree = "K"
        for k in range(100):
            tree = joint(TWICE, tree)
        great = tree_run(tree, 50000)[1]
        self.assertEqual(tree_run(great), ("value", great, 0))
        self.assertIsNone(tree_step(great))
        self.assertEqual(tree_run(joint(joint("K", "S"), great)), ("value", "S", 1))
        self.assertEqual(tree_step(joint(joint("K", "S"), great)), "S")

    def test_many_steps_beneath_many_joints(self):
        tree = FOREVER
        for k in range(290):
            tree = joint("K", tree)
        word, end, steps = tree_run(tree, 50000)
        self.assertEqual((word, steps), ("on", 50000))
        for k in range(290):
            self.assertEqual(end[0], "K")
            self.assertIs(end[3], False)
            end = end[1]
        self.assertEqual(end, tree_run(FOREVER, 50000)[1])

    def test_deep_trees(self):
        thrice = made_of(["x"], chain(3, "x"))
        tree = "S"
        for k in range(290):
            tree = joint(thrice, tree)
        self.assertLessEqual(depth(tree), 300)
        word, end, steps = tree_run(tree, 50000)
        self.assertEqual(word, "value")
        self.assertEqual(depth(end), 870)
        for k in range(870):
            self.assertEqual(end[0], "K")
            self.assertEqual((leaves(end), end[3]), (871 - k, True))
            end = end[1]
        self.assertEqual(end, "S")
        self.assertEqual(tree_run(tree, steps)[0], "value")
        self.assertEqual(tree_run(tree, steps - 1)[0::2], ("on", steps - 1))

    def test_tree_of_900_joints_has_a_step(self):
        tree = chain(898, joint(joint("K", "S"), "K"))
        behind = tree_step(tree)
        self.assertEqual((leaves(behind), is_value(behind)), (899, True))
        self.assertEqual(tree_run(tree)[0::2], ("value", 1))

    def test_deep_to_the_left(self):
        tree = "K"
        for k in range(300):
            tree = joint(tree, "S")
        # ((K S) S) becomes S, (S S) stays, ((S S) S) stays, ((S S) S) S grows.
        nest = parted(tree)
        for k in range(30):
            nest = plain_step(nest)
        self.assertEqual(parted(tree_run(tree, 30)[1]), nest)

    def test_as_many_leaves_as_may_be_handed_in(self):
        parts = ["S", "K"] * 30000
        parts[0] = joint(joint("K", "S"), "K")
        while len(parts) > 1:
            parts = [joint(left, right) for left, right in zip(parts[::2], parts[1::2])] + parts[len(parts) // 2 * 2:]
        tree = parts[0]
        self.assertEqual(leaves(tree), 60002)
        told = tree_run(tree, 1)
        self.assertEqual((told[0], leaves(told[1]), told[2]), ("on", 60000, 1))
        self.assertEqual(tree_run(tree, 200)[2], 200)


class Interface(unittest.TestCase):

    def test_arguments(self):
        for call, names in (
            (joint, ["left", "right"]),
            (leaves, ["tree"]),
            (is_value, ["tree"]),
            (tree_step, ["tree"]),
            (tree_run, ["tree", "most"]),
        ):
            self.assertEqual(list(inspect.signature(call).parameters), names)


if __name__ == "__main__":
    unittest.main()
