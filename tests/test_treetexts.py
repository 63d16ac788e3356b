"""Promise 19: the texts of trees, read and shown."""

import inspect
import itertools
import random
import unittest

from oneofall.errors import NoProgram, OneError
from oneofall.trees import joint, leaves, tree_run
from oneofall.treetexts import tree_read, tree_show
from plaintrees import all_nests, any_nest, tree_of
from refusals import assert_no_program, assert_no_tree

TEXTS = (
    ("S", "S"),
    ("K", "K"),
    ("(SK)", ("S", "K")),
    ("((SK)K)", (("S", "K"), "K")),
    ("(K(SK))", ("K", ("S", "K"))),
    ("(((SS)S)((KS)K))", ((("S", "S"), "S"), (("K", "S"), "K"))),
)


def plain_text(nest):
    return nest if isinstance(nest, str) else "(" + plain_text(nest[0]) + plain_text(nest[1]) + ")"


class ReadAndShown(unittest.TestCase):

    def test_texts(self):
        for text, nest in TEXTS:
            self.assertEqual(tree_read(text), tree_of(nest))
            self.assertEqual(tree_show(tree_of(nest)), text)

    def test_joints_that_are_read_hold_all_four_parts(self):
        self.assertEqual(tree_read("((KS)K)"), (("K", "S", 2, True), "K", 3, False))
        self.assertEqual(tree_read("(S((KS)K))")[2:], (4, False))
        self.assertEqual(tree_read("((S(KS))K)")[2:], (4, True))

    def test_all_small_trees(self):
        for many in range(1, 6):
            for nest in all_nests(many):
                text = tree_show(tree_of(nest))
                self.assertEqual(text, plain_text(nest))
                self.assertEqual(tree_read(text), tree_of(nest))

    def test_many_trees(self):
        chance = random.Random(19)
        for turn in range(100):
            nest = any_nest(chance, chance.randrange(1, 200))
            self.assertEqual(tree_read(plain_text(nest)), tree_of(nest))
            self.assertEqual(tree_show(tree_of(nest)), plain_text(nest))

    def test_great_tree(self):
        parts = ["S", "K"] * 30000
        while len(parts) > 1:
            parts = [joint(left, right) for left, right in zip(parts[::2], parts[1::2])] + parts[len(parts) // 2 * 2:]
        text = tree_show(parts[0])
        self.assertEqual(len(text), 60000 + 2 * 59999)
        self.assertEqual(tree_read(text), parts[0])

    def test_deep_tree_of_a_run_is_shown(self):
        tree = joint("K", "S")
        for k in range(800):
            tree = joint("S", tree)
        self.assertEqual(tree_show(tree_run(tree)[1]), "(S" * 800 + "(KS)" + ")" * 800)


class Refused(unittest.TestCase):

    def assert_at(self, at, text):
        assert_no_tree(self, at, tree_read, text)

    def test_no_signs(self):
        self.assert_at(0, "")

    def test_another_sign(self):
        for sign in ("s", "k", "x", "I", "_", "0", "[", "{", ",", "\t", "\n", "\u0405", "\uff33", "\U0001f600"):
            self.assert_at(0, sign)
            self.assert_at(1, "(" + sign)
            self.assert_at(2, "(S" + sign + ")")
            self.assert_at(3, "(SK" + sign)
            self.assert_at(4, "(SK)" + sign)

    def test_a_blank(self):
        self.assert_at(0, " ")
        self.assert_at(0, " S")
        self.assert_at(1, "S ")
        self.assert_at(1, "( SK)")
        self.assert_at(2, "(S K)")
        self.assert_at(3, "(SK )")
        self.assert_at(4, "(SK) ")

    def test_too_few_parts(self):
        self.assert_at(1, "()")
        self.assert_at(2, "(S)")
        self.assert_at(3, "(S()")
        self.assert_at(3, "((S)K)")
        self.assert_at(5, "((SK))")

    def test_too_many_parts(self):
        self.assert_at(3, "(SKS)")
        self.assert_at(3, "(SK(SK))")
        self.assert_at(6, "((SK)KS)")

    def test_a_bracket_that_lacks(self):
        self.assert_at(1, "(")
        self.assert_at(2, "((")
        self.assert_at(2, "(S")
        self.assert_at(3, "(SK")
        self.assert_at(5, "((SK)")
        self.assert_at(6, "((SK)K")

    def test_a_bracket_too_many(self):
        self.assert_at(0, ")")
        self.assert_at(0, ")SK(")
        self.assert_at(1, "S)")
        self.assert_at(4, "(SK))")

    def test_behind_a_whole_tree(self):
        self.assert_at(1, "SK")
        self.assert_at(1, "S(")
        self.assert_at(1, "Sx")
        self.assert_at(4, "(SK)S")
        self.assert_at(4, "(SK)(SK)")

    def test_first_of_several_faults(self):
        self.assert_at(2, "(Sx)y")
        self.assert_at(1, "(x")
        self.assert_at(1, "S)x(")

    def test_all_short_texts(self):
        """Against all texts of trees: refused where no tree's text begins so any more."""
        whole = {plain_text(nest) for many in range(1, 7) for nest in all_nests(many)}
        begun = {text[:k] for text in whole for k in range(len(text) + 1)}
        for many in range(6):
            for signs in itertools.product("SK()x", repeat=many):
                text = "".join(signs)
                if text in whole:
                    self.assertEqual(tree_show(tree_read(text)), text)
                else:
                    at = max(k for k in range(many + 1) if text[:k] in begun)
                    self.assert_at(at, text)

    def test_300_brackets_and_301(self):
        for ahead, behind in (("(", "S)"), ("(K", ")")):
            good = ahead * 300 + "S" + behind * 300
            self.assertEqual(leaves(tree_read(good)), 301)
            self.assertEqual(tree_show(tree_read(good)), good)
            bad = ahead * 301 + "S" + behind * 301
            self.assert_at(len(ahead) * 300, bad)
            self.assert_at(len(ahead) * 300, ahead * 301)
            self.assert_at(len(ahead) * 300, ahead * 400)
            self.assert_at(len(ahead) * 300, ahead * 300)
            self.assert_at(len(ahead) * 300, ahead * 300 + "x")

    def test_more_than_300_brackets_behind_one_another(self):
        good = "S"
        for k in range(299):
            good = f"({good}(SK))"
        self.assertEqual(tree_show(tree_read(good)), good)
        self.assertEqual(leaves(tree_read(good)), 599)
        self.assert_at(301, f"({good}K)")
        self.assert_at(300, f"(({good}K)K)")

    def test_refusal_is_taken_as_one_error_and_as_value_error(self):
        for kind in (OneError, ValueError):
            with self.assertRaises(kind):
                tree_read("(")

    def test_refusal_is_not_taken_as_no_program(self):
        try:
            tree_read("(S")
        except NoProgram:
            self.fail("taken as NoProgram")
        except OneError as error:
            self.assertEqual(error.at, 2)
        else:
            self.fail("not refused")


class Helpers(unittest.TestCase):

    def test_refusals_are_told_apart(self):
        with self.assertRaises(AssertionError):
            assert_no_tree(self, 1, tree_read, "x")
        with self.assertRaises(OneError):
            assert_no_program(self, 0, tree_read, "x")


class Interface(unittest.TestCase):

    def test_arguments(self):
        self.assertEqual(list(inspect.signature(tree_read).parameters), ["text"])
        self.assertEqual(list(inspect.signature(tree_show).parameters), ["tree"])


if __name__ == "__main__":
    unittest.main()
