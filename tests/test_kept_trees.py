"""Promise 2 for trees, treetexts and names: what is handed in stays, what is told is the asker's own."""

import unittest

from keeping import Keeping, answer
from oneofall.names import handed, made_costs, made_of, out_cost, put_in, taken_out
from oneofall.trees import is_value, joint, leaves, tree_run, tree_step
from oneofall.treetexts import tree_read, tree_show

VALUE = joint("S", "K")
READY = joint(joint("K", "S"), "K")
TERM = joint(joint("x", "K"), joint("y", "x"))

QUESTIONS = (
    (joint, [VALUE, READY]),
    (leaves, [READY]),
    (is_value, [READY]),
    (tree_step, [READY]),
    (tree_step, [VALUE]),
    (tree_run, [joint(READY, VALUE)]),
    (tree_run, [joint(READY, VALUE), 0]),
    (tree_read, ["((SK)K)"]),
    (tree_read, ["((SK)K"]),
    (tree_show, [READY]),
    (put_in, [TERM, {"x": VALUE, "y": READY}]),
    (put_in, [TERM, {}]),
    (taken_out, ["x", TERM]),
    (out_cost, ["x", TERM]),
    (made_of, [["x", "y"], TERM]),
    (made_of, [[], TERM]),
    (handed, [TERM, ["S", VALUE]]),
    (handed, [TERM, []]),
    (made_costs, [["x", "y"], TERM]),
    (made_costs, [[], TERM]),
)


class Kept(Keeping, unittest.TestCase):

    QUESTIONS = QUESTIONS

    def test_later_answers_go_by_what_is_handed_in_then(self):
        puts = {"x": "S"}
        self.assertEqual(put_in("x", puts), "S")
        puts["x"] = "K"
        self.assertEqual(put_in("x", puts), "K")
        names = ["x"]
        self.assertEqual(made_of(names, "x"), taken_out("x", "x"))
        names.append("y")
        self.assertEqual(made_of(names, "x"), "K")
        self.assertEqual(made_costs(names, "x"), [0, 1])
        things = ["S"]
        self.assertEqual(handed("K", things), joint("K", "S"))
        things[0] = "K"
        self.assertEqual(handed("K", things), joint("K", "K"))

    def test_numbers_told_are_no_truths(self):
        self.assertIs(type(leaves("x")), int)
        self.assertIs(type(leaves(READY)), int)
        self.assertIs(type(tree_run(READY)[2]), int)
        self.assertIs(type(out_cost("x", "x")), int)
        self.assertEqual([type(cost) for cost in made_costs(["x", "y"], TERM)], [int, int])


if __name__ == "__main__":
    unittest.main()
