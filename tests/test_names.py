"""Promises 20 to 23, and 3 as far as it speaks of names taken out."""

import inspect
import random
import unittest

from oneofall.names import handed, made_costs, made_of, out_cost, put_in, taken_out
from oneofall.trees import is_value, joint, leaves, tree_run
from plaincodes import unlike_names
from plaintrees import (
    IDENTITY, NAMES, any_nest, any_value, depth, parted, plain_leaves, plain_out, plain_put, plain_value, stands_in,
    tree_of,
)

SELF = joint(joint("S", IDENTITY), IDENTITY)
SIGNS = ("S", "K") + NAMES


class Terms(unittest.TestCase):

    def test_names_are_leaves_and_values(self):
        for name in ("x", "a", "z", "abcdefgh", "k", "s", "e"):
            self.assertIs(is_value(name), True)
            self.assertEqual(leaves(name), 1)

    def test_values_among_joints(self):
        for nest in (("K", "x"), ("S", "x"), (("S", "x"), "y"), (("S", "K"), "x"), ("K", ("S", "x")), ("K", ("K", "x"))):
            self.assertIs(tree_of(nest)[3], True, nest)
            self.assertIs(is_value(tree_of(nest)), True, nest)

    def test_a_name_in_front_is_no_value(self):
        for nest in (("x", "K"), ("x", "y"), ("x", ("K", "S")), ("K", ("x", "y")), (("S", "x"), ("x", "y")),
                     (("x", "K"), "K"), (("S", ("x", "y")), "K"), ("s", "K"), ("k", "x"), (("s", "K"), "K")):
            self.assertIs(tree_of(nest)[3], False, nest)
            self.assertIs(is_value(tree_of(nest)), False, nest)

    def test_joints_that_are_no_values_with_names(self):
        for nest in ((("K", "x"), "y"), ((("S", "x"), "y"), "x")):
            self.assertIs(is_value(tree_of(nest)), False, nest)

    def test_leaves(self):
        self.assertEqual(joint("x", joint("abcdefgh", "K")), ("x", ("abcdefgh", "K", 2, False), 3, False))


class PutIn(unittest.TestCase):

    def assert_put(self, nest, puts, behind):
        trees = {name: tree_of(put) for name, put in puts.items()}
        self.assertEqual(put_in(tree_of(nest), trees), tree_of(behind))

    def test_one_name(self):
        self.assert_put("x", {"x": "S"}, "S")
        self.assert_put("x", {"x": ("S", "K")}, ("S", "K"))
        self.assert_put(("x", ("K", "x")), {"x": ("S", "K")}, (("S", "K"), ("K", ("S", "K"))))

    def test_joints_are_made_anew(self):
        term = joint("x", "K")
        self.assertIs(term[3], False)
        self.assertEqual(put_in(term, {"x": "K"}), ("K", "K", 2, True))
        self.assertEqual(put_in(term, {"x": joint("S", "S")}), (("S", "S", 2, True), "K", 3, True))
        self.assertEqual(put_in(joint("K", "x"), {"x": joint("y", "K")}), ("K", ("y", "K", 2, False), 3, False))

    def test_several_at_once(self):
        self.assert_put(("x", ("y", "x")), {"x": "S", "y": "K"}, ("S", ("K", "S")))

    def test_terms_that_hold_names_themselves(self):
        self.assert_put(("x", "y"), {"x": "y", "y": "x"}, ("y", "x"))
        self.assert_put(("x", "y"), {"x": ("x", "y"), "y": ("x", "x")}, (("x", "y"), ("x", "x")))
        self.assert_put(("x", "z"), {"x": ("z", "z"), "z": "K"}, (("z", "z"), "K"))

    def test_names_that_the_dict_does_not_have(self):
        self.assert_put(("x", ("y", "S")), {"z": "K"}, ("x", ("y", "S")))
        self.assert_put(("x", ("y", "S")), {"y": "K"}, ("x", ("K", "S")))
        self.assert_put(("x", ("y", "S")), {}, ("x", ("y", "S")))
        self.assert_put("x", {}, "x")
        self.assert_put(("xy", "x"), {"x": "K"}, ("xy", "K"))

    def test_no_names(self):
        self.assert_put("S", {"s": "K"}, "S")
        self.assert_put(("S", ("K", "S")), {"x": "K"}, ("S", ("K", "S")))

    def test_many_terms(self):
        chance = random.Random(20)
        for turn in range(200):
            nest = any_nest(chance, chance.randrange(1, 20), SIGNS)
            puts = {name: any_nest(chance, chance.randrange(1, 5), SIGNS) for name in chance.sample(NAMES, 2)}
            self.assert_put(nest, puts, plain_put(nest, puts))

    def test_great_and_deep_terms(self):
        term = "x"
        for k in range(300):
            term = joint("y", term) if k % 2 else joint(term, "y")
        put = put_in(term, {"x": "S", "y": "K"})
        self.assertEqual((leaves(put), depth(put)), (301, 300))
        great = "S"
        for k in range(200):
            great = joint(joint("S", great), great)
        self.assertEqual(leaves(put_in(term, {"x": great})), leaves(great) + 300)


class TakenOut(unittest.TestCase):

    def assert_out(self, nest, out, cost, name="x"):
        self.assertEqual(taken_out(name, tree_of(nest)), tree_of(out))
        self.assertEqual(out_cost(name, tree_of(nest)), cost)

    def test_of_itself(self):
        self.assert_out("x", (("S", "K"), "K"), 2)
        self.assert_out("abcdefgh", (("S", "K"), "K"), 2, "abcdefgh")

    def test_of_a_value_without_it(self):
        for nest in ("S", "K", "y", ("K", "y"), (("S", "K"), "K"), ("S", (("S", "y"), "zed"))):
            self.assert_out(nest, ("K", nest), 1)

    def test_of_a_joint_with_it_at_the_right(self):
        for nest in ("S", "K", "y", ("K", "y"), (("S", "K"), "K"), ("S", (("S", "y"), "zed"))):
            self.assert_out((nest, "x"), nest, 0)

    def test_of_a_joint_with_it_at_the_right_and_left(self):
        identity = (("S", "K"), "K")
        self.assert_out(("x", "x"), (("S", identity), identity), 5)
        self.assert_out((("S", "x"), "x"), (("S", "S"), identity), 3)
        self.assert_out((("K", "x"), "x"), (("S", "K"), identity), 3)

    def test_of_a_joint_with_it_behind_what_is_no_value(self):
        self.assert_out((("y", "K"), "x"), (("S", (("S", ("K", "y")), ("K", "K"))), (("S", "K"), "K")), 6)

    def test_of_another_joint(self):
        self.assert_out(("x", "K"), (("S", (("S", "K"), "K")), ("K", "K")), 4)
        self.assert_out(("K", ("K", "x")), (("S", ("K", "K")), "K"), 2)
        self.assert_out(("x", ("y", "x")), (("S", (("S", "K"), "K")), "y"), 3)

    def test_of_a_joint_without_it_that_is_no_value(self):
        self.assert_out(("y", "K"), (("S", ("K", "y")), ("K", "K")), 3)
        self.assert_out((("K", "S"), "K"), (("S", ("K", ("K", "S"))), ("K", "K")), 3)
        self.assert_out(("K", ("y", "K")), (("S", ("K", "K")), (("S", ("K", "y")), ("K", "K"))), 5)

    def test_many_terms(self):
        chance = random.Random(21)
        for turn in range(400):
            nest = any_nest(chance, chance.randrange(1, 25), SIGNS)
            for name in NAMES + ("other",):
                out, cost = plain_out(name, nest)
                self.assert_out(nest, out, cost, name)
                self.assertTrue(plain_value(out))
                self.assertFalse(stands_in(name, out))
                self.assertIs(is_value(taken_out(name, tree_of(nest))), True)
                self.assertIs(type(out_cost(name, tree_of(nest))), int)

    def test_deep_terms(self):
        for make in (lambda term: joint("y", term), lambda term: joint(term, "y"), lambda term: joint("K", term)):
            term = "x"
            for k in range(100):
                term = make(term)
            out, cost = plain_out("x", parted(term))
            self.assertEqual(parted(taken_out("x", term)), out)
            self.assertEqual(out_cost("x", term), cost)

    def test_great_terms(self):
        parts = ["x", "K", "y"] * 20000
        while len(parts) > 1:
            parts = [joint(left, right) for left, right in zip(parts[::2], parts[1::2])] + parts[len(parts) // 2 * 2:]
        out, cost = plain_out("x", parted(parts[0]))
        self.assertEqual(leaves(taken_out("x", parts[0])), plain_leaves(out))
        self.assertEqual(out_cost("x", parts[0]), cost)


class Handed(unittest.TestCase):
    """What a name is taken out of does, handed a value, what the term does with the value put in."""

    def assert_same(self, term, name, value, others, most):
        whole = put_in(term, {**others, name: value})
        out = joint(put_in(taken_out(name, term), others), value)
        cost = out_cost(name, term)
        word, end, steps = tree_run(whole, most)
        told = tree_run(out, most + cost)
        if word == "value":
            self.assertEqual(told, ("value", end, steps + cost))
        else:
            self.assertEqual(told[0::2], ("on", most + cost))
        return word

    def test_each_way(self):
        for nest in ("x", "K", "y", ("K", "x"), ("y", "x"), ("x", "x"), ("x", "y"), (("K", "x"), "y"), ("y", ("y", "x")),
                     ((("S", "x"), "y"), "x"), (("y", "K"), "x"), ("K", ("x", "x")), (("x", "x"), ("y", "K"))):
            for value in ("S", "K", ("K", "S"), (("S", "K"), "K"), ("S", "S")):
                for other in ("S", "K", ("S", "K"), (("S", "K"), "K")):
                    puts = {"y": tree_of(other)}
                    word = self.assert_same(tree_of(nest), "x", tree_of(value), puts, 300)
                    self.assertEqual(word, "value")

    def test_known_steps(self):
        self.assertEqual(tree_run(joint(taken_out("x", "x"), "S")), ("value", "S", 2))
        self.assertEqual(tree_run(joint(taken_out("x", "K"), "S")), ("value", "K", 1))
        self.assertEqual(tree_run(joint(taken_out("x", joint("K", "x")), "S")), ("value", joint("K", "S"), 0))
        term = tree_of((("K", "x"), "S"))
        self.assertEqual(tree_run(joint(taken_out("x", term), "K")), ("value", "K", 1 + 0 + 1 + 1))

    def test_terms_that_come_to_no_value(self):
        self.assertEqual(self.assert_same(joint("x", "x"), "x", SELF, {}, 500), "on")
        self.assertEqual(self.assert_same(joint("K", joint("x", "y")), "x", SELF, {"y": SELF}, 500), "on")
        self.assertEqual(self.assert_same(joint("y", joint("x", "x")), "x", SELF, {"y": "K"}, 500), "on")

    def test_many_terms(self):
        chance = random.Random(22)
        words = []
        for turn in range(400):
            term = tree_of(any_nest(chance, chance.randrange(1, 15), SIGNS))
            puts = {name: tree_of(any_value(chance, 7)) for name in NAMES}
            name = chance.choice(NAMES)
            value = puts.pop(name)
            words.append(self.assert_same(term, name, value, puts, 150))
        self.assertGreater(words.count("value"), 300)

    def test_values_put_in_ahead_may_give_another_tree(self):
        term = joint("y", "K")
        ahead = taken_out("x", put_in(term, {"y": "S"}))
        behind = put_in(taken_out("x", term), {"y": "S"})
        self.assertEqual(ahead, tree_of(("K", ("S", "K"))))
        self.assertEqual(behind, tree_of((("S", ("K", "S")), ("K", "K"))))


class MadeOf(unittest.TestCase):

    def test_no_name(self):
        for nest in ("x", "K", ("x", "y"), (("K", "S"), "K")):
            self.assertEqual(made_of([], tree_of(nest)), tree_of(nest))
            self.assertEqual(made_costs([], tree_of(nest)), [])

    def test_one_name(self):
        for nest in ("x", "K", ("x", "y"), (("K", "S"), "K")):
            self.assertEqual(made_of(["x"], tree_of(nest)), taken_out("x", tree_of(nest)))
            self.assertEqual(made_costs(["x"], tree_of(nest)), [out_cost("x", tree_of(nest))])

    def test_the_last_name_first(self):
        self.assertEqual(made_of(["x", "y"], "x"), "K")
        self.assertEqual(made_costs(["x", "y"], "x"), [0, 1])
        self.assertEqual(made_of(["x", "y"], "y"), tree_of(("K", (("S", "K"), "K"))))
        self.assertEqual(made_costs(["x", "y"], "y"), [1, 2])
        self.assertEqual(made_of(["x", "y"], joint("x", "y")), tree_of((("S", "K"), "K")))
        self.assertEqual(made_costs(["x", "y"], joint("x", "y")), [2, 0])
        self.assertEqual(made_costs(["y", "x"], joint("x", "y")), [2, 4])

    def test_one_by_one(self):
        chance = random.Random(23)
        for turn in range(200):
            nest = any_nest(chance, chance.randrange(1, 12), SIGNS)
            names = chance.sample(NAMES + ("other",), chance.randrange(5))
            costs = []
            out = nest
            for name in reversed(names):
                out, cost = plain_out(name, out)
                costs.insert(0, cost)
            self.assertEqual(made_of(names, tree_of(nest)), tree_of(out))
            self.assertEqual(made_costs(names, tree_of(nest)), costs)

    def test_handed(self):
        self.assertEqual(handed("S", []), "S")
        self.assertEqual(handed("x", ["y"]), joint("x", "y"))
        self.assertEqual(handed("S", ["K", "x", joint("S", "K")]), joint(joint(joint("S", "K"), "x"), joint("S", "K")))

    def test_fewer_values_than_names(self):
        chance = random.Random(24)
        for turn in range(200):
            term = tree_of(any_nest(chance, chance.randrange(1, 12), SIGNS))
            names = chance.sample(NAMES, 3)
            values = [tree_of(any_value(chance, 6)) for name in names]
            costs = made_costs(names, term)
            for used in range(3):
                end = put_in(made_of(names[used:], term), dict(zip(names[:used], values)))
                told = tree_run(handed(made_of(names, term), values[:used]))
                self.assertEqual(told, ("value", end, sum(costs[:used])))

    def test_as_many_values_as_names(self):
        chance = random.Random(25)
        words = []
        for turn in range(300):
            term = tree_of(any_nest(chance, chance.randrange(1, 12), SIGNS))
            names = chance.sample(NAMES, 3)
            values = [tree_of(any_value(chance, 6)) for name in names]
            cost = sum(made_costs(names, term))
            word, end, steps = tree_run(put_in(term, dict(zip(names, values))), 150)
            told = tree_run(handed(made_of(names, term), values), 150 + cost)
            words.append(word)
            if word == "value":
                self.assertEqual(told, ("value", end, steps + cost))
            else:
                self.assertEqual(told[0::2], ("on", 150 + cost))
        self.assertGreater(words.count("value"), 200)

    def test_sixty_names(self):
        names = unlike_names(60)
        values = [joint("K", joint("S", "K"))] * 60
        for k in (0, 30, 59):
            values[k] = "S"
            self.assertEqual(tree_run(handed(made_of(names, names[k]), values)),
                             ("value", "S", sum(made_costs(names, names[k]))))

    def test_sixty_names_handed_one_another(self):
        names = unlike_names(60)
        term = handed(names[0], names[1:])
        made = made_of(names, term)
        self.assertIs(is_value(made), True)
        costs = made_costs(names, term)
        self.assertEqual(len(costs), len(names))
        self.assertEqual(costs[-1], out_cost(names[-1], term))
        self.assertEqual(costs[0], out_cost(names[0], made_of(names[1:], term)))


class Interface(unittest.TestCase):

    def test_arguments(self):
        for call, names in (
            (put_in, ["term", "puts"]),
            (taken_out, ["name", "term"]),
            (out_cost, ["name", "term"]),
            (made_of, ["names", "term"]),
            (handed, ["tree", "things"]),
            (made_costs, ["names", "term"]),
        ):
            self.assertEqual(list(inspect.signature(call).parameters), names)


if __name__ == "__main__":
    unittest.main()
