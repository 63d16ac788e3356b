"""Promise 24: picks, lists, packs and ends, and what is read back of them."""

import inspect
import random
import unittest

from changes import leaves_put_otherwise, parts_put_otherwise
from oneofall.codes import end_of, list_of, pack, pick, picked, things_of
from oneofall.names import handed, made_costs, made_of
from oneofall.trees import is_value, joint, leaves, tree_run
from plaincodes import plain_end, plain_list, plain_pack, plain_pick, unlike_names
from plaintrees import IDENTITY, all_nests, any_value, depth, parted, tree_of


def unlike_values(many):
    """So many values, no two alike."""
    values = ["S"]
    while len(values) < many:
        values.append(joint("K", values[-1]))
    return values


def great_value():
    """A value with more leaves than could ever be walked through."""
    great = "K"
    for k in range(200):
        great = joint(joint("S", great), great)
    return great


class Picks(unittest.TestCase):

    def test_by_the_words(self):
        for many in range(1, 13):
            for k in range(many):
                self.assertEqual(parted(pick(k, many)), plain_pick(k, many), (k, many))
        for k in (0, 1, 30, 58, 59):
            self.assertEqual(parted(pick(k, 60)), plain_pick(k, 60), k)

    def test_first_ones_written_out(self):
        self.assertEqual(pick(0, 1), IDENTITY)
        self.assertEqual(pick(0, 2), "K")
        self.assertEqual(pick(1, 2), joint("K", IDENTITY))
        self.assertEqual(parted(pick(0, 3)), (("S", ("K", "K")), "K"))
        self.assertEqual(parted(pick(1, 3)), ("K", "K"))
        self.assertEqual(pick(2, 3), joint("K", joint("K", IDENTITY)))

    def test_handed_values_it_comes_to_the_one_picked(self):
        for many in list(range(1, 20)) + [40, 59, 60]:
            values = unlike_values(many)
            names = unlike_names(many)
            for k in sorted({0, 1 % many, many // 2, many - 1}):
                cost = sum(made_costs(names, names[k]))
                self.assertEqual(tree_run(handed(pick(k, many), values)), ("value", values[k], cost), (k, many))

    def test_values(self):
        for many in (1, 2, 3, 9, 60, 200):
            for k in (0, many // 2, many - 1):
                self.assertIs(is_value(pick(k, many)), True)

    def test_no_two_are_alike(self):
        seen = []
        for many in range(1, 10):
            for k in range(many):
                self.assertNotIn(pick(k, many), seen)
                seen.append(pick(k, many))


class Lists(unittest.TestCase):

    def test_by_the_words(self):
        chance = random.Random(24)
        for many in list(range(6)) + [20, 60]:
            nests = [any_value(chance, 6) for k in range(many)]
            self.assertEqual(parted(list_of([tree_of(nest) for nest in nests])), plain_list(nests), nests)

    def test_no_things(self):
        self.assertEqual(list_of([]), "K")
        self.assertEqual(tree_run(handed("K", ["S", "K"])), ("value", "S", 1))

    def test_handed_a_value_and_a_pick_of_two(self):
        bare = joint("S", "S")
        for many in (1, 2, 3, 59, 60):
            things = unlike_values(many)
            tree = list_of(things)
            cost = sum(made_costs(["n", "c"], handed("c", ["a", "t"])))
            for k, behind in ((0, things[0]), (1, list_of(things[1:]))):
                picking = sum(made_costs(["a", "b"], ["a", "b"][k]))
                self.assertEqual(tree_run(handed(tree, [bare, pick(k, 2)])), ("value", behind, cost + picking))

    def test_walked_through_by_its_own_steps(self):
        things = unlike_values(60)
        tree = list_of(things)
        for thing in things:
            self.assertEqual(tree_run(handed(tree, ["S", pick(0, 2)]))[1], thing)
            tree = tree_run(handed(tree, ["S", pick(1, 2)]))[1]
        self.assertEqual(tree_run(handed(tree, [joint("S", "K"), pick(1, 2)]))[1], joint("S", "K"))

    def test_values(self):
        for many in (0, 1, 60):
            self.assertIs(is_value(list_of(unlike_values(many))), True)

    def test_lists_of_lists(self):
        inner = [list_of([]), list_of(["K"]), list_of(["K", "S"])]
        self.assertEqual(parted(list_of(inner)), plain_list([parted(thing) for thing in inner]))
        self.assertEqual(things_of(list_of(inner)), inner)
        self.assertEqual([things_of(thing) for thing in inner], [[], ["K"], ["K", "S"]])


class PacksAndEnds(unittest.TestCase):

    def test_by_the_words(self):
        chance = random.Random(240)
        for turn in range(50):
            nests = [any_value(chance, 8) for k in range(4)]
            trees = [tree_of(nest) for nest in nests]
            self.assertEqual(parted(pack(*trees[:3])), plain_pack(*nests[:3]))
            self.assertEqual(parted(end_of(*trees)), plain_end(*nests))
            self.assertEqual(pack(*trees[:3]), made_of(["p"], handed("p", trees[:3])))
            self.assertEqual(end_of(*trees), made_of(["p"], handed("p", trees)))

    def test_handed_picks(self):
        values = unlike_values(4)
        for k in range(3):
            cost = sum(made_costs(["p"], handed("p", ["l", "s", "r"])) + made_costs(["a", "b", "c"], "abc"[k]))
            self.assertEqual(tree_run(joint(pack(*values[:3]), pick(k, 3))), ("value", values[k], cost))
        for k in range(4):
            cost = sum(made_costs(["p"], handed("p", ["q", "l", "s", "r"])))
            cost += sum(made_costs(["a", "b", "c", "d"], "abcd"[k]))
            self.assertEqual(tree_run(joint(end_of(*values), pick(k, 4))), ("value", values[k], cost))

    def test_values(self):
        self.assertIs(is_value(pack("S", IDENTITY, "K")), True)
        self.assertIs(is_value(end_of("S", IDENTITY, "K", "K")), True)

    def test_things_that_are_no_values(self):
        ready = (("K", "S"), "K")
        self.assertEqual(parted(pack("S", tree_of(ready), "K")), plain_pack("S", ready, "K"))
        self.assertEqual(parted(end_of("S", "K", "K", tree_of(ready))), plain_end("S", "K", "K", ready))

    def test_things_of_any_size(self):
        great = great_value()
        self.assertEqual(leaves(pack(great, "K", great)), 2 * leaves(great) + 10)
        self.assertEqual(leaves(end_of(great, great, "K", great)), 3 * leaves(great) + 12)
        self.assertEqual(tree_run(joint(pack("S", great, "K"), pick(0, 3)))[1], "S")
        self.assertEqual(tree_run(handed(list_of([great, "S"]), ["K", pick(0, 2)]))[1][2], leaves(great))


class ReadBack(unittest.TestCase):

    def test_lists(self):
        chance = random.Random(241)
        for many in list(range(8)) + [30, 59, 60]:
            things = [tree_of(any_value(chance, 7)) for k in range(many)]
            self.assertEqual(things_of(list_of(things)), things)
        great = great_value()
        told = things_of(list_of(["S", great]))
        self.assertEqual((told[0], leaves(told[1]), len(told)), ("S", leaves(great), 2))

    def test_a_list_that_was_told_in_a_run(self):
        tree = tree_run(handed(list_of(["S", "K", IDENTITY]), ["S", pick(1, 2)]))[1]
        self.assertEqual(things_of(tree), ["K", IDENTITY])

    def test_picks(self):
        for many in list(range(1, 13)) + [59, 60, 200]:
            for k in range(many) if many < 13 else (0, 1, many // 2, many - 2, many - 1):
                self.assertEqual(picked(pick(k, many), many), k, (k, many))
                self.assertIs(type(picked(pick(k, many), many)), int)

    def test_picks_of_another_number(self):
        for many in range(1, 9):
            for k in range(many):
                for other in list(range(1, 9)) + [60]:
                    self.assertEqual(picked(pick(k, many), other), k if other == many else None, (k, many, other))

    def test_what_is_no_list(self):
        things = ["S", IDENTITY, "K"]
        for tree in ("S", joint("K", "K"), IDENTITY, pack(*things), end_of("K", *things), pack("K", "K", "K"),
                     joint("K", pack(*things)), joint("K", end_of("K", *things)), pick(1, 3), pick(5, 9), great_value(),
                     joint(list_of(things), "K"), joint("S", list_of(things)), joint("K", list_of(things)),
                     list_of(things)[1], joint(joint("K", "K"), "K"), made_of(["n", "c"], handed("c", ["K", "S"])),
                     made_of(["n", "c"], "c"), made_of(["n", "c"], handed("c", ["S", joint("K", "S")]))):
            self.assertIsNone(things_of(tree), leaves(tree))

    def test_a_list_with_what_is_no_value(self):
        ready = joint(joint("K", "S"), "K")
        for things in ((ready, "K"), ("S", ready)):
            held = joint(joint("S", joint(joint("S", IDENTITY), joint("K", things[0]))), joint("K", things[1]))
            self.assertIsNone(things_of(joint("K", held)))
        first = joint(joint("S", joint(joint("S", IDENTITY), joint("K", "K"))), joint("K", joint("K", ready)))
        self.assertIsNone(things_of(joint("K", first)))

    def test_lists_with_a_leaf_put_otherwise(self):
        for things in ([], ["S"], ["K", "S"], ["S", "K", "K"]):
            told = [things_of(tree) for tree in leaves_put_otherwise(list_of(things))]
            lists = [tell for tell in told if tell is not None]
            # Another leaf as a thing makes another list; any other leaf makes none.
            self.assertEqual(len(lists), len(things))
            for tell in lists:
                self.assertEqual(len(tell), len(things))
                self.assertEqual(sum(one != other for one, other in zip(tell, things)), 1)

    def test_lists_with_a_part_put_otherwise(self):
        others = ["S", "K", IDENTITY, joint("K", "K"), list_of(["S"]), joint(joint("K", "S"), "K")]
        lists = 0
        for tree in parts_put_otherwise(list_of(["S", IDENTITY, "K"]), others):
            told = things_of(tree)
            plain = plain_things(parted(tree))
            self.assertEqual(told, None if plain is None else [tree_of(nest) for nest in plain])
            lists += told is not None
        self.assertGreater(lists, 10)

    def test_picks_with_a_leaf_put_otherwise(self):
        for many in (1, 2, 3, 4, 9, 60):
            for k in sorted({0, many // 2, many - 1}):
                for tree in leaves_put_otherwise(pick(k, many)):
                    self.assertIsNone(picked(tree, many))

    def test_all_small_trees(self):
        picks = {(k, many): plain_pick(k, many) for many in range(1, 7) for k in range(many)}
        for size in range(1, 7):
            for nest in all_nests(size):
                tree = tree_of(nest)
                self.assertEqual(things_of(tree), [] if nest == "K" else None)
                for many in range(1, 7):
                    ks = [k for k in range(many) if picks[(k, many)] == nest]
                    self.assertEqual(picked(tree, many), ks[0] if ks else None)

    def test_what_is_no_pick(self):
        for many in (1, 2, 3, 60):
            for tree in ("S", joint("S", "K"), list_of(["S"]), list_of(["S", "K"]), pack("S", "K", "S"), great_value(),
                         end_of("S", "K", "S", "K"), joint(pick(0, many), "K"), joint("S", pick(0, many))):
                self.assertIsNone(picked(tree, many))
        deep = "K"
        for k in range(800):
            deep = joint("K", deep)
        for many in (1, 2, 60, 200):
            self.assertIsNone(picked(deep, many))

    def test_deep_lists(self):
        things = ["K", "S"] * 140
        self.assertLess(depth(list_of(things)), 900)
        self.assertEqual(things_of(list_of(things)), things)


def plain_things(nest):
    """The things of a list, all told as nested pairs, or None of what is no list."""
    things = []
    rest = nest
    while rest != "K":
        try:
            (k, ((s, ((t, one), (u, first))), (v, others))) = rest
        except ValueError:
            return None
        things.append(first)
        rest = others
    # What these things make is the very tree, or it was none.
    return things if plain_list(things) == nest else None


class Interface(unittest.TestCase):

    def test_arguments(self):
        for call, names in (
            (pick, ["k", "many"]),
            (list_of, ["things"]),
            (pack, ["one", "two", "three"]),
            (end_of, ["one", "two", "three", "four"]),
            (things_of, ["tree"]),
            (picked, ["tree", "many"]),
        ):
            self.assertEqual(list(inspect.signature(call).parameters), names)


if __name__ == "__main__":
    unittest.main()
