"""Promises 30 to 33, and 3 as far as it speaks of the player."""

import inspect
import random
import unittest

from changes import leaves_put_otherwise, parts_put_otherwise
from oneofall.codes import end_of, list_of, pack, pick
from oneofall.maketrees import Book, tape_cost, tape_end, tape_image
from oneofall.names import put_in
from oneofall.player import player, player_of_all, text_cost, text_of, text_told
from oneofall.trees import is_value, joint, leaves, tree_run
from oneofall.treetexts import tree_read
from plaincodes import plain_player, plain_text
from plaintrees import IDENTITY, all_nests, any_nest, any_value, depth, parted, plain_leaves, tree_of

SELF = joint(joint("S", IDENTITY), IDENTITY)
FOREVER = joint(SELF, SELF)


def deep_trees(joints):
    """Trees with so many joints one beneath another, to the right, to the left and to both."""
    right, left, both = "S", "K", "S"
    for k in range(joints):
        right = joint("K", right)
        left = joint(left, "S")
        both = joint("S", both) if k % 2 else joint(both, "K")
    return [right, left, both]


def replaced(tree, one, other):
    """The tree in which each S is replaced by one and each K by other."""
    return put_in(tree, {"S": one, "K": other})


class Texts(unittest.TestCase):

    def test_by_the_words(self):
        chance = random.Random(30)
        for nest in all_nests(1) + all_nests(2) + all_nests(3) + [any_nest(chance, 12) for k in range(60)]:
            self.assertEqual(parted(text_of(tree_of(nest))), plain_text(nest), nest)

    def test_written_out(self):
        first = joint(joint("S", joint("K", "K")), "K")
        third = joint("K", joint("K", IDENTITY))
        self.assertEqual(text_of("S"), joint(joint("S", IDENTITY), joint("K", first)))
        self.assertEqual(text_of("K"), joint(joint("S", IDENTITY), joint("K", joint("K", "K"))))
        front = joint(joint("S", joint(joint("S", joint(joint("S", IDENTITY), joint("K", third))), text_of("S"))), text_of("K"))
        self.assertEqual(text_of(joint("S", "K")), front)

    def test_values_and_their_leaves(self):
        chance = random.Random(301)
        for turn in range(100):
            nest = any_nest(chance, chance.randrange(1, 40))
            tree = tree_of(nest)
            text = text_of(tree)
            self.assertIs(is_value(text), True)
            ss = str(nest).count("S")
            self.assertEqual(leaves(text), 9 * ss + 7 * (plain_leaves(nest) - ss) + 12 * (plain_leaves(nest) - 1))

    def test_deep_and_great_trees(self):
        for tree in deep_trees(100):
            self.assertEqual(depth(tree), 100)
            self.assertEqual(text_told(text_of(tree)), tree)
        parts = ["S", "K", "K"] * 20000
        while len(parts) > 1:
            parts = [joint(*pair) for pair in zip(parts[::2], parts[1::2])] + parts[len(parts) // 2 * 2:]
        text = text_of(parts[0])
        self.assertEqual(leaves(text), 9 * 20000 + 7 * 40000 + 12 * 59999)
        self.assertEqual(text_cost(parts[0]), 16 * 20000 + 14 * 40000 + 20 * 59999)
        self.assertEqual(text_told(text), parts[0])

    def test_no_two_are_alike(self):
        texts = [text_of(tree_of(nest)) for size in (1, 2, 3, 4) for nest in all_nests(size)]
        self.assertEqual(len(set(texts)), len(texts))


class Costs(unittest.TestCase):

    def test_leaves_and_joints(self):
        for text, cost in (("S", 16), ("K", 14), ("(SK)", 50), ("(SS)", 52), ("(KK)", 48), ("((SK)K)", 84),
                           ("(S(KS))", 86), ("((SS)(KK))", 120)):
            self.assertEqual(text_cost(tree_read(text)), cost, text)
            self.assertIs(type(text_cost(tree_read(text))), int)

    def test_many_trees(self):
        chance = random.Random(32)
        for turn in range(100):
            nest = any_nest(chance, chance.randrange(1, 60))
            leaf_count, ss = plain_leaves(nest), str(nest).count("S")
            self.assertEqual(text_cost(tree_of(nest)), 16 * ss + 14 * (leaf_count - ss) + 20 * (leaf_count - 1))

    def test_deep_trees(self):
        for tree in deep_trees(100):
            ss = str(parted(tree)).count("S")
            self.assertEqual(text_cost(tree), 16 * ss + 14 * (101 - ss) + 2000)


class Players(unittest.TestCase):

    def test_by_the_words(self):
        chance = random.Random(31)
        for turn in range(50):
            one, other = any_value(chance, 9), any_value(chance, 9)
            self.assertEqual(parted(player(tree_of(one), tree_of(other))), plain_player(one, other))
        self.assertEqual(parted(player_of_all()), plain_player("S", "K"))
        self.assertEqual(player_of_all(), player("S", "K"))
        self.assertIs(is_value(player_of_all()), True)

    def assert_played(self, tree, one="S", other="K", most=3000):
        """Where the tree comes to a value, the player comes to the same in so many steps more; else to none."""
        word, end, steps = tree_run(replaced(tree, one, other), most)
        played = joint(player(one, other), text_of(tree))
        more = 4 + text_cost(tree)
        if word == "value":
            self.assertEqual(tree_run(played, steps + more), ("value", end, steps + more))
            self.assertEqual(tree_run(played, steps + more - 1)[0], "on")
        else:
            self.assertEqual(tree_run(played, most + more)[0::2], ("on", most + more))
        return word

    def test_leaves(self):
        self.assertEqual(tree_run(joint(player_of_all(), text_of("S"))), ("value", "S", 20))
        self.assertEqual(tree_run(joint(player_of_all(), text_of("K"))), ("value", "K", 18))
        self.assert_played("S", IDENTITY, joint("S", "S"))
        self.assert_played("K", IDENTITY, joint("S", "S"))

    def test_all_small_trees(self):
        for size in (1, 2, 3, 4, 5):
            for nest in all_nests(size):
                self.assertEqual(self.assert_played(tree_of(nest)), "value")

    def test_many_trees(self):
        chance = random.Random(320)
        words = [self.assert_played(tree_of(any_nest(chance, chance.randrange(6, 40))), most=800) for k in range(200)]
        self.assertGreater(words.count("value"), 100)

    def test_trees_that_come_to_no_value(self):
        for tree in (FOREVER, joint("K", FOREVER), joint(joint("K", "S"), FOREVER), joint(FOREVER, "S")):
            self.assertEqual(self.assert_played(tree), "on")
        # This one comes to a value itself, but not with these in the place of its leaves.
        self.assertEqual(self.assert_played(joint(joint("K", "S"), "K"), SELF, SELF, 500), "on")

    def test_deep_trees(self):
        for tree in deep_trees(100):
            self.assert_played(tree)

    def test_other_values(self):
        chance = random.Random(310)
        words = []
        for turn in range(150):
            one, other = tree_of(any_value(chance, 6)), tree_of(any_value(chance, 6))
            words.append(self.assert_played(tree_of(any_nest(chance, chance.randrange(1, 15))), one, other, 600))
        self.assertGreater(words.count("value"), 75)
        self.assert_played(tree_of((("S", "K"), "K")), "K", "S")
        self.assert_played(tree_of(("K", ("S", "S"))), joint("K", "S"), joint(joint("S", "S"), "K"))

    def test_plays_itself_playing(self):
        chance = random.Random(322)
        nests = ["S", "K", ("S", "K"), (("K", "S"), "K"), ((("S", "K"), "K"), "S")] + [any_nest(chance, 8) for k in range(12)]
        for nest in nests:
            tree = tree_of(nest)
            word, end, steps = tree_run(tree)
            self.assertEqual(word, "value", nest)
            playing = joint(player_of_all(), text_of(tree))
            again = joint(player_of_all(), text_of(playing))
            steps = steps + 8 + text_cost(tree) + text_cost(playing)
            self.assertEqual(tree_run(again, steps), ("value", end, steps))
            self.assertEqual(tree_run(again, steps - 1)[0], "on")

    def test_plays_itself_playing_what_comes_to_no_value(self):
        playing = joint(player_of_all(), text_of(FOREVER))
        self.assertEqual(tree_run(joint(player_of_all(), text_of(playing)), 50000)[0::2], ("on", 50000))

    def test_plays_a_tape(self):
        book = Book([(0, "a", "b", "r", 0), (0, "_", "_", "l", 1)], "ab", [0, 1])
        stands = [(0, "", "a", "a"), (0, "b", "a", ""), (0, "bb", "_", ""), (1, "b", "b", "_")]
        image = tape_image(book, stands[0])
        steps = 4 + text_cost(image) + sum([tape_cost(book, stand) for stand in stands])
        played = tree_run(joint(player_of_all(), text_of(image)), steps)
        self.assertEqual(played, ("value", tape_end(book, stands[-1]), steps))


class ReadBack(unittest.TestCase):

    def test_texts(self):
        chance = random.Random(33)
        for nest in all_nests(1) + all_nests(2) + all_nests(3) + [any_nest(chance, 30) for k in range(60)]:
            self.assertEqual(text_told(text_of(tree_of(nest))), tree_of(nest))

    def test_text_of_a_text(self):
        text = text_of(joint("S", "K"))
        self.assertEqual(text_told(text_of(text)), text)
        self.assertEqual(text_told(text_told(text_of(text))), joint("S", "K"))

    def test_leaves_put_otherwise(self):
        for nest in ("S", "K", ("S", "K"), (("S", "K"), "S"), ("K", ("K", "S"))):
            for tree in leaves_put_otherwise(text_of(tree_of(nest))):
                self.assertIsNone(text_told(tree))

    def test_parts_put_otherwise(self):
        others = [text_of("S"), text_of("K"), text_of(joint("K", "K")), pick(0, 3), pick(1, 3), pick(2, 3), IDENTITY, "S"]
        texts = [text_of(tree_of(nest)) for size in (1, 2, 3, 4) for nest in all_nests(size)]
        told = 0
        for tree in parts_put_otherwise(text_of(tree_of((("S", "K"), "S"))), others):
            if text_told(tree) is not None:
                told += 1
                self.assertEqual(text_of(text_told(tree)), tree)
            else:
                self.assertNotIn(tree, texts)
        self.assertGreater(told, 10)

    def test_what_is_no_text(self):
        for size in range(1, 7):
            for nest in all_nests(size):
                self.assertIsNone(text_told(tree_of(nest)))
        for tree in (player_of_all(), pick(0, 3), pack("S", "K", "S"), end_of("S", "K", "S", "K"), list_of(["S"]),
                     joint(text_of("S"), "K"), joint("K", text_of("S")), joint(text_of("S"), text_of("K")), FOREVER,
                     joint(joint("S", IDENTITY), joint("K", pick(2, 3))), joint(joint("S", IDENTITY), joint("K", pick(0, 2))),
                     joint(joint("S", joint(joint("S", text_of("S")), text_of("S"))), text_of("K"))):
            self.assertIsNone(text_told(tree))

    def test_great_and_deep_trees(self):
        great = "K"
        for k in range(200):
            great = joint(joint("S", great), great)
        self.assertIsNone(text_told(great))
        self.assertIsNone(text_told(joint(text_of("S"), great)))
        for tree in deep_trees(300):
            self.assertIsNone(text_told(tree))
        text = text_of(deep_trees(100)[0])
        self.assertIsNone(text_told(joint(joint("S", text), text)))


class Interface(unittest.TestCase):

    def test_arguments(self):
        for call, names in (
            (text_of, ["tree"]),
            (player, ["one", "other"]),
            (player_of_all, []),
            (text_cost, ["tree"]),
            (text_told, ["tree"]),
        ):
            self.assertEqual(list(inspect.signature(call).parameters), names)


if __name__ == "__main__":
    unittest.main()
