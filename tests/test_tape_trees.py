"""Promise 27, and 3 as far as it speaks of tapes made trees: what comes from an image, and in how many steps."""

import random
import unittest

from books import any_book, any_side, any_stand, end_by_words, image_by_words
from oneofall.maketrees import Book, end_told, image_told, state_tree, tape_cost, tape_end, tape_image
from oneofall.tapes import tape_run, tape_step
from oneofall.trees import is_value, leaves, tree_run, tree_step
from plaintrees import depth


def most_cost(book):
    return 2000 + 20 * len(book.states) + 200 * len(book.signs)


class Steps(unittest.TestCase):

    def assert_goes(self, book, stand):
        """From the image, by the cost's steps and no fewer, to the next image or the end; tells the next stand."""
        image = tape_image(book, stand)
        cost = tape_cost(book, stand)
        self.assertIs(type(cost), int)
        self.assertGreaterEqual(cost, 1)
        self.assertLessEqual(cost, most_cost(book))
        behind = tape_step(book.rules, stand)
        told = end_by_words(book, stand) if behind is None else image_by_words(book, behind)
        word, tree, steps = tree_run(image, cost)
        self.assertEqual((tree, steps), (told, cost), stand)
        self.assertEqual(word, "value" if behind is None else "on")
        early = tree_run(image, cost - 1)
        self.assertEqual((early[0], early[2]), ("on", cost - 1))
        self.assertNotEqual(early[1], told)
        if behind is None:
            self.assertEqual((image_told(book, tree), end_told(book, tree)), (None, stand))
        else:
            self.assertEqual((image_told(book, tree), end_told(book, tree)), (behind, None))
        return behind

    def test_by_rules_to_both_sides(self):
        for move in "lr":
            for write in "_ab":
                book = Book([(2, "a", write, move, 5)], "ab", [5, 2])
                for left in ("", "_", "a", "b", "ba", "_ab"):
                    for right in ("", "_", "a", "b", "ab", "a_b"):
                        self.assertIsNotNone(self.assert_goes(book, (2, left, "a", right)))
                        self.assertIsNone(self.assert_goes(book, (2, left, "b", right)))
                        self.assertIsNone(self.assert_goes(book, (5, left, "_", right)))

    def test_no_rule_at_all(self):
        for states in (1, 2, 7):
            for signs in ("", "q", "abcdefgh"):
                book = Book([], signs, list(range(states)))
                for state in book.states:
                    for sign in "_" + signs:
                        self.assertIsNone(self.assert_goes(book, (state, signs, sign, signs + "_")))

    def test_one_state_without_signs(self):
        for move in "lr":
            book = Book([(0, "_", "_", move, 0)], "", [0])
            for left in ("", "_", "__", "_" * 40):
                for right in ("", "_", "_" * 40):
                    self.assertIsNotNone(self.assert_goes(book, (0, left, "_", right)))

    def test_many_books(self):
        chance = random.Random(27)
        for states in (1, 2, 3, 4, 5, 6, 7, 9, 12):
            for signs in range(9):
                book = any_book(chance, states, signs)
                for turn in range(4):
                    self.assert_goes(book, any_stand(chance, book))

    def test_long_sides(self):
        chance = random.Random(270)
        book = any_book(chance, 3, 4, 1)
        for state in book.states:
            for sign in "_" + book.signs:
                stand = (state, "".join(chance.choices("_" + book.signs, k=40)), sign, "_" * 40)
                self.assertIsNotNone(self.assert_goes(book, stand))

    def test_two_hundred_states(self):
        chance = random.Random(271)
        for signs, share in ((8, 0.9), (0, 0.5), (3, 0)):
            book = any_book(chance, 200, signs, share)
            for state in (book.states[0], book.states[100], book.states[199]):
                for sign in "_" + book.signs:
                    self.assert_goes(book, (state, any_side(chance, book), sign, any_side(chance, book)))

    def test_each_of_two_hundred_states_is_come_to(self):
        rules = [(state, "_", "_", "lr"[state % 2], state + 1) for state in range(199)]
        book = Book(rules, "", list(range(200)))
        stand = (0, "", "_", "")
        while stand is not None:
            last = stand
            stand = self.assert_goes(book, stand)
        self.assertEqual(last[0], 199)

    def test_whole_runs(self):
        chance = random.Random(272)
        stops = 0
        for turn in range(30):
            book = any_book(chance, chance.randrange(1, 6), chance.randrange(4), 0.85)
            stands = tape_run(book.rules, any_stand(chance, book), 25)
            costs = [tape_cost(book, stand) for stand in stands]
            if tape_step(book.rules, stands[-1]) is None:
                stops += 1
                told = ("value", tape_end(book, stands[-1]), sum(costs))
                self.assertEqual(tree_run(tape_image(book, stands[0]), 50000), told)
            else:
                told = ("on", tape_image(book, stands[-1]), sum(costs[:-1]))
                self.assertEqual(tree_run(tape_image(book, stands[0]), sum(costs[:-1])), told)
        self.assertGreater(stops, 5)
        self.assertLess(stops, 25)

    def test_of_like_rules_the_first_holds(self):
        book = Book([(0, "a", "b", "r", 1), (0, "a", "_", "l", 0)], "ab", [0, 1])
        self.assertEqual(self.assert_goes(book, (0, "b", "a", "b")), (1, "bb", "b", ""))


class Between(unittest.TestCase):

    def assert_no_image_between(self, book, stand):
        """By single steps: no tree ahead of the last one has a state's tree in front of a value."""
        fronts = [state_tree(book, state) for state in book.states]
        tree = tape_image(book, stand)
        for step in range(tape_cost(book, stand) - 1):
            tree = tree_step(tree)
            self.assertFalse(is_value(tree[1]) and tree[0] in fronts, (stand, step))
            self.assertIsNone(image_told(book, tree))
            self.assertIsNone(end_told(book, tree))
            self.assertIs(is_value(tree), False)
        behind = tape_step(book.rules, stand)
        told = tape_end(book, stand) if behind is None else tape_image(book, behind)
        self.assertEqual(tree_step(tree), told)

    def test_no_tree_between_is_an_image(self):
        chance = random.Random(273)
        for states, signs in ((1, 0), (1, 1), (2, 0), (2, 2), (3, 3), (5, 8)):
            for turn in range(3):
                book = any_book(chance, states, signs)
                for state in book.states:
                    for sign in "_" + book.signs[:2]:
                        self.assert_no_image_between(book, (state, any_side(chance, book, 5), sign, any_side(chance, book, 5)))

    def test_by_rules_that_change_nothing(self):
        for move in "lr":
            book = Book([(0, "_", "_", move, 0)], "", [0])
            for sides in (("", ""), ("_", ""), ("", "_"), ("__", "__")):
                self.assert_no_image_between(book, (0, sides[0], "_", sides[1]))


class Costs(unittest.TestCase):

    def test_what_a_cost_hangs_on(self):
        chance = random.Random(274)
        for states, signs in ((1, 0), (2, 1), (3, 3), (6, 8)):
            book = any_book(chance, states, signs, 0.8)
            seen = {}
            for turn in range(300):
                stand = any_stand(chance, book)
                moves = [rule[3] for rule in book.rules if rule[:2] == (stand[0], stand[2])]
                side = None if not moves else (stand[1] if moves[0] == "l" else stand[3]) != ""
                cost = tape_cost(book, stand)
                self.assertEqual(seen.setdefault((stand[0], stand[2], side), cost), cost)

    def test_bounds(self):
        chance = random.Random(275)
        for states in (1, 2, 3, 50, 200):
            for signs in (0, 1, 8):
                book = any_book(chance, states, signs, 0.9)
                costs = [tape_cost(book, (state, "_", sign, "_")) for state in book.states for sign in "_" + book.signs]
                self.assertLessEqual(max(costs), most_cost(book))
                self.assertGreaterEqual(min(costs), 1)

    def test_of_a_book_made_anew(self):
        chance = random.Random(276)
        book = any_book(chance, 5, 3)
        again = Book(book.rules, book.signs, book.states)
        for turn in range(30):
            stand = any_stand(chance, book)
            self.assertEqual(tape_cost(again, stand), tape_cost(book, stand))


class Sizes(unittest.TestCase):

    def test_images_of_small_books(self):
        for states in ([0], [0, 1]):
            keys = [None] + [("_", move, target) for move in "lr" for target in states]
            for one in keys:
                for other in keys if len(states) == 2 else [None]:
                    rules = [(state, "_") + key for state, key in ((0, one), (1, other)) if key is not None]
                    book = Book(rules, "", states)
                    for state in states:
                        for left in range(4):
                            image = tape_image(book, (state, "_" * left, "_", "___"))
                            self.assertLessEqual(leaves(image), 1200)
                            self.assertLessEqual(depth(image), 100)

    def test_runs_stay_below_900_joints(self):
        book = any_book(random.Random(277), 200, 8, 0.9)
        stand = (book.states[7], "_" * 40, book.signs[7], "_" * 40)
        tree = tape_image(book, stand)
        depths = Depths()
        self.assertEqual(depths.depth(tape_end(book, stand)), depth(tape_end(book, stand)))
        for step in range(tape_cost(book, stand)):
            self.assertLess(depths.depth(tree), 450)
            tree = tree_step(tree)


class Depths:
    """The greatest number of joints above a leaf, of trees that share parts."""

    def __init__(self):
        self.known = {}

    def depth(self, tree):
        waiting = [tree]
        while waiting:
            part = waiting[-1]
            new = [] if self.is_known(part) else [side for side in part[:2] if not self.is_known(side)]
            waiting.extend(new)
            if not new:
                waiting.pop()
                if not self.is_known(part):
                    # The part is kept beside its depth, so that no other one gets its number.
                    self.known[id(part)] = (1 + max(self.told(side) for side in part[:2]), part)
        return self.told(tree)

    def is_known(self, part):
        return isinstance(part, str) or id(part) in self.known

    def told(self, part):
        return 0 if isinstance(part, str) else self.known[id(part)][0]


if __name__ == "__main__":
    unittest.main()
