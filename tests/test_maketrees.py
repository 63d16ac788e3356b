"""Promises 25, 26 and 28: books, the trees of states, images and ends of stands, and what is read back."""

import inspect
import random
import unittest

from books import any_book, any_stand, end_by_words, image_by_words
from changes import leaves_put_otherwise, parts_put_otherwise
from oneofall.codes import end_of, list_of, pack, pick
from oneofall.maketrees import Book, end_told, image_told, state_tree, tape_cost, tape_end, tape_image
from oneofall.trees import is_value, joint, tree_run, tree_step
from plaintrees import IDENTITY, all_nests, depth, tree_of

RULES = [(3, "a", "b", "r", 3), (3, "_", "_", "l", 8), (8, "b", "a", "l", 8), (8, "_", "b", "r", 1)]
STATES = [8, 3, 1]


def small_book():
    return Book(RULES, "ab", STATES)


class Books(unittest.TestCase):

    def test_fields(self):
        book = small_book()
        self.assertEqual((book.rules, book.signs, book.states), (RULES, "ab", STATES))
        self.assertEqual((type(book.rules), type(book.states)), (list, list))
        bare = Book([], "", [7])
        self.assertEqual((bare.rules, bare.signs, bare.states), ([], "", [7]))

    def assert_trees_of_states(self, book):
        trees = [state_tree(book, state) for state in book.states]
        for k, tree in enumerate(trees):
            self.assertIs(is_value(tree), True)
            for value in ("S", "K", IDENTITY, tree, pack("K", IDENTITY, "K")):
                self.assertIs(is_value(joint(tree, value)), False)
            self.assertNotIn(tree, trees[:k])
            self.assertEqual(state_tree(book, book.states[k]), tree)
        return trees

    def test_trees_of_states(self):
        chance = random.Random(25)
        self.assert_trees_of_states(small_book())
        for states in (1, 2, 3, 4, 5, 8, 17):
            for signs in (0, 1, 3, 8):
                self.assert_trees_of_states(any_book(chance, states, signs))

    def test_states_that_do_the_same(self):
        for states in (2, 5, 16):
            self.assert_trees_of_states(Book([], "a", list(range(states))))
            rules = [(state, sign, "_", "r", 0) for state in range(states) for sign in "_a"]
            self.assert_trees_of_states(Book(rules, "a", list(range(states))))
            rules = [(state, sign, sign, "l", state) for state in range(states) for sign in "_a"]
            self.assert_trees_of_states(Book(rules, "a", list(range(states))))

    def test_two_hundred_states(self):
        for book in (any_book(random.Random(250), 200, 8, 0.9), any_book(random.Random(251), 200, 0),
                     Book([], "abcdefgh", list(range(200)))):
            trees = self.assert_trees_of_states(book)
            self.assertEqual(len(trees), 200)
            for state in (book.states[0], book.states[99], book.states[199]):
                stand = (state, "_" * 40, "_", "_" * 40)
                self.assertEqual(image_told(book, tape_image(book, stand)), stand)
                self.assertEqual(end_told(book, tape_end(book, stand)), stand)
            # Deep trees would come too near to the 900 joints that a run may have.
            self.assertLess(depth(trees[0]), 400)

    def test_same_trees_of_a_book_made_anew(self):
        chance = random.Random(252)
        for book in (small_book(), any_book(chance, 4, 3), any_book(chance, 9, 8), any_book(chance, 200, 3)):
            again = Book(book.rules, book.signs, book.states)
            for state in book.states[:20]:
                self.assertEqual(state_tree(again, state), state_tree(book, state))


class ImagesAndEnds(unittest.TestCase):

    def test_by_the_words(self):
        chance = random.Random(26)
        for states, signs in ((1, 0), (1, 2), (2, 0), (3, 3), (5, 8), (12, 1)):
            book = any_book(chance, states, signs)
            for turn in range(20):
                stand = any_stand(chance, book)
                self.assertEqual(tape_image(book, stand), image_by_words(book, stand))
                self.assertEqual(tape_end(book, stand), end_by_words(book, stand))

    def test_written_out(self):
        book = small_book()
        blank, a, b = pick(0, 3), pick(1, 3), pick(2, 3)
        image = tape_image(book, (3, "ab", "_", "ba_"))
        held = pack(list_of([b, a]), blank, list_of([b, a, blank]))
        self.assertEqual(image, joint(state_tree(book, 3), held))
        end = tape_end(book, (3, "ab", "_", "ba_"))
        self.assertEqual(end, end_of(pick(1, 3), list_of([b, a]), blank, list_of([b, a, blank])))
        self.assertEqual(tape_image(book, (1, "", "a", "")), joint(state_tree(book, 1), pack("K", a, "K")))
        self.assertEqual(tape_end(book, (8, "", "b", "")), end_of(pick(0, 3), "K", b, "K"))

    def test_book_without_signs(self):
        book = Book([(0, "_", "_", "r", 0)], "", [0])
        self.assertEqual(tape_image(book, (0, "", "_", "")), joint(state_tree(book, 0), pack("K", IDENTITY, "K")))
        self.assertEqual(tape_end(book, (0, "", "_", "")), end_of(IDENTITY, "K", IDENTITY, "K"))

    def test_images_have_a_step_and_ends_none(self):
        chance = random.Random(260)
        for book in (small_book(), any_book(chance, 3, 2)):
            for turn in range(20):
                stand = any_stand(chance, book)
                self.assertIs(is_value(tape_image(book, stand)), False)
                self.assertIsNotNone(tree_step(tape_image(book, stand)))
                self.assertIs(is_value(tape_end(book, stand)), True)


class ReadBack(unittest.TestCase):

    def assert_told(self, book, stand):
        image, end = tape_image(book, stand), tape_end(book, stand)
        self.assertEqual(image_told(book, image), stand)
        self.assertEqual(end_told(book, end), stand)
        self.assertIsNone(image_told(book, end))
        self.assertIsNone(end_told(book, image))

    def test_stands(self):
        chance = random.Random(28)
        for states, signs in ((1, 0), (1, 2), (2, 0), (3, 3), (5, 8), (12, 1), (200, 2)):
            book = any_book(chance, states, signs)
            for turn in range(20):
                self.assert_told(book, any_stand(chance, book))

    def test_sides_of_none_to_forty_signs(self):
        book = small_book()
        for many in (0, 1, 2, 39, 40):
            for other in (0, 1, 40):
                self.assert_told(book, (3, ("ab_" * 20)[:many], "b", ("_ba" * 20)[:other]))

    def test_of_a_book_made_anew(self):
        chance = random.Random(280)
        for states, signs in ((1, 0), (3, 2), (200, 8)):
            book = any_book(chance, states, signs)
            again = Book(book.rules, book.signs, book.states)
            for turn in range(5):
                stand = any_stand(chance, book)
                self.assertEqual(image_told(again, tape_image(book, stand)), stand)
                self.assertEqual(end_told(again, tape_end(book, stand)), stand)

    def test_what_came_in_a_run(self):
        book = small_book()
        stand = (3, "", "a", "_")
        image = tree_run(tape_image(book, stand), tape_cost(book, stand))[1]
        self.assertEqual(image_told(book, image), (3, "b", "_", ""))

    def test_leaves_put_otherwise(self):
        for book, stand in ((small_book(), (3, "a", "b", "_a")), (Book([], "", [4]), (4, "_", "_", "")),
                            (Book([(5, "_", "_", "r", 4)], "", [4, 5]), (5, "", "_", "_"))):
            for tree in leaves_put_otherwise(tape_image(book, stand)):
                self.assertIsNone(image_told(book, tree))
                self.assertIsNone(end_told(book, tree))
            for tree in leaves_put_otherwise(tape_end(book, stand)):
                self.assertIsNone(end_told(book, tree))
                self.assertIsNone(image_told(book, tree))

    def test_parts_put_otherwise(self):
        book = Book(RULES[:2], "ab", STATES)
        stand = (3, "a", "b", "_a")
        others = ["S", "K", pick(1, 3), pick(0, 3), list_of([pick(2, 3)]), joint(joint("K", "K"), "S")]
        others += [state_tree(book, 8), tape_end(book, stand), pick(1, 2)]
        told = 0
        for tree in parts_put_otherwise(tape_image(book, stand), others):
            read = image_told(book, tree)
            if read is not None:
                told += 1
                self.assertNotEqual(read, stand)
                self.assertEqual(image_by_words(book, read), tree)
        # Sides cut off or put otherwise, the sign or the state another one.
        self.assertGreater(told, 10)
        told = 0
        for tree in parts_put_otherwise(tape_end(book, stand), others):
            read = end_told(book, tree)
            if read is not None:
                told += 1
                self.assertEqual(end_by_words(book, read), tree)
        self.assertGreater(told, 10)

    def test_sides_signs_and_numbers_that_are_none(self):
        book = small_book()
        state, a = state_tree(book, 3), pick(1, 3)
        for left, sign, right in (("S", a, "K"), ("K", a, "S"), ("K", "K", "K"), ("K", pick(1, 4), "K"),
                                  (list_of([pick(0, 2)]), a, "K"), ("K", a, list_of([a, "S"])), (a, "K", "K")):
            self.assertIsNone(image_told(book, joint(state, pack(left, sign, right))))
            self.assertIsNone(end_told(book, end_of(pick(0, 3), left, sign, right)))
        self.assertEqual(end_told(book, end_of(pick(2, 3), "K", a, "K")), (1, "", "a", ""))
        for number in ("S", "K", pick(0, 2), pick(0, 4), pick(3, 4), state):
            self.assertIsNone(end_told(book, end_of(number, "K", a, "K")))
        for front in ("S", "K", IDENTITY, pick(1, 3), pack("K", a, "K")):
            self.assertIsNone(image_told(book, joint(front, pack("K", a, "K"))))
        self.assertIsNone(image_told(book, joint(state, end_of(pick(0, 3), "K", a, "K"))))
        self.assertIsNone(image_told(book, joint(state, state)))
        self.assertIsNone(image_told(book, joint("K", tape_image(book, (3, "", "a", "")))))
        self.assertIsNone(end_told(book, joint("K", tape_end(book, (3, "", "a", "")))))

    def test_small_trees(self):
        book = Book([], "", [0])
        for size in range(1, 6):
            for nest in all_nests(size):
                self.assertIsNone(image_told(book, tree_of(nest)))
                self.assertIsNone(end_told(book, tree_of(nest)))

    def test_great_and_deep_trees(self):
        book = small_book()
        great = "K"
        for k in range(200):
            great = joint(joint("S", great), great)
        deep = "K"
        for k in range(800):
            deep = joint("K", deep) if k % 2 else joint(joint("S", deep), "K")
        for tree in (great, deep):
            for whole in (tree, joint(state_tree(book, 3), tree), joint(tree, pack("K", pick(1, 3), "K"))):
                self.assertIsNone(image_told(book, whole))
                self.assertIsNone(end_told(book, whole))
            self.assertIsNone(image_told(book, joint(state_tree(book, 3), pack(tree, pick(1, 3), "K"))))
            self.assertIsNone(end_told(book, end_of(pick(0, 3), "K", tree, "K")))

    def test_of_another_book(self):
        book = small_book()
        stand = (3, "a", "b", "_a")
        for other in (Book(RULES[:3], "ab", STATES), Book(RULES, "ba", STATES), Book(RULES, "abc", STATES),
                      Book(RULES, "ab", STATES + [0]), Book(RULES, "ab", [1, 3, 8]), Book(RULES, "ab", [3, 8, 1])):
            read = image_told(other, tape_image(book, stand))
            self.assertTrue(read is None or tape_image(other, read) == tape_image(book, stand))
            self.assertIsNone(read)
            read = end_told(other, tape_end(book, stand))
            self.assertTrue(read is None or tape_end(other, read) == tape_end(book, stand))
        # Ends tell of no rules: only signs and states have to be as many.
        self.assertEqual(end_told(Book([], "xy", [5, 6, 7]), tape_end(book, stand)), (6, "x", "y", "_x"))
        self.assertIsNone(end_told(Book(RULES, "abc", STATES), tape_end(book, stand)))
        self.assertIsNone(end_told(Book(RULES, "ab", STATES + [0]), tape_end(book, stand)))


class Interface(unittest.TestCase):

    def test_arguments(self):
        for call, names in (
            (Book, ["rules", "signs", "states"]),
            (state_tree, ["book", "state"]),
            (tape_image, ["book", "stand"]),
            (tape_end, ["book", "stand"]),
            (tape_cost, ["book", "stand"]),
            (image_told, ["book", "tree"]),
            (end_told, ["book", "tree"]),
        ):
            self.assertEqual(list(inspect.signature(call).parameters), names)


if __name__ == "__main__":
    unittest.main()
