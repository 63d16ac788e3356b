"""Promise 2 for codes, maketrees, player and chain: what is handed in stays, what is told is the asker's own."""

import unittest

from keeping import Keeping, answer
from oneofall.chain import Chain, chain_image, chain_told
from oneofall.codes import end_of, list_of, pack, pick, picked, things_of
from oneofall.maketrees import Book, end_told, image_told, state_tree, tape_cost, tape_end, tape_image
from oneofall.player import player, player_of_all, text_cost, text_of, text_told
from oneofall.trees import joint, tree_run

VALUE = joint("S", "K")
READY = joint(joint("K", "S"), "K")

QUESTIONS = (
    (pick, [1, 3]),
    (list_of, [["S", VALUE, "K"]]),
    (list_of, [[]]),
    (pack, ["S", VALUE, "K"]),
    (end_of, ["S", VALUE, "K", "K"]),
    (things_of, [list_of(["S", VALUE, "K"])]),
    (things_of, ["K"]),
    (things_of, ["S"]),
    (picked, [pick(1, 3), 3]),
    (picked, [pick(1, 3), 2]),
    (text_of, [READY]),
    (player, [VALUE, "S"]),
    (player_of_all, []),
    (text_cost, [READY]),
    (text_told, [text_of(READY)]),
    (text_told, [READY]),
)

RULES = ((3, "a", "b", "r", 3), (3, "_", "_", "l", 8), (8, "b", "a", "l", 8), (8, "_", "b", "r", 1))
STATES = (8, 3, 1)
STANDS = ((3, "", "a", "ab"), (3, "b", "_", ""), (8, "ab", "b", "_"), (1, "", "a", ""), (8, "", "_", ""))
PROGRAM = (("down", 0, 1, 2), ("up", 1, 0))
COUNTS = ((0, (1, 2)), (1, (0, 3)), (2, (0, 0)))


def told_of_book(book):
    told = [book.rules[:], book.signs, book.states[:]] + [state_tree(book, state) for state in STATES]
    for stand in STANDS:
        image, end = tape_image(book, stand), tape_end(book, stand)
        cost = tape_cost(book, stand)
        told += [image, end, cost, image_told(book, image), end_told(book, end), image_told(book, end)]
        told += [end_told(book, image), tree_run(image, cost)]
    return told


def told_of_chain(chain):
    told = [chain.program[:], chain.many, chain.rules[:], chain.tape[:], chain.top, chain.book.states[:]]
    for stand in COUNTS:
        image = chain_image(chain, stand)
        told += [image, chain_told(chain, image), chain_told(chain, image[1])]
    return told


class Kept(Keeping, unittest.TestCase):

    QUESTIONS = QUESTIONS

    def test_numbers_told_are_no_truths(self):
        book = Book(list(RULES), "ab", list(STATES))
        for stand in STANDS:
            self.assertIs(type(tape_cost(book, stand)), int)
        self.assertIs(type(picked(pick(0, 3), 3)), int)
        self.assertIs(type(picked(pick(1, 3), 3)), int)
        self.assertIs(type(text_cost("S")), int)
        self.assertIs(type(Chain([], 1).top), int)


class Books(unittest.TestCase):

    def test_handed_in_is_as_before(self):
        rules, states = list(RULES), list(STATES)
        told_of_book(Book(rules, "ab", states))
        self.assertEqual((rules, states), (list(RULES), list(STATES)))

    def test_same_answers_and_also_of_a_book_made_anew(self):
        book = Book(list(RULES), "ab", list(STATES))
        told = told_of_book(book)
        self.assertEqual(told_of_book(book), told)
        self.assertEqual(told_of_book(Book(list(RULES), "ab", list(STATES))), told)

    def test_changes_behind_the_making_are_nothing(self):
        rules, states = list(RULES), list(STATES)
        untouched = told_of_book(Book(list(RULES), "ab", list(STATES)))
        book = Book(rules, "ab", states)
        # No question is asked ahead of the change: nothing is left to be read later.
        rules.clear()
        states.reverse()
        states.append(0)
        self.assertEqual(told_of_book(book), untouched)
        rules.append((3, "a", "a", "l", 1))
        self.assertEqual(told_of_book(book), untouched)
        self.assertEqual((book.rules, book.states), (list(RULES), list(STATES)))

    def test_books_made_of_changed_lists(self):
        rules, states = list(RULES), list(STATES)
        first = Book(rules, "ab", states)
        told = told_of_book(first)
        rules[0] = (3, "a", "_", "l", 1)
        second = Book(rules, "ab", states)
        self.assertEqual(told_of_book(first), told)
        self.assertNotEqual(state_tree(second, 3), state_tree(first, 3))
        self.assertEqual(told_of_book(second), told_of_book(Book(list(rules), "ab", list(STATES))))


class Chains(unittest.TestCase):

    def test_handed_in_is_as_before(self):
        program = list(PROGRAM)
        told_of_chain(Chain(program, 2))
        self.assertEqual(program, list(PROGRAM))

    def test_same_answers_and_also_of_a_chain_made_anew(self):
        chain = Chain(list(PROGRAM), 2)
        told = told_of_chain(chain)
        self.assertEqual(told_of_chain(chain), told)
        self.assertEqual(told_of_chain(Chain(list(PROGRAM), 2)), told)

    def test_changes_behind_the_making_are_nothing(self):
        program = list(PROGRAM)
        untouched = told_of_chain(Chain(list(PROGRAM), 2))
        chain = Chain(program, 2)
        program.clear()
        self.assertEqual(told_of_chain(chain), untouched)
        program.extend([("up", 0, 1), ("up", 0, 2), ("up", 0, 3)])
        self.assertEqual(told_of_chain(chain), untouched)
        self.assertEqual(chain.program, list(PROGRAM))

    def test_a_books_lists_and_a_chains_are_not_one(self):
        chain = Chain(list(PROGRAM), 2)
        book = Book(chain.tape, "bei", chain.book.states)
        self.assertIsNot(book.rules, chain.tape)
        self.assertIsNot(book.states, chain.book.states)
        self.assertIsNot(chain.book.rules, chain.tape)


if __name__ == "__main__":
    unittest.main()
