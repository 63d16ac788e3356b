"""Promises 34 and 35, and 3 as a whole: programs of counters made rows, tapes and trees."""

import inspect
import random
import unittest

from changes import leaves_put_otherwise
from oneofall.chain import Chain, chain_image, chain_told
from oneofall.codes import list_of, pack, pick
from oneofall.counters import counter_run, counter_step
from oneofall.makerows import counter_image, make_rows
from oneofall.maketapes import make_tape, row_image
from oneofall.maketrees import Book, image_told, state_tree, tape_cost, tape_end, tape_image
from oneofall.rows import row_run, row_step
from oneofall.tapes import tape_run, tape_step
from oneofall.trees import is_value, joint, tree_run
from plaintrees import IDENTITY, all_nests, tree_of

MOVE = [("down", 0, 1, 2), ("up", 1, 0)]
PROGRAMS = (
    ([], 1), ([], 2),
    ([("up", 0, 1)], 1), ([("up", 0, 0)], 1), ([("up", 1, 1)], 2), ([("down", 0, 0, 1)], 1), ([("down", 0, 1, 0)], 1),
    ([("down", 1, 0, 1)], 2), ([("down", 1, 1, 1)], 2), ([("down", 0, 1, 1)], 2),
    (MOVE, 2), ([("down", 1, 1, 2), ("up", 0, 0)], 2), ([("up", 0, 1), ("down", 0, 0, 2)], 1),
    ([("up", 1, 1), ("up", 0, 2)], 2), ([("down", 0, 0, 1), ("down", 1, 1, 2)], 2), ([("up", 0, 2), ("up", 0, 0)], 1),
)


def small_stands(program, many):
    counts = [(0,), (1,), (3,)] if many == 1 else [(0, 0), (1, 0), (0, 2), (2, 1)]
    return [(place, count) for place in range(len(program) + 1) for count in counts]


def run_by_pieces(tree, steps):
    done = 0
    while done < steps:
        word, tree, more = tree_run(tree, min(40000, steps - done))
        if more == 0:
            break
        done += more
    return tree, done


def tape_stands(chain, stand, k):
    """The tape's stands from the image of a counters' stand behind k steps up to the next one's, this too."""
    rows = row_run(chain.rules, counter_image(stand), len(counter_image(stand)[1]))
    steps = 0
    for one, other in zip(rows, rows[1:]):
        word = [rule[2] for rule in chain.rules if rule[:2] == (one[0], one[1][0])][0]
        steps += 2 * len(one[1]) + 2 * len(word) + 1
    return tape_run(chain.tape, row_image(counter_image(stand), k), steps)


class Fields(unittest.TestCase):

    def test_all_fields(self):
        for program, many in PROGRAMS:
            chain = Chain(program, many)
            self.assertEqual((chain.program, chain.many), (program, many))
            self.assertEqual((type(chain.program), type(chain.rules), type(chain.tape)), (list, list, list))
            self.assertEqual(chain.rules, make_rows(program, many))
            states = [state for rule in chain.rules for state in (rule[0], rule[3])]
            self.assertEqual(chain.top, max(states + [len(program)]))
            self.assertEqual(chain.tape, make_tape(chain.rules, "bei", chain.top))
            self.assertIsInstance(chain.book, Book)
            self.assertEqual((chain.book.rules, chain.book.signs), (chain.tape, "bei"))
            states = [state for rule in chain.tape for state in (rule[0], rule[4])]
            self.assertEqual(chain.book.states, sorted(set(states) | set(range(chain.top + 1))))

    def test_no_rows(self):
        for many in (1, 2):
            chain = Chain([], many)
            self.assertEqual((chain.rules, chain.tape, chain.top, chain.book.states), ([], [], 0, [0]))

    def test_a_stop_that_is_never_come_to(self):
        chain = Chain([("up", 0, 0)], 1)
        self.assertIn(1, chain.book.states)
        self.assertEqual(chain_told(chain, chain_image(chain, (1, (2,)))), (1, (2,)))


class Images(unittest.TestCase):

    def test_by_the_words(self):
        for program, many in PROGRAMS:
            chain = Chain(program, many)
            for stand in small_stands(program, many):
                place, counts = stand
                row = "b" + "".join("i" * count + "e" for count in counts)
                self.assertEqual(chain_image(chain, stand), tape_image(chain.book, (place, "", "b", row[1:])))

    def test_written_out(self):
        chain = Chain(MOVE, 2)
        b, e, i = pick(1, 4), pick(2, 4), pick(3, 4)
        held = pack("K", b, list_of([i, e, i, i, e]))
        self.assertEqual(chain_image(chain, (1, (1, 2))), joint(state_tree(chain.book, 1), held))


class ReadBack(unittest.TestCase):

    def test_images_and_ends(self):
        for program, many in PROGRAMS:
            chain = Chain(program, many)
            for stand in small_stands(program, many):
                self.assertEqual(chain_told(chain, chain_image(chain, stand)), stand)
                for k in (0, 1, 2, 17, 40):
                    on_tape = row_image(counter_image(stand), k)
                    self.assertEqual(chain_told(chain, tape_image(chain.book, on_tape)), stand)
                    self.assertEqual(chain_told(chain, tape_end(chain.book, on_tape)), stand)

    def test_greatest_counts(self):
        chain = Chain(MOVE, 2)
        for counts in ((12, 0), (0, 12), (6, 6), (5, 7)):
            self.assertEqual(chain_told(chain, chain_image(chain, (0, counts))), (0, counts))
        chain = Chain([("up", 0, 1)], 1)
        self.assertEqual(chain_told(chain, chain_image(chain, (0, (12,)))), (0, (12,)))

    def test_of_k_nothing_is_asked(self):
        chain = Chain(MOVE, 2)
        for left in ("", "_", "___", "b", "_ei"):
            for right in ("iee", "iee_", "iee___"):
                self.assertEqual(chain_told(chain, tape_image(chain.book, (0, left, "b", right))), (0, (1, 0)))

    def test_images_of_other_stands(self):
        chain = Chain(MOVE, 2)
        for sign, right in (("b", "ie"), ("b", "ieee"), ("b", "iei"), ("b", ""), ("e", "ee"), ("_", "bee"), ("_", ""),
                            ("b", "e_e"), ("b", "e_ie"), ("b", "bee"), ("i", "ee")):
            for tree in (tape_image(chain.book, (0, "", sign, right)), tape_end(chain.book, (0, "", sign, right))):
                self.assertIsNone(chain_told(chain, tree))
        for state in chain.book.states:
            told = chain_told(chain, tape_image(chain.book, (state, "_", "b", "ieiie_")))
            self.assertEqual(told, (state, (1, 2)) if state <= 2 else None)
        self.assertGreater(chain.top, 2)
        self.assertGreater(chain.book.states[-1], chain.top)

    def test_what_is_none(self):
        chain = Chain([("up", 0, 1)], 1)
        for size in range(1, 6):
            for nest in all_nests(size):
                self.assertIsNone(chain_told(chain, tree_of(nest)))
        image = chain_image(chain, (0, (1,)))
        for tree in (image[0], image[1], joint("K", image), joint(image, "K"), joint(image[0], image[0]),
                     joint(IDENTITY, image[1]), tree_run(image, 1)[1]):
            self.assertIsNone(chain_told(chain, tree))
        for tree in leaves_put_otherwise(tape_end(chain.book, (1, "", "b", "ie"))):
            self.assertIsNone(chain_told(chain, tree))
        bare = Chain([], 1)
        for tree in leaves_put_otherwise(chain_image(bare, (0, (2,)))):
            self.assertIsNone(chain_told(bare, tree))

    def test_of_another_chain(self):
        chain = Chain(MOVE, 2)
        image = chain_image(chain, (0, (1, 2)))
        for other in (Chain(MOVE[:1] + [("up", 0, 0)], 2), Chain([("down", 0, 1, 2), ("up", 1, 1)], 2)):
            self.assertIsNone(chain_told(other, image))
        self.assertEqual(chain_told(Chain(list(MOVE), 2), image), (0, (1, 2)))


class Runs(unittest.TestCase):

    def assert_goes(self, chain, stand, tree, k):
        """From the image of a stand behind k steps to that of the next one, or to the end; tells the tree and k."""
        self.assertEqual(chain_told(chain, tree), stand)
        behind = counter_step(chain.program, stand)
        if behind is None:
            on_tape = row_image(counter_image(stand), k)
            cost = tape_cost(chain.book, on_tape)
            told = ("value", tape_end(chain.book, on_tape), cost)
            self.assertEqual(tree_run(tree, cost), told)
            self.assertIsNone(chain_told(chain, tree_run(tree, cost - 1)[1]))
            self.assertEqual(chain_told(chain, told[1]), stand)
            return None
        stands = tape_stands(chain, stand, k)
        k += len(counter_image(stand)[1])
        self.assertEqual(stands[-1], row_image(counter_image(behind), k))
        costs = [tape_cost(chain.book, on_tape) for on_tape in stands[:-1]]
        last = run_by_pieces(tree, sum(costs) - 1)
        self.assertEqual(last[1], sum(costs) - 1)
        self.assertIsNone(chain_told(chain, last[0]))
        word, tree, steps = tree_run(last[0], 1)
        self.assertEqual((word, steps), ("on", 1))
        self.assertEqual(tree, tape_image(chain.book, stands[-1]))
        self.assertEqual(chain_told(chain, tree), behind)
        return tree, k

    def test_every_step_of_small_stands(self):
        for program, many in PROGRAMS:
            chain = Chain(program, many)
            for stand in small_stands(program, many):
                self.assert_goes(chain, stand, chain_image(chain, stand), 0)

    def test_whole_runs_to_the_stop(self):
        for program, many, start in ((MOVE, 2, (0, (2, 1))), ([("down", 0, 0, 1)], 1, (0, (2,))), ([], 2, (0, (1, 1))),
                                     ([("up", 1, 1), ("up", 0, 2)], 2, (0, (0, 0)))):
            chain = Chain(program, many)
            tree, k = chain_image(chain, start), 0
            stands = counter_run(program, start)
            for stand in stands:
                self.assertTrue(tree is not None)
                gone = self.assert_goes(chain, stand, tree, k)
                tree, k = gone or (None, None)
            self.assertIsNone(tree)
            self.assertEqual(stands[-1][0], len(program))

    def test_greatest_counts(self):
        chain = Chain(MOVE, 2)
        for stand in ((0, (12, 0)), (0, (0, 12)), (1, (6, 6))):
            self.assert_goes(chain, stand, chain_image(chain, stand), 0)

    def test_images_between_are_read_back_as_none(self):
        chain = Chain(MOVE, 2)
        stand = (0, (1, 1))
        tree = chain_image(chain, stand)
        on_tape = row_image(counter_image(stand))
        images = 0
        while True:
            tree = tree_run(tree, tape_cost(chain.book, on_tape))[1]
            on_tape = tape_step(chain.tape, on_tape)
            self.assertEqual(image_told(chain.book, tree), on_tape)
            if chain_told(chain, tree) is not None:
                break
            images += 1
        self.assertEqual(chain_told(chain, tree), (1, (0, 1)))
        self.assertEqual(images + 1, len(tape_stands(chain, stand, 0)) - 1)

    def test_nothing_is_read_back_between_by_single_steps(self):
        chain = Chain([("down", 0, 1, 0)], 1)
        stand = (0, (1,))
        tree = tree_run(chain_image(chain, stand), 1)[1]
        steps = 1
        while chain_told(chain, tree) is None:
            tree = tree_run(tree, 1)[1]
            steps += 1
        self.assertEqual(chain_told(chain, tree), (1, (0,)))
        costs = [tape_cost(chain.book, on_tape) for on_tape in tape_stands(chain, stand, 0)[:-1]]
        self.assertEqual(steps, sum(costs))

    def test_any_programs(self):
        chance = random.Random(35)
        for turn in range(12):
            many, rows = chance.choice((1, 2)), chance.choice((1, 2))
            program = []
            for row in range(rows):
                places = [chance.randrange(rows + 1), chance.randrange(rows + 1)]
                word = chance.choice(("up", "down"))
                program.append((word, chance.randrange(many)) + tuple(places[:1] if word == "up" else places))
            chain = Chain(program, many)
            stand = (chance.randrange(rows), tuple(chance.randrange(4) for k in range(many)))
            self.assert_goes(chain, stand, chain_image(chain, stand), 0)

    def test_an_end_is_a_value_and_an_image_none(self):
        chain = Chain(MOVE, 2)
        tree = chain_image(chain, (2, (0, 3)))
        self.assertIs(is_value(tree), False)
        word, end, steps = tree_run(tree)
        self.assertEqual((word, chain_told(chain, end)), ("value", (2, (0, 3))))
        self.assertIsNone(row_step(chain.rules, counter_image((2, (0, 3)))))


class Interface(unittest.TestCase):

    def test_arguments(self):
        for call, names in (
            (Chain, ["program", "many"]),
            (chain_image, ["chain", "stand"]),
            (chain_told, ["chain", "tree"]),
        ):
            self.assertEqual(list(inspect.signature(call).parameters), names)


if __name__ == "__main__":
    unittest.main()
