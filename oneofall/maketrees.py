"""Stage 7: programs of tapes made trees."""

from oneofall.codes import end_of, held, list_of, pack, pick, pick_cost, picked, things_of
from oneofall.deeds import Move, end_cost, end_deed, row_cost, row_of, row_plan
from oneofall.machines import rule_table
from oneofall.statetables import entry_of, table_of, tree_of_row, way_cost, way_to
from oneofall.tapes import BLANK
from oneofall.trees import joint


class Book:

    def __init__(self, rules, signs, states):
        self.rules = list(rules)
        self.signs = signs
        self.states = list(states)
        # All that follows is made of these three once, as the trees of great books take their time.
        self.letters = BLANK + signs
        self.by_key = rule_table(rules)
        self.sign_trees = sign_trees_of(self.letters)
        self.moves = {"l": Move("l", self.sign_trees), "r": Move("r", self.sign_trees)}
        self.start_cost = row_cost(self.letters)
        rows = rows_of(self)
        table = table_of([entry_of(row) for row in rows])
        self.state_trees = [tree_of_row(row, table) for row in rows]


def sign_trees_of(letters):
    trees = {}
    for k, sign in enumerate(letters):
        trees[sign] = pick(k, len(letters))
    return trees


def rows_of(book):
    many = len(book.states)
    plan = row_plan(book.letters)
    ends = {}
    for sign in book.letters:
        ends[sign] = end_deed(book.sign_trees[sign])
    ways = {}
    for k, state in enumerate(book.states):
        ways[state] = way_to(k, many)
    rows = []
    for k, state in enumerate(book.states):
        rows.append(row_of(plan, pick(k, many), deeds_of(book, state, ends, ways)))
    return rows


def deeds_of(book, state, ends, ways):
    deeds = dict(ends)
    for sign in book.letters:
        rule = book.by_key.get((state, sign))
        if rule is not None:
            deeds[sign] = book.moves[rule[3]].deed(rule[2], ways[rule[4]])
    return deeds


def state_tree(book, state):
    return book.state_trees[book.states.index(state)]


def tape_image(book, stand):
    parts = parts_of(book, stand)
    return joint(state_tree(book, stand[0]), pack(parts[0], parts[1], parts[2]))


def tape_end(book, stand):
    parts = parts_of(book, stand)
    number = pick(book.states.index(stand[0]), len(book.states))
    return end_of(number, parts[0], parts[1], parts[2])


def parts_of(book, stand):
    """The trees of the left side, the sign and the right side."""
    left = list_of([book.sign_trees[sign] for sign in reversed(stand[1])])
    right = list_of([book.sign_trees[sign] for sign in stand[3]])
    return (left, book.sign_trees[stand[2]], right)


def tape_cost(book, stand):
    picking = book.start_cost + pick_cost(book.letters.index(stand[2]), len(book.letters))
    rule = book.by_key.get((stand[0], stand[2]))
    if rule is None:
        return picking + end_cost()
    move = book.moves[rule[3]]
    side = stand[1] if rule[3] == "l" else stand[3]
    moving = move.bare_cost if side == "" else move.full_cost
    return picking + moving + way_cost(book.states.index(rule[4]), len(book.states))


def image_told(book, tree):
    if isinstance(tree, str):
        return None
    for k, own in enumerate(book.state_trees):
        if own == tree[0]:
            return stand_told(book, k, held(tree[1], 3))
    return None


def end_told(book, tree):
    things = held(tree, 4)
    if things is None:
        return None
    return stand_told(book, picked(things[0], len(book.states)), things[1:])


def stand_told(book, number, parts):
    if number is None or parts is None:
        return None
    left = signs_told(book, parts[0])
    sign = picked(parts[1], len(book.letters))
    right = signs_told(book, parts[2])
    if left is None or sign is None or right is None:
        return None
    left.reverse()
    return (book.states[number], "".join(left), book.letters[sign], "".join(right))


def signs_told(book, tree):
    things = things_of(tree)
    if things is None:
        return None
    places = [picked(thing, len(book.letters)) for thing in things]
    if None in places:
        return None
    return [book.letters[place] for place in places]
