"""Stage 7: the table of all states' rows as a tree, and the ways in it."""

from oneofall.codes import holder, holder_cost, pick, pick_cost
from oneofall.names import handed, made_costs, made_of, put_in

# Handed the table f, an entry is its state's tree, which holds the row e and the table for a pack v.
ENTRY_NAMES = ("f", "v")


def entry_term():
    return handed("v", ["e", "f"])


def entry_of(row):
    return put_in(made_of(ENTRY_NAMES, entry_term()), {"e": row})


def tree_of_row(row, table):
    """What the row's entry comes to, handed the table."""
    return holder([row, table])


def table_of(entries):
    # Halves of halves: in a flat table of many states each step would be long, and the tree deep.
    if len(entries) == 1:
        return entries[0]
    half = half_of(len(entries))
    return holder([table_of(entries[:half]), table_of(entries[half:])])


def half_of(many):
    return many // 2


def turns_to(k, many):
    """The halves, 0 or 1, in which the k-th of so many entries lies, the greatest first."""
    turns = []
    first = 0
    left = many
    while left > 1:
        half = half_of(left)
        turn = 0 if k < first + half else 1
        turns.append(turn)
        first = first + half * turn
        left = half if turn == 0 else left - half
    return turns


def way_to(k, many):
    """What hands a table the turns to an entry."""
    return holder([pick(turn, 2) for turn in turns_to(k, many)])


def way_cost(k, many):
    """In how many steps a way, handed the table, and its entry, handed the table too, come to a state's tree."""
    turns = turns_to(k, many)
    steps = [holder_cost(2) + pick_cost(turn, 2) for turn in turns]
    return holder_cost(len(turns)) + sum(steps) + made_costs(ENTRY_NAMES, entry_term())[0]
