"""Stage 7: what states do with a sign, as trees, and what this costs.

A state's tree hands a pack the state's row and the table of all states. The row hands the sign one
deed for each sign, of which it picks one; this is handed the state's number, the table and both sides.
"""

from oneofall.codes import NO_THINGS, end_of, holder_cost, list_with, pack
from oneofall.names import handed, made_costs, made_of, put_in
from oneofall.tapes import BLANK
from oneofall.trees import joint

# l, s and r are what a pack holds, f is the table.
ROW_NAMES = ("l", "s", "r", "f")
# n is the number of the state, a pick.
DEED_NAMES = ("n", "f", "l", "r")
# y is the next state's tree, x the side that the head leaves; a and t are the first sign of the
# side to which it goes, and the others.
BARE_NAMES = ("y", "x")
FULL_NAMES = ("a", "t", "y", "x")


def row_term(letters):
    return handed("s", [deed_name(sign) for sign in letters] + list(DEED_NAMES))


def deed_name(sign):
    # The blank is no letter, and names are of letters alone.
    return "d" + sign if sign.isalpha() else "d"


def row_plan(letters):
    """A row in which the deeds and the state's number are still names."""
    return made_of(ROW_NAMES, row_term(letters))


def row_of(plan, number, deeds):
    puts = {"n": number}
    for sign in deeds:
        puts[deed_name(sign)] = deeds[sign]
    return put_in(plan, puts)


def row_cost(letters):
    """How many steps there are from an image until the sign picks."""
    return holder_cost(2) + holder_cost(3) + sum(made_costs(ROW_NAMES, row_term(letters)))


def end_term():
    return end_of("n", "l", "w", "r")


def end_deed(sign_tree):
    return put_in(made_of(DEED_NAMES, end_term()), {"w": sign_tree})


def end_cost():
    return sum(made_costs(DEED_NAMES, end_term()))


def side_term(move):
    # The list to which the head goes takes one of two ways, which both go on alike. g hands the
    # table the turns to the next state's entry, which is handed the table then.
    sides = ("l", "r") if move == "l" else ("r", "l")
    return handed(sides[0], ["bare", "full", joint(joint("g", "f"), "f"), sides[1]])


def image_term(move):
    # The state's tree is a value by then, so the image comes just when the pack is ready.
    grown = list_with("w", "x")
    if move == "l":
        return joint("y", pack("t", "a", grown))
    return joint("y", pack(grown, "a", "t"))


class Move:
    """The deeds of all rules with one move; sign_trees has the tree of each letter."""

    def __init__(self, move, sign_trees):
        term = image_term(move)
        bare = put_in(made_of(BARE_NAMES, term), {"a": sign_trees[BLANK], "t": NO_THINGS})
        full = made_of(FULL_NAMES, term)
        self.plan = made_of(DEED_NAMES, side_term(move))
        self.written = {}
        for sign in sign_trees:
            puts = {"w": sign_trees[sign]}
            self.written[sign] = {"bare": put_in(bare, puts), "full": put_in(full, puts)}
        # The one step is that of the list's own K.
        start = sum(made_costs(DEED_NAMES, side_term(move))) + 1
        self.bare_cost = start + sum(made_costs(BARE_NAMES, term))
        self.full_cost = start + holder_cost(2) + sum(made_costs(FULL_NAMES, term))

    def deed(self, sign, way):
        """The deed of a rule that writes the sign; way is what hands a table the turns to the next state."""
        puts = dict(self.written[sign])
        puts["g"] = way
        return put_in(self.plan, puts)
