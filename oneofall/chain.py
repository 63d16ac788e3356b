"""Stage 9: counters made rows, these made tapes, and these made trees."""

from oneofall.makerows import counter_image, counter_told, make_rows
from oneofall.maketapes import make_tape, row_image, row_told
from oneofall.maketrees import Book, end_told, image_told, tape_image

SIGNS = "bei"


class Chain:

    def __init__(self, program, many):
        self.program = list(program)
        self.many = many
        self.rules = make_rows(program, many)
        self.top = max([len(program)] + [max(rule[0], rule[3]) for rule in self.rules])
        self.tape = make_tape(self.rules, SIGNS, self.top)
        self.book = Book(self.tape, SIGNS, tape_states(self.tape, self.top))


def tape_states(tape, top):
    # Made states have numbers without gaps, but that is the maker's own affair.
    states = list(range(top + 1))
    for rule in tape:
        states.extend([rule[0], rule[4]])
    return sorted(set(states))


def chain_image(chain, stand):
    return tape_image(chain.book, row_image(counter_image(stand)))


def chain_told(chain, tree):
    on_tape = image_told(chain.book, tree) or end_told(chain.book, tree)
    if on_tape is None:
        return None
    in_row = row_told(chain.top, on_tape)
    if in_row is None:
        return None
    return counter_told(len(chain.program), chain.many, in_row)
