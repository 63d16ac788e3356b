"""Stage 1: programs of counters with jumps, and their texts."""

from oneofall.errors import NoProgram
from oneofall.machines import stands_from

FIGURES = "0123456789"
MOST_FIGURES = 3
WORDS_IN_LINE = {"up": 3, "down": 4}


def counter_look(program, many):
    for at, row in enumerate(program):
        if not row_fits(row, many, len(program)):
            raise NoProgram(at)
    return True


def row_fits(row, many, stop):
    return row[1] < many and max(row[2:]) <= stop


def counter_step(program, stand):
    place = stand[0]
    counts = stand[1]
    if place >= len(program):
        return None
    row = program[place]
    counter = row[1]
    if row[0] == "up":
        return (row[2], counts_with(counts, counter, counts[counter] + 1))
    if counts[counter] == 0:
        return (row[3], counts)
    return (row[2], counts_with(counts, counter, counts[counter] - 1))


def counts_with(counts, counter, count):
    return counts[:counter] + (count,) + counts[counter + 1:]


def counter_run(program, stand, most=100):
    return stands_from(lambda here: counter_step(program, here), stand, most)


def counter_read(text):
    # Splitting a text without signs would tell one line, but it has none.
    if text == "":
        return []
    program = []
    for at, line in enumerate(text.split("\n")):
        row = row_of_line(line)
        if row is None:
            raise NoProgram(at)
        program.append(row)
    return program


def row_of_line(line):
    words = line.split(" ")
    if len(words) != WORDS_IN_LINE.get(words[0]):
        return None
    if not all([is_number(word) for word in words[1:]]):
        return None
    return tuple(words[:1] + [int(word) for word in words[1:]])


def is_number(word):
    if word == "" or len(word) > MOST_FIGURES:
        return False
    if word[0] == "0" and word != "0":
        return False
    # isdigit and int take figures of other scripts too, which are none here.
    return all([sign in FIGURES for sign in word])


def counter_show(program):
    return "\n".join([line_of_row(row) for row in program])


def line_of_row(row):
    return " ".join([str(part) for part in row])
