"""Stage 3: programs of counters made programs of rows."""

from oneofall.machines import Numbers


def counter_image(stand):
    return (stand[0], "b" + "".join(["i" * count + "e" for count in stand[1]]))


def counter_told(size, many, stand):
    # What is read is no more than a guess until its image is the very stand.
    parts = stand[1][1:].split("e")
    counts = tuple([len(part) for part in parts[:-1]])
    told = (stand[0], counts)
    if stand[0] > size or len(counts) != many or counter_image(told) != stand:
        return None
    return told


def make_rows(program, many):
    # Each lap eats the row once: first up to the counter of the program's row,
    # then, the deed done, to the end, where the state is the place to go to.
    numbers = Numbers(len(program) + 1)
    rules = []
    for place, row in enumerate(program):
        rules.extend(rules_of_row(numbers, place, row, many))
    firsts = first_counters(program)
    for target in firsts:
        rules.extend(rules_to_end(numbers, target, firsts[target], many))
    return rules


def rules_of_row(numbers, place, row, many):
    rules = []
    state = place
    sign = "b"
    for passed in range(row[1]):
        behind = numbers.number(("ahead", place, passed))
        rules.append((state, sign, sign, behind))
        rules.append((behind, "i", "i", behind))
        state = behind
        sign = "e"
    done = end_state(numbers, row[2], row[1], many)
    if row[0] == "up":
        rules.append((state, sign, sign + "i", done))
        return rules
    ask = numbers.number(("ask", place))
    rules.append((state, sign, sign, ask))
    rules.append((ask, "i", "", done))
    rules.append((ask, "e", "e", end_state(numbers, row[3], row[1] + 1, many)))
    return rules


def end_state(numbers, target, counter, many):
    if counter == many:
        return target
    return numbers.number(("end", target, counter))


def first_counters(program):
    """For each place that is gone to, the lowest counter at which a deed is done on the way there."""
    firsts = {}
    for row in program:
        firsts[row[2]] = min(firsts.get(row[2], row[1]), row[1])
        if row[0] == "down":
            firsts[row[3]] = min(firsts.get(row[3], row[1] + 1), row[1] + 1)
    return firsts


def rules_to_end(numbers, target, first, many):
    rules = []
    for counter in range(first, many):
        state = end_state(numbers, target, counter, many)
        rules.append((state, "i", "i", state))
        rules.append((state, "e", "e", end_state(numbers, target, counter + 1, many)))
    return rules
