"""What the document makes of names (picks, lists, packs, ends, texts, players), as nested pairs, word by word."""

from plaintrees import plain_out

LETTERS = "abcdefghijklmnopqrstuvwxyz"


def unlike_names(many):
    return [LETTERS[k // 26] + LETTERS[k % 26] for k in range(many)]


def plain_made(names, nest):
    for name in reversed(names):
        nest = plain_out(name, nest)[0]
    return nest


def plain_pick(k, many):
    names = unlike_names(many)
    return plain_made(names, names[k])


def plain_list(things):
    if not things:
        return plain_made(["n", "c"], "n")
    return plain_made(["n", "c"], (("c", things[0]), plain_list(things[1:])))


def plain_pack(one, two, three):
    return plain_made(["p"], ((("p", one), two), three))


def plain_end(one, two, three, four):
    return plain_made(["p"], (((("p", one), two), three), four))


def plain_text(nest):
    if nest == "S":
        return plain_made(["e"], ("e", plain_pick(0, 3)))
    if nest == "K":
        return plain_made(["e"], ("e", plain_pick(1, 3)))
    one, other = plain_text(nest[0]), plain_text(nest[1])
    return plain_made(["e"], ((("e", plain_pick(2, 3)), (one, "e")), (other, "e")))


def plain_player(one, other):
    within = plain_made(["p"], ((("p", one), other), (("S", "K"), "K")))
    return plain_made(["q"], ("q", within))
