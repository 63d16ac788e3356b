"""Books and stands for the tests, and images and ends by the document's words."""

from oneofall.codes import end_of, list_of, pack, pick
from oneofall.maketrees import Book, state_tree
from oneofall.trees import joint

LETTERS = "abcdefghijklmnopqrstuvwxyz"


def any_book(chance, states, signs, share=0.7):
    """A book with so many states and signs, and rules for about so great a share of them."""
    letters = "".join(chance.sample(LETTERS, signs))
    numbers = chance.sample(range(5001), states)
    rules = []
    for state in numbers:
        for sign in "_" + letters:
            if chance.random() < share:
                rules.append((state, sign, chance.choice("_" + letters), chance.choice("lr"), chance.choice(numbers)))
    chance.shuffle(rules)
    return Book(rules, letters, numbers)


def any_side(chance, book, most=40):
    return "".join(chance.choice("_" + book.signs) for k in range(chance.choice((0, 0, 1, 2, 3, most))))


def any_stand(chance, book):
    sign = chance.choice("_" + book.signs)
    return (chance.choice(book.states), any_side(chance, book), sign, any_side(chance, book))


def sign_by_words(book, sign):
    many = len(book.signs) + 1
    return pick(0, many) if sign == "_" else pick(1 + book.signs.index(sign), many)


def side_by_words(book, signs):
    return list_of([sign_by_words(book, sign) for sign in signs])


def image_by_words(book, stand):
    state, left, sign, right = stand
    sides = side_by_words(book, left[::-1]), side_by_words(book, right)
    return joint(state_tree(book, state), pack(sides[0], sign_by_words(book, sign), sides[1]))


def end_by_words(book, stand):
    state, left, sign, right = stand
    number = pick(book.states.index(state), len(book.states))
    return end_of(number, side_by_words(book, left[::-1]), sign_by_words(book, sign), side_by_words(book, right))
