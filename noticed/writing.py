"""Written: orders and keepers as texts."""

from noticed.checks import is_order, need_order
from noticed.errors import NoText, OrderError
from noticed.keepers import Keeper

DIGITS = "012345678"
WORDS_BY_LETTER = {"l": "less", "m": "more", "b": "beside"}


def written(order):
    need_order(order)
    many = order[0]
    pairs = [f" {less}<{more}" for less, more in order[1]]
    return f"{many}:" + "".join(pairs)


def number_at(text, place):
    return DIGITS.find(text[place:place + 1])


# Each number has one digit, so a pair takes four signs: a blank, a thing, <, a thing.
def numbers_in(text):
    pairs = [(number_at(text, start + 1), number_at(text, start + 3)) for start in range(2, len(text), 4)]
    return (number_at(text, 0), tuple(pairs))


def need_text(value):
    if not isinstance(value, str):
        raise NoText("this is no text")


def read(text):
    need_text(text)
    order = numbers_in(text)
    # only the digits were looked at, so the other signs are held against how the order is written
    if not is_order(order) or written(order) != text:
        raise NoText("this text writes no order")
    return order


def letter_for(pairs, newest, thing):
    if (newest, thing) in pairs:
        return "l"
    if (thing, newest) in pairs:
        return "m"
    return "b"


# Of two things just the later one was told against the other, so the order holds all that was told.
def letters_for(order, newest):
    return "".join([letter_for(order[1], newest, thing) for thing in range(newest)])


def keeper_text(keeper):
    order = keeper.order()
    return " ".join([letters_for(order, newest) for newest in range(1, order[0])])


def telling_in(letters):
    return tuple([WORDS_BY_LETTER.get(letter) for letter in letters])


def let_come(keeper, letters):
    try:
        keeper.come(telling_in(letters))
    except OrderError as refusal:
        raise NoText("this text writes no keeper") from refusal


def keeper_of(text):
    need_text(text)
    keeper = Keeper()
    # of the empty text there is one part, the empty one, but nothing that came
    if text == "":
        return keeper
    for letters in text.split(" "):
        let_come(keeper, letters)
    return keeper
