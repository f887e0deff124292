"""Customs written as texts, and read from them."""

from catchhall.customs import DEEPEST, boat, by_kid, claim_of, claims_of, is_boat, kids_of, knot, way_of, weights_of
from catchhall.errors import BadClaim, BadWay, BadWeights, NoText, TooMany, Unlike
from catchhall.ways import WEIGHTED

LETTERS = "abcdefghijklmnopqrstuvwxyz"
FIGURES = "0123456789"


def written(custom, names):
    refuse_names(custom, names)
    return text_of(custom, names)


def refuse_names(custom, names):
    if len(names) != len(claims_of(custom)):
        raise Unlike("not as many names as boats")
    for spot, name in enumerate(names):
        if not is_name(name) or name in names[:spot]:
            raise NoText("a name that is none, or is there twice")


def is_name(word):
    return 1 <= len(word) <= 12 and is_all_of(LETTERS, word)


def is_all_of(signs, word):
    return all([sign in signs for sign in word])


def text_of(custom, names):
    if is_boat(custom):
        name = names[0]
        claim = claim_of(custom)
        return f"{name}:{claim}"
    texts = [text_of(kid, own) for kid, own in zip(kids_of(custom), by_kid(custom, names))]
    if way_of(custom) in WEIGHTED:
        texts = [f"{weight} {text}" for weight, text in zip(weights_of(custom), texts)]
    way = way_of(custom)
    inside = ", ".join(texts)
    return f"{way}({inside})"


def number_in(word):
    # The length is looked at first: no long row of figures is ever reckoned with.
    if len(word) == 0 or len(word) > 13 or not is_all_of(FIGURES, word):
        raise NoText("no number of at most 13 figures")
    if word[0] == "0" and word != "0":
        raise NoText("a nought ahead")
    return int(word)


def read(text):
    reader = Reader(text)
    try:
        custom = reader.next_custom(1)
    except (BadWay, BadWeights, BadClaim, TooMany):
        raise NoText("a boat or a knot that is refused") from None
    if not reader.is_done():
        raise NoText("something stands behind the end")
    refuse_names(custom, reader.called)
    return (custom, reader.called)


# Goes through a text sign by sign, and keeps the names that it comes by.
class Reader:
    def __init__(self, text):
        self.text = text
        self.spot = 0
        self.called = []

    def is_done(self):
        return self.spot == len(self.text)

    def takes(self, signs):
        if not self.text.startswith(signs, self.spot):
            return False
        self.spot += len(signs)
        return True

    def needs(self, signs):
        if not self.takes(signs):
            raise NoText("another sign is due")

    def run_of(self, signs):
        start = self.spot
        while not self.is_done() and self.text[self.spot] in signs:
            self.spot += 1
        return self.text[start:self.spot]

    def next_number(self):
        return number_in(self.run_of(FIGURES))

    def next_custom(self, deep):
        # Refused here already, so that no text leads into a depth of its own choice.
        if deep > DEEPEST:
            raise NoText("too deep")
        word = self.run_of(LETTERS)
        if self.takes("("):
            return self.next_knot(word, deep)
        self.needs(":")
        self.called.append(word)
        return boat(self.next_number())

    def next_knot(self, way, deep):
        weights = []
        kids = []
        more = True
        while more:
            if way in WEIGHTED:
                weights.append(self.next_number())
                self.needs(" ")
            kids.append(self.next_custom(deep + 1))
            more = self.takes(", ")
        self.needs(")")
        return knot(way, weights, kids)
