"""Days written as rows, and the answers to them."""

from catchhall.customs import claims_of
from catchhall.errors import BadCatch, BadClaim, NoBoat, NoText
from catchhall.ledger import Ledger
from catchhall.written import number_in, read

HEAD = "custom "
REFUSED = "refused"


def answer(text):
    rows = text.split("\n")
    try:
        start = custom_in(rows[0])
    except NoText:
        return REFUSED
    ledger = Ledger(start[0], start[1])
    told = []
    for row in rows[1:]:
        told.extend(rows_told(ledger, row))
    return "\n".join(told)


# The custom and the names that a first row tells.
def custom_in(row):
    if not row.startswith(HEAD):
        raise NoText("the first row tells no custom")
    return read(row[len(HEAD):])


def rows_told(ledger, row):
    try:
        facts = done(ledger, row)
    except (NoText, NoBoat, BadClaim, BadCatch):
        return [REFUSED]
    return [row_of(fact) for fact in facts]


def done(ledger, row):
    # Parted at each single blank: where there are two, an empty word stands between them, which is no word of a deed.
    words = row.split(" ")
    if len(words) == 3 and words[0] == "ask":
        return ledger.ask(words[1], number_in(words[2]))
    if len(words) == 2 and words[0] == "land":
        return ledger.land(number_in(words[1]))
    raise NoText("the row is no deed")


def row_of(fact):
    return " ".join([str(word) for word in fact])


def gone_through(text, told):
    start = custom_in(text.split("\n")[0])
    names = start[1]
    claims = claims_of(start[0])
    got = [0] * len(names)
    kept = 0
    for row in told.split("\n"):
        words = row.split(" ")
        if words[0] == "ask":
            claims[names.index(words[1])] = number_in(words[2])
        if words[0] == "gets":
            claims[names.index(words[1])] -= number_in(words[2])
            got[names.index(words[1])] += number_in(words[2])
        if words[0] == "kept":
            kept += number_in(words[1])
    return (claims, got, kept)
