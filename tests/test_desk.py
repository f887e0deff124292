import random
import unittest

from catchhall import desk
from catchhall.customs import boat, claims_of, knot
from catchhall.desk import answer, gone_through
from catchhall.errors import CatchError
from catchhall.ledger import Ledger
from catchhall.written import number_in, written
from helping import Book, Case, boats_in, claimed, claims_in, drawn_custom, drawn_names

SOME = knot("even", [2, 1], [boat(5), knot("row", [], [boat(3), boat(0)])])
FIRST = "custom even(2 ann:5, 1 row(bea:3, cod:0))"
BAD_ROWS = (
    "", " ", "  ", "ask", "land", "ask ann", "ask 5", "land ann", "ask ann 5 5", "land 5 5", "ask ann five", "land five",
    "ask  ann 5", "ask ann  5", " ask ann 5", "ask ann 5 ", "land  5", " land 5", "land 5 ", "ask ann 05", "land 05",
    "land 00", "ask ann -1", "land -1", "ask ann +1", "land +1", "Ask ann 5", "ASK ann 5", "Land 5", "LAND 5", "ask Ann 5",
    "ask ANN 5", "ask dan 5", "ask ann 1000000001", "land 1000000000001", "land 10000000000000", "ask ann 10000000000000",
    "gets ann 1", "kept 1", "refused", "custom ann:5", FIRST, "ask ann:5", "ask ann,5", "askann 5", "land5", "land 1.0",
    "ask  5", "land ", "ask ", "ask ann ", "catch 5", "5", "ann 5", "land " + "1" * 5000,
)
BAD_FIRST_ROWS = (
    "", " ", "custom", "custom ", "custom  ann:5", " custom ann:5", "Custom ann:5", "CUSTOM ann:5", "customann:5", "ann:5",
    "custom ann:5 ", "custom ann", "custom ann:05", "custom ann:1000000001", "custom row()", "custom row(a:1, a:1)",
    "custom row(a:1,b:1)", "custom even(a:1)", "custom row(1 a:1)", "custom " + "row(" * 8 + "a:1" + ")" * 8,
    "land 5", "ask ann 5", "refused", "custom: ann:5", "custom custom ann:5", "custom abcdefghijklm:1", "custom\tann:5",
)


def words_of(facts):
    return [" ".join(str(word) for word in fact) for fact in facts]


def second_answer(custom, names, rows):
    """By the words of point 23, with a second ledger: the answer's rows, and that ledger."""
    book = Book(custom, names)
    told = []
    for row in rows:
        facts = None
        if row.count(" ") == 2 and row.startswith("ask "):
            name, number = row.split(" ")[1:]
            if name in names and number.isdigit() and str(int(number)) == number and int(number) <= 10 ** 9:
                facts = book.ask(name, int(number))
        if row.count(" ") == 1 and row.startswith("land "):
            number = row.split(" ")[1]
            if number.isdigit() and str(int(number)) == number and int(number) <= 10 ** 12:
                facts = book.land(int(number))
        told += ["refused"] if facts is None else words_of(facts)
    return told, book


def drawn_rows(chance, names, whole):
    rows = []
    for _ in range(chance.randrange(0, 14)):
        kind = chance.randrange(10)
        if kind < 4:
            rows.append(f"ask {chance.choice(names)} {chance.choice((0, 1, chance.randrange(40), 10 ** 9))}")
        elif kind < 8:
            rows.append(f"land {chance.choice((0, 1, chance.randrange(whole + 2), whole, 10 ** 12))}")
        else:
            bad = chance.choice([row for row in BAD_ROWS if len(row) < 100])
            rows.append(bad.replace("ann", chance.choice(names)))
    return rows


class ByHand(Case):
    def assert_answer(self, rows, told, first=FIRST):
        self.assertEqual(answer("\n".join([first] + rows)), "\n".join(told))

    def test_a_good_first_row_alone(self):
        self.assertEqual(answer(FIRST), "")
        self.assertEqual(answer("custom a:0"), "")
        self.assertEqual(answer("custom custom:5"), "")

    def test_deeds(self):
        self.assert_answer(["land 3"], ["land 3", "gets ann 2", "gets bea 1"])
        self.assert_answer(["ask cod 7"], ["ask cod 7"])
        self.assert_answer(["land 0"], ["land 0"])
        self.assert_answer(["land 1000000000000"], ["land 1000000000000", "gets ann 5", "gets bea 3", "kept 999999999992"])
        self.assert_answer(["ask ann 1000000000"], ["ask ann 1000000000"])

    def test_deeds_that_follow_on_one_another(self):
        self.assert_answer(
            ["land 3", "ask cod 2", "land 6", "", "ask dan 4", "ask ann 0", "land 4", "land 1"],
            ["land 3", "gets ann 2", "gets bea 1", "ask cod 2", "land 6", "gets ann 3", "gets bea 2", "gets cod 1",
             "refused", "refused", "ask ann 0", "land 4", "gets cod 1", "kept 3", "land 1", "kept 1"],
        )

    def test_rows_that_are_no_deeds_and_deeds_that_are_refused(self):
        for row in BAD_ROWS:
            self.assert_answer([row], ["refused"])
            self.assert_answer(["land 3", row, "ask cod 1", row, "land 1"], [
                "land 3", "gets ann 2", "gets bea 1", "refused", "ask cod 1", "refused", "land 1", "gets ann 1",
            ])

    def test_a_line_end_at_the_end_begins_an_empty_row(self):
        self.assertEqual(answer(FIRST + "\n"), "refused")
        self.assertEqual(answer(FIRST + "\n\n\n"), "refused\nrefused\nrefused")
        self.assertEqual(answer(FIRST + "\nland 0\n"), "land 0\nrefused")

    def test_first_rows_that_are_not_as_told(self):
        for row in BAD_FIRST_ROWS:
            for rest in ("", "\n", "\nland 5", "\nland 5\nask ann 5", "\n" + FIRST, "\n" + FIRST + "\nland 5"):
                self.assertEqual(answer(row + rest), "refused")

    def test_names_that_are_words_of_deeds(self):
        self.assert_answer(
            ["ask land 2", "ask ask 1", "land 3", "ask kept 5", "land 4"],
            ["ask land 2", "ask ask 1", "land 3", "gets ask 1", "gets land 2", "ask kept 5", "land 4", "gets kept 4"],
            "custom row(ask:0, land:0, kept:0)",
        )


class Answer(Case):
    def test_drawn_days(self):
        chance = random.Random(131)
        for _ in range(250):
            custom = drawn_custom(chance, most=chance.choice((4, 40, 10 ** 9)))
            names = drawn_names(chance, boats_in(custom))
            rows = drawn_rows(chance, names, claimed(custom))
            text = "\n".join(["custom " + written(custom, names)] + rows)
            told, book = second_answer(custom, names, rows)
            self.assertEqual(answer(text), "\n".join(told))
            self.assertEqual(answer(text), answer(text))
            self.assertEqual(gone_through(text, answer(text)), (claims_in(book.custom), book.got, book.kept))

    def test_long_days(self):
        rows = ["land 1"] * 2800
        text = "\n".join(["custom part(ann:2000, bea:300, cod:7)"] + rows)
        self.assertLessEqual(len(text), 20000)
        claims, got, kept = gone_through(text, answer(text))
        self.assertEqual((claims, got, kept), ([0, 0, 0], [2000, 300, 7], 2800 - 2307))

    def test_texts_of_any_signs(self):
        chance = random.Random(132)
        signs = "aklnds 05\n:(),~!"
        for _ in range(1500):
            text = "".join(chance.choice(signs) for _ in range(chance.randrange(30)))
            self.assertEqual(answer(text), "refused")
            rows = text.split("\n")
            told, _ = second_answer(SOME, ["ann", "bea", "cod"], rows)
            self.assertEqual(answer(FIRST + "\n" + text), "\n".join(told))


class GoneThrough(Case):
    def test_by_hand(self):
        text = FIRST + "\nland 3\nask cod 2\nland x\nland 60"
        told = answer(text)
        self.assertEqual(gone_through(text, told), ([0, 0, 0], [5, 3, 2], 53))
        self.assertIs(type(gone_through(text, told)), tuple)
        self.assertEqual([type(each) for each in gone_through(text, told)], [list, list, int])

    def test_no_deeds(self):
        self.assertEqual(gone_through(FIRST, ""), ([5, 3, 0], [0, 0, 0], 0))
        self.assertEqual(gone_through(FIRST + "\n\nhey", "refused\nrefused"), ([5, 3, 0], [0, 0, 0], 0))

    def test_by_the_answers_rows_alone(self):
        told = answer(FIRST + "\nland 3\nask cod 9")
        self.assertEqual(gone_through(FIRST, told), ([3, 2, 9], [2, 1, 0], 0))
        self.assertEqual(gone_through(FIRST + "\nland 8\nland 8", told), ([3, 2, 9], [2, 1, 0], 0))

    def test_what_the_ledger_tells(self):
        chance = random.Random(133)
        for _ in range(80):
            custom = drawn_custom(chance, most=chance.choice((4, 40)))
            names = drawn_names(chance, boats_in(custom))
            rows = drawn_rows(chance, names, claimed(custom))
            text = "\n".join(["custom " + written(custom, names)] + rows)
            some = Ledger(custom, names)
            for row in rows:
                try:
                    if row.startswith("ask ") and row.count(" ") == 2:
                        some.ask(row.split(" ")[1], number_in(row.split(" ")[2]))
                    if row.startswith("land ") and row.count(" ") == 1:
                        some.land(number_in(row.split(" ")[1]))
                except CatchError:
                    pass
            self.assertEqual(gone_through(text, answer(text)), (claims_of(some.custom()), some.got(), some.kept()))
            told = [row for row in answer(text).split("\n") if row not in ("", "refused")]
            self.assertEqual(told, words_of(some.tape()))

    def test_what_is_told_is_the_askers_own(self):
        text = FIRST + "\nland 3"
        told = gone_through(text, answer(text))
        told[0][0] = 99
        told[1].append(7)
        self.assertEqual(gone_through(text, answer(text)), ([3, 2, 0], [2, 1, 0], 0))


class Interface(Case):
    def test_names_and_arguments(self):
        self.assert_arguments(desk, {"answer": ["text"], "gone_through": ["text", "told"]})


if __name__ == "__main__":
    unittest.main()
