import random
import re
import unittest

from catchhall import written as written_file
from catchhall.customs import boat, knot
from catchhall.errors import NoText, Unlike
from catchhall.written import number_in, read, written
from helping import WAYS, WEIGHTED, Case, boats_in, drawn_custom, drawn_names

SOME = knot("even", [2, 1], [boat(5), knot("row", [], [boat(3), boat(0)])])
TEXT = "even(2 ann:5, 1 row(bea:3, cod:0))"
SIGNS = [chr(code) for code in range(32, 127) if chr(code) != "%"] + ["\n"]
ITEM = r"[a-z]+:[0-9]+|#[0-9]+#"


class Bad(Exception):
    pass


def second_reading(text):
    """The custom and names that a text writes, or None: the innermost knots are read first, by patterns."""
    if "#" in text:
        return None
    done = []
    names = re.findall(r"([a-z]+):", text)
    try:
        while "(" in text:
            found = re.search(r"([a-z]+)\(([^()]*)\)", text)
            if found is None:
                return None
            done.append(knot_of(found.group(1), found.group(2), done))
            text = text[:found.start()] + f"#{len(done) - 1}#" + text[found.end():]
        custom = item_of(text, done)
    except Bad:
        return None
    good = len(set(names)) == len(names) <= 12 and all(len(name) <= 12 for name in names)
    return (custom, names) if good and deep(custom) <= 8 else None


def item_of(text, done):
    if re.fullmatch(ITEM, text) is None:
        raise Bad
    if text.startswith("#"):
        return done[int(text.strip("#"))]
    return ("boat", small(text.partition(":")[2], 0, 10 ** 9))


def small(text, least, most):
    if re.fullmatch("0|[1-9][0-9]{0,12}", text) is None or not least <= int(text) <= most:
        raise Bad
    return int(text)


def knot_of(way, inside, done):
    items = inside.split(", ")
    weights = []
    if way not in WAYS:
        raise Bad
    if way in WEIGHTED:
        weights = [small(item.partition(" ")[0], 1, 10 ** 6) for item in items]
        items = [item.partition(" ")[2] for item in items]
    return (way, tuple(weights), tuple(item_of(item, done) for item in items))


def deep(custom):
    return 1 if custom[0] == "boat" else 1 + max(deep(kid) for kid in custom[2])


def drawn_text(chance):
    custom = drawn_custom(chance, deep=chance.choice((1, 2, 3, 8)), most=chance.choice((9, 10 ** 9)))
    return written(custom, drawn_names(chance, boats_in(custom)))


class NumberIn(Case):
    def test_numbers(self):
        for number in (0, 1, 7, 10, 12, 100, 4711, 10 ** 9, 10 ** 12 - 1, 10 ** 12, 10 ** 12 + 1, 10 ** 13 - 1):
            self.assertEqual(number_in(str(number)), number)
            self.assertIs(type(number_in(str(number))), int)

    def test_fourteen_figures_and_more(self):
        for word in ("1" * 14, "9" * 14, str(10 ** 13), "1" * 60, "9" * 5000, "1" * 20000):
            self.assert_refused(NoText, number_in, word)

    def test_a_nought_ahead(self):
        for word in ("00", "01", "007", "000", "0" * 13, "0" * 14, "0123456789012"):
            self.assert_refused(NoText, number_in, word)

    def test_words_that_are_none(self):
        some = ["", " ", "-1", "+1", "-0", "1 ", " 1", "1\n", "\n1", "\n", "1.0", "1e3", "1_000", "0x1", "a", "1a", "a1",
                "1 2", "1,000", "one", "--1", "()", "1-", "+", "-"]
        for word in some + [sign for sign in SIGNS if not sign.isdigit()]:
            self.assert_refused(NoText, number_in, word)
            for ahead, behind in (("1", ""), ("", "1"), ("1", "1")):
                if word != "":
                    self.assert_refused(NoText, number_in, ahead + word + behind)


class Written(Case):
    def test_by_hand(self):
        self.assertEqual(written(SOME, ["ann", "bea", "cod"]), TEXT)
        self.assertEqual(written(SOME, ("ann", "bea", "cod")), TEXT)
        self.assertEqual(written(boat(0), ["a"]), "a:0")
        self.assertEqual(written(boat(10 ** 9), ["abcdefghijkl"]), "abcdefghijkl:1000000000")

    def test_each_way(self):
        for way in WAYS:
            custom = knot(way, [10 ** 6, 1] if way in WEIGHTED else [], [boat(10), boat(0)])
            asked = way + ("(1000000 x:10, 1 y:0)" if way in WEIGHTED else "(x:10, y:0)")
            self.assertEqual(written(custom, ["x", "y"]), asked)
            self.assertEqual(read(asked), (custom, ["x", "y"]))

    def test_names_that_are_words_of_ways_or_deeds(self):
        names = ["row", "back", "even", "lack", "part", "half", "boat", "ask", "land", "gets", "kept", "custom"]
        custom = knot("lack", list(range(1, 13)), [boat(k) for k in range(12)])
        text = written(custom, names)
        self.assertTrue(text.startswith("lack(1 row:0, 2 back:1, 3 even:2, 4 lack:3,"))
        self.assertEqual(read(text), (custom, names))
        for name in names:
            self.assertEqual(read(name + ":5"), (boat(5), [name]))

    def test_too_many_or_too_few_names(self):
        for names in ([], ["ann"], ["ann", "bea"], ["ann", "bea", "cod", "dan"]):
            self.assert_refused(Unlike, written, SOME, names)
            self.assert_refused(Unlike, written, SOME, tuple(names))

    def test_unlike_ahead_of_no_text(self):
        for names in ([""], ["", ""], ["ann", "ann"], ["A", "b", "c", "d"], ["ann"] * 4, [""] * 12):
            self.assert_refused(Unlike, written, SOME, names)

    def test_names_that_are_none(self):
        bad = ["", "abcdefghijklm", "a" * 100, "Ann", "aNn", "ANN", "a1", "1", "a b", " a", "a ", "a:", "a\n", "a_b", "-"]
        for name in bad + [sign for sign in SIGNS if not "a" <= sign <= "z"]:
            self.assert_refused(NoText, written, boat(5), [name])
            for spot in range(3):
                names = ["ann", "bea", "cod"]
                names[spot] = name
                self.assert_refused(NoText, written, SOME, names)

    def test_names_twice(self):
        for names in (["ann", "ann", "cod"], ["ann", "bea", "ann"], ["ann", "bea", "bea"], ["a", "a", "a"]):
            self.assert_refused(NoText, written, SOME, names)
            self.assert_refused(NoText, written, SOME, tuple(names))

    def test_what_is_written_is_read(self):
        chance = random.Random(111)
        for _ in range(200):
            custom = drawn_custom(chance, most=chance.choice((9, 10 ** 9)))
            names = drawn_names(chance, boats_in(custom))
            before = list(names)
            text = written(custom, names)
            self.assertEqual(names, before)
            answer = read(text)
            self.assertIs(type(answer), tuple)
            self.assertIs(type(answer[1]), list)
            self.assertEqual(answer, (custom, names))
            self.assertEqual(second_reading(text), (custom, names))

    def test_the_told_names_are_the_askers_own(self):
        names = read(TEXT)[1]
        names.append("more")
        names[0] = "other"
        self.assertEqual(read(TEXT), (SOME, ["ann", "bea", "cod"]))


class Read(Case):
    def assert_no_text(self, *texts):
        for text in texts:
            self.assertIsNone(second_reading(text), text)
            self.assert_refused(NoText, read, text)

    def assert_as_second_reading(self, text):
        asked = second_reading(text)
        if asked is None:
            self.assert_refused(NoText, read, text)
        else:
            self.assertEqual(read(text), asked)
            self.assertEqual(written(asked[0], asked[1]), text)
        return asked is not None

    def test_by_hand(self):
        self.assertEqual(read(TEXT), (SOME, ["ann", "bea", "cod"]))
        self.assertEqual(read("ann:5"), (boat(5), ["ann"]))
        self.assertEqual(read("half(a:0)"), (knot("half", [], [boat(0)]), ["a"]))

    def test_no_custom(self):
        self.assert_no_text("", " ", "\n", "ann", "ann:", ":5", ":", "5", "ann5", "ann:5:5", "ann :5", "ann: 5", "(", ")")
        self.assert_no_text("()", "row", "row()", "row( )", "row(", "row)", "(a:1)", "row(a:1", "rowa:1)", "row a:1")
        self.assert_no_text("boat(5)", "boat(a:5)", "rows(a:1)", "Row(a:1)", "row (a:1)", "evn(1 a:1)", "xx(1 a:1)")

    def test_blanks_too_many_or_too_few(self):
        self.assert_no_text("row(a:1,b:1)", "row(a:1,  b:1)", "row(a:1 , b:1)", "row( a:1)", "row(a:1 )", " a:1", "a:1 ")
        self.assert_no_text("even(1a:1)", "even(1  a:1)", "even( 1 a:1)", "even(1 a:1,1 b:1)", "row(a:1\n, b:1)")
        self.assert_no_text("a:1\n", "\na:1", "row(a:1,\nb:1)", "row(a:1, b:1)\n", "row(a:1, )", "row(, a:1)", "row(a:1,)")

    def test_something_behind_the_end(self):
        self.assert_no_text("a:1)", "a:1, b:1", "row(a:1))", "row(a:1)row(b:1)", "row(a:1) ", "row(a:1), b:1", "a:1a", TEXT + ")")

    def test_names(self):
        self.assert_no_text("row(a:1, a:2)", "row(a:1, b:1, row(c:1, a:1))", "abcdefghijklm:1", "Ann:1", "a1:1", "a-b:1")
        self.assertEqual(read("abcdefghijkl:1"), (boat(1), ["abcdefghijkl"]))

    def test_numbers(self):
        self.assert_no_text("a:01", "a:00", "a:-1", "a:+1", "a:1000000001", "a:10000000000000", "a:" + "1" * 5000, "a:1.0")
        self.assert_no_text("even(01 a:1)", "even(0 a:1)", "even(1000001 a:1)", "even(-1 a:1)", "lack(0 a:1)", "lack( a:1)")
        self.assertEqual(read("a:1000000000"), (boat(10 ** 9), ["a"]))
        self.assertEqual(read("lack(1000000 a:1)"), (knot("lack", [10 ** 6], [boat(1)]), ["a"]))

    def test_weights_where_none_are_due_and_none_where_they_are(self):
        for way in WAYS:
            if way in WEIGHTED:
                self.assert_no_text(way + "(a:1)", way + "(1 a:1, b:1)", way + "(a:1, 1 b:1)", way + "(1 1 a:1)")
            else:
                self.assert_no_text(way + "(1 a:1)", way + "(1 a:1, b:1)", way + "(a:1, 1 b:1)")

    def test_twelve_and_thirteen_boats(self):
        names = ["a", "b", "c", "d", "e", "f", "g", "h", "i", "j", "k", "l", "m"]
        twelve = ", ".join(name + ":1" for name in names[:12])
        self.assertEqual(read("row(" + twelve + ")"), (knot("row", [], [boat(1)] * 12), names[:12]))
        self.assert_no_text("row(" + twelve + ", m:1)", "row(row(" + twelve + "), m:1)")

    def test_eight_and_nine_deep(self):
        custom = boat(1)
        for _ in range(7):
            custom = knot("row", [], [custom])
        self.assertEqual(read("row(" * 7 + "a:1" + ")" * 7), (custom, ["a"]))
        self.assert_no_text("row(" * 8 + "a:1" + ")" * 8)
        self.assertEqual(read("row(b:1, " + "row(" * 6 + "a:1" + ")" * 7)[1], ["b", "a"])
        self.assert_no_text("row(b:1, " + "row(" * 7 + "a:1" + ")" * 8)

    def test_long_texts(self):
        for text in ("row(" * 5000, "row(" * 2000 + "a:1" + ")" * 2000, "a" * 20000, "1" * 20000, "(" * 20000,
                     ", " * 10000, "even(1 " * 2800, "row(" + "a:1, " * 3999 + "a:1)", "a:" + "0" * 19998, "\n" * 20000):
            self.assert_refused(NoText, read, text)

    def test_cut_texts(self):
        chance = random.Random(112)
        for text in [TEXT] + [drawn_text(chance) for _ in range(20)]:
            for end in range(len(text)):
                self.assert_as_second_reading(text[:end])
                self.assert_as_second_reading(text[end:])

    def test_each_sign_more_fewer_or_another_one(self):
        for spot in range(len(TEXT) + 1):
            self.assert_as_second_reading(TEXT[:spot] + TEXT[spot + 1:])
            for sign in SIGNS:
                self.assert_as_second_reading(TEXT[:spot] + sign + TEXT[spot:])
                self.assert_as_second_reading(TEXT[:spot] + sign + TEXT[spot + 1:])

    def test_drawn_changes(self):
        chance = random.Random(113)
        near = "abrowevnlckpthf:(), 0123456789"
        good = 0
        for _ in range(3000):
            text = drawn_text(chance)
            for _ in range(chance.choice((1, 1, 2, 3))):
                spot = chance.randrange(len(text) + 1)
                sign = chance.choice(near) if chance.random() < 0.9 else chance.choice(SIGNS)
                cut = spot + chance.choice((0, 0, 1, 1, 1, 2))
                text = text[:spot] + (sign if chance.random() < 0.7 else "") + text[cut:]
            good += self.assert_as_second_reading(text)
        self.assertGreater(good, 200)


class Interface(Case):
    def test_names_and_arguments(self):
        self.assert_arguments(written_file, {"written": ["custom", "names"], "read": ["text"], "number_in": ["word"]})


if __name__ == "__main__":
    unittest.main()
