import random
import unittest

from catchhall import ledger
from catchhall.customs import boat, claims_of, knot
from catchhall.errors import BadCatch, BadClaim, NoBoat, NoText, Unlike
from catchhall.ledger import Ledger
from helping import Book, Case, boats_in, claimed, drawn_custom, drawn_names

SOME = knot("even", [2, 1], [boat(5), knot("row", [], [boat(3), boat(0)])])
NAMES = ["ann", "bea", "cod"]


def seen(some):
    return (some.custom(), some.names(), some.got(), some.kept(), some.tape())


class LedgerCase(Case):
    def assert_same(self, book, some):
        self.assertEqual(seen(some), (book.custom, book.names, book.got, book.kept, book.tape))
        self.assertEqual([type(each) for each in seen(some)], [tuple, list, list, int, list])


class Made(LedgerCase):
    def test_at_first(self):
        for kind in (list, tuple):
            self.assertEqual(seen(Ledger(SOME, kind(NAMES))), (SOME, NAMES, [0, 0, 0], 0, []))
        self.assertEqual(seen(Ledger(boat(0), ["land"])), (boat(0), ["land"], [0], 0, []))

    def test_refused_as_written_tells(self):
        for names in ([], ["ann"], ["ann", "bea"], ["a", "b", "c", "d"], [""], ["A"] * 4):
            self.assert_refused(Unlike, Ledger, SOME, names)
            self.assert_refused(Unlike, Ledger, SOME, tuple(names))
        for names in (["", "b", "c"], ["a", "b", "a"], ["a", "b", "abcdefghijklm"], ["a", "B", "c"], ["a", "b", "c1"],
                      ["a b", "b", "c"], ["a", "b", "c "], ["a", "a", "a"]):
            self.assert_refused(NoText, Ledger, SOME, names)
            self.assert_refused(NoText, Ledger, SOME, tuple(names))


class ByHand(LedgerCase):
    def test_ask(self):
        some = Ledger(SOME, NAMES)
        self.assertEqual(some.ask("cod", 7), [("ask", "cod", 7)])
        self.assertEqual(claims_of(some.custom()), [5, 3, 7])
        self.assertEqual(some.ask("ann", 0), [("ask", "ann", 0)])
        self.assertEqual(some.ask("bea", 10 ** 9), [("ask", "bea", 10 ** 9)])
        self.assertEqual(some.custom(), knot("even", [2, 1], [boat(0), knot("row", [], [boat(10 ** 9), boat(7)])]))
        self.assertEqual((some.got(), some.kept()), ([0, 0, 0], 0))
        self.assertEqual(some.tape(), [("ask", "cod", 7), ("ask", "ann", 0), ("ask", "bea", 10 ** 9)])

    def test_land_below_at_and_above_all_claims(self):
        some = Ledger(SOME, NAMES)
        self.assertEqual(some.land(3), [("land", 3), ("gets", "ann", 2), ("gets", "bea", 1)])
        self.assertEqual((claims_of(some.custom()), some.got(), some.kept()), ([3, 2, 0], [2, 1, 0], 0))
        self.assertEqual(some.land(5), [("land", 5), ("gets", "ann", 3), ("gets", "bea", 2)])
        self.assertEqual((claims_of(some.custom()), some.got(), some.kept()), ([0, 0, 0], [5, 3, 0], 0))
        self.assertEqual(some.land(4), [("land", 4), ("kept", 4)])
        some.ask("cod", 2)
        self.assertEqual(some.land(10 ** 12), [("land", 10 ** 12), ("gets", "cod", 2), ("kept", 10 ** 12 - 2)])
        self.assertEqual((claims_of(some.custom()), some.got(), some.kept()), ([0, 0, 0], [5, 3, 2], 10 ** 12 + 2))
        self.assertEqual(some.land(0), [("land", 0)])
        self.assertEqual(len(some.tape()), 3 + 3 + 2 + 1 + 3 + 1)

    def test_names_that_are_words_of_deeds(self):
        some = Ledger(knot("row", [], [boat(1), boat(2)]), ["land", "kept"])
        self.assertEqual(some.ask("kept", 1), [("ask", "kept", 1)])
        self.assertEqual(some.land(3), [("land", 3), ("gets", "land", 1), ("gets", "kept", 1), ("kept", 1)])


class Refused(LedgerCase):
    def assert_nothing_changed(self, some, refusal, asked, *given):
        before = seen(some)
        self.assert_refused(refusal, asked, *given)
        self.assertEqual(seen(some), before)

    def test_ask(self):
        some = Ledger(SOME, NAMES)
        some.land(3)
        for name in ("dan", "", "Ann", "ann ", " ann", "an", "annn", "a", "cod\n", "ask"):
            for claim in (0, 5, -1, 10 ** 9 + 1):
                self.assert_nothing_changed(some, NoBoat, some.ask, name, claim)
        for name in NAMES:
            for claim in (-1, -10 ** 9, 10 ** 9 + 1, 10 ** 12, 10 ** 30):
                self.assert_nothing_changed(some, BadClaim, some.ask, name, claim)

    def test_land(self):
        some = Ledger(SOME, NAMES)
        some.land(1)
        for catch in (-1, -5, -10 ** 30, 10 ** 12 + 1, 10 ** 13, 10 ** 30):
            self.assert_nothing_changed(some, BadCatch, some.land, catch)


class Days(LedgerCase):
    def test_drawn_deeds(self):
        chance = random.Random(121)
        for _ in range(60):
            custom = drawn_custom(chance, most=chance.choice((4, 40, 10 ** 9)))
            names = drawn_names(chance, boats_in(custom))
            some, book = Ledger(custom, names), Book(custom, names)
            landed = 0
            for _ in range(chance.randrange(1, 12)):
                if chance.random() < 0.5:
                    deed = (chance.choice(names), chance.choice((0, 1, chance.randrange(30), 10 ** 9)))
                    self.assertEqual(some.ask(deed[0], deed[1]), book.ask(deed[0], deed[1]))
                else:
                    whole = claimed(some.custom())
                    catch = chance.choice((0, 1, whole // 2, whole, whole + 1, chance.randrange(whole + 2), 10 ** 12))
                    self.assertEqual(some.land(catch), book.land(catch))
                    landed += catch
                self.assert_same(book, some)
                self.assertEqual(sum(some.got()) + some.kept(), landed)

    def test_two_ledgers_stand_alone(self):
        one, two = Ledger(SOME, NAMES), Ledger(SOME, NAMES)
        one.land(100)
        one.ask("cod", 9)
        self.assertEqual(seen(two), (SOME, NAMES, [0, 0, 0], 0, []))


class OwnLists(LedgerCase):
    def test_names_handed_in_are_not_kept(self):
        names = list(NAMES)
        some = Ledger(SOME, names)
        names[0] = "zed"
        names.append("more")
        self.assertEqual(some.names(), NAMES)
        self.assertEqual(some.land(1), [("land", 1), ("gets", "ann", 1)])

    def test_lists_that_are_told_and_then_changed(self):
        some = Ledger(SOME, NAMES)
        told = [some.ask("cod", 3), some.land(20), some.names(), some.got(), some.tape()]
        before = seen(some)
        for each in told:
            each[0] = "other"
            each.append("more")
        self.assertEqual(seen(some), before)
        some.land(2)
        self.assertEqual(some.tape(), before[4] + [("land", 2), ("kept", 2)])

    def test_later_deeds_change_nothing_that_was_told(self):
        some = Ledger(SOME, NAMES)
        facts = some.land(3)
        told = seen(some)
        kept = (told[0], list(told[1]), list(told[2]), told[3], list(told[4]))
        some.ask("cod", 3)
        some.land(20)
        self.assertEqual(told, kept)
        self.assertEqual(facts, [("land", 3), ("gets", "ann", 2), ("gets", "bea", 1)])

    def test_no_two_lists_are_one(self):
        some = Ledger(SOME, NAMES)
        lists = [some.land(3), some.ask("cod", 1)]
        for _ in range(2):
            lists += [some.names(), some.got(), some.tape()]
        self.assertEqual(len({id(each) for each in lists}), len(lists))


class Interface(Case):
    def test_names_and_arguments(self):
        self.assert_arguments(ledger, {"Ledger": ["custom", "names"]})
        self.assert_arguments(Ledger(boat(1), ["a"]), {
            "ask": ["name", "claim"], "land": ["catch"], "custom": [], "names": [], "got": [], "kept": [], "tape": [],
        })


if __name__ == "__main__":
    unittest.main()
