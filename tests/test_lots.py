import unittest

from checking import NAMES, NO_SORTS, NO_TAPS, all_lots, assert_errors, assert_new, keys_of, other_taps, plain

from behindtaps.errors import BadLot, BadSort, BadTaps
from behindtaps.lots import lots, opposite, plain_lot, plain_lots

ABC = ("a", "b", "c")
NO_LOTS = ((), ABC, ("b", "a"), ("a", "a"), ("d",), ("a", "d"), ["a"], "a", None, True, 1, {"a": 1}, ("a", 1), (["a"],),
           ("a", None), (("a",),), ("A",), ("a", "b", "c", "d"))


class LotsTest(unittest.TestCase):
    def test_examples(self):
        self.assertEqual(lots(("a", "b")), [("a",), ("b",)])
        self.assertEqual(lots(ABC), [("a",), ("a", "b"), ("a", "c"), ("b",), ("b", "c"), ("c",)])
        self.assertEqual(plain_lots(ABC, "pipes"), [("a",), ("b",), ("c",)])
        self.assertEqual(plain_lots(("a", "b"), "hubs"), [("a",)])
        self.assertEqual(plain_lots(("a", "b", "c", "d"), "pipes"),
                         [("a",), ("a", "b"), ("a", "c"), ("a", "d"), ("b",), ("c",), ("d",)])

    def test_names_of_all_kinds(self):
        taps = ("a", "a0", "abcdefgh", "b12", "n0", "z")
        self.assertEqual(lots(taps), all_lots(taps))
        self.assertEqual(plain_lots(taps, "pipes"), keys_of(taps, "pipes"))
        self.assertEqual(len(lots(taps)), 62)
        self.assertEqual(len(plain_lots(taps, "hubs")), 31)

    def test_all_counts_of_taps(self):
        for many in range(2, 7):
            taps = NAMES[:many]
            self.assertEqual(lots(taps), all_lots(taps))
            for sort in ("pipes", "hubs"):
                self.assertEqual(plain_lots(taps, sort), keys_of(taps, sort))
            self.assertEqual(plain_lots(taps, "leads"), all_lots(taps))
            for lot in all_lots(taps):
                self.assertEqual(opposite(taps, lot), other_taps(taps, lot))
                self.assertEqual(plain_lot(taps, lot), plain(taps, lot))
                self.assertEqual(plain_lot(taps, other_taps(taps, lot)), plain(taps, lot))

    def test_plain_lot_of_halves_has_the_first_tap(self):
        taps = ("a", "b", "c", "d")
        self.assertEqual(plain_lot(taps, ("b", "c")), ("a", "d"))
        self.assertEqual(plain_lot(taps, ("a", "d")), ("a", "d"))
        self.assertEqual(plain_lot(taps, ("b", "c", "d")), ("a",))
        self.assertEqual(plain_lot(("a", "b"), ("b",)), ("a",))

    def test_errors(self):
        assert_errors(self, lots, (ABC,), [(0, BadTaps, NO_TAPS)])
        assert_errors(self, plain_lots, (ABC, "pipes"), [(0, BadTaps, NO_TAPS), (1, BadSort, NO_SORTS)])
        for function in (opposite, plain_lot):
            assert_errors(self, function, (ABC, ("a",)), [(0, BadTaps, NO_TAPS), (1, BadLot, NO_LOTS)])

    def test_results_are_new(self):
        assert_new(self, lots, (ABC,))
        assert_new(self, plain_lots, (ABC, "leads"))
        assert_new(self, plain_lots, (ABC, "pipes"))

    def test_parameters_by_name(self):
        self.assertEqual(lots(taps=("a", "b")), [("a",), ("b",)])
        self.assertEqual(plain_lots(sort="pipes", taps=("a", "b")), [("a",)])
        self.assertEqual(opposite(lot=("a",), taps=ABC), ("b", "c"))
        self.assertEqual(plain_lot(lot=("b", "c"), taps=ABC), ("a",))


if __name__ == "__main__":
    unittest.main()
