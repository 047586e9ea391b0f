import time
import unittest

from checking import LONG, SORTS, all_lots, error_of, fraction
from housing import drawn_entry, drawn_house, kept_entry, put
from judging import ABCD, generator
from test_live import state

from behindtaps.errors import BadText
from behindtaps.journals import entries_text, journal_text, played
from behindtaps.live import House

AB = ("a", "b")
EXAMPLE = "house pipes a b c\nmeasure a = 2\ntell 1 w(b) >= 1 w(c) by 1/2\nback\n"
HEAD = "house pipes a b\n"
RIGHT_ROWS = ("back", "again", "measure a = 1", "measure b = 3/2", "tell 0 >= 0 by 0", "tell 1 w(a) >= 0 by -1/2",
              "tell 0 >= 2/3 w(a) by -7", "tell 1 w(a) + 1 w(b) >= 1/2 w(a) by 0", "tell 1 w(b) + 1 w(a) + 2 w(a) >= 0 by 1")
WRONG_ROWS = ("", " ", "Back", "back ", " back", "back again", "forth", "count", "journal", "range a", "ask 0 >= 0 by 0",
              "house pipes a b", "house", "measure", "measure a", "measure a =", "measure a = ", "measure a  = 1", "measure a =1",
              "measure a= 1", "measure = 1", "measure  = 1", "measure a = 1 ", "measure a = 01", "measure a = +1", "measure a = 1.0",
              "measure a = 2/4", "measure a = 3/1", "measure a = 1/0", "measure a = -0", "measure a = --1", "measure a = -1/-2",
              "measure a = - 1", "measure a = " + "1" * 31, "measure a = -" + "1" * 31, "measure c = 1", "measure a b = 1",
              "measure b a = 1", "measure a a = 1", "measure A = 1", "measure a = 1 = 1", "measure a == 1", "measure a = x",
              "tell", "tell 0 >= 0", "tell 0 >= 0 by", "tell 0 >= 0 by ", "tell 0 >= 0 by x", "tell 0 by 0", "tell >= 0 by 0",
              "tell 0 >= by 0", "tell 0 > 0 by 0", "tell 0 >= 0 >= 0 by 0", "tell w(a) >= 0 by 0", "tell 1 w(c) >= 0 by -1",
              "tell 1 w(a b) >= 0 by 0", "tell 1 w() >= 0 by 0", "tell 1 w(b a) >= 0 by 0", "tell 0 w(a) >= 0 by 0",
              "tell -1 w(a) >= 0 by -9", "tell 1 w(a) + >= 0 by 0", "tell 1 w(a) + 0 >= 0 by 0", "tell 1 w(a)+ 1 w(b) >= 0 by 0",
              "tell 1  w(a) >= 0 by 0", "tell 1 w( a) >= 0 by 0", "tell 1 w(a ) >= 0 by 0", "tell 1 w(a) >= 0  by 0",
              "tell 1 w(a) >= 0 by 0 by 0", "tell 1w(a) >= 0 by 0", "tell 1 w(a) >= 0 by 0 ", "tell 2/4 w(a) >= 0 by 0",
              "tell 1 w(c) >= 1 w(c) by 0", "measure\ta = 1", "back\r")
WRONG_HEADS = ("", "house", "house ", "house pipes", "house pipes ", "house pipes a", "house pipe a b", "house a b", "pipes a b",
               "house pipes b a", "house pipes a a", "house pipes a b c d e f g", "house pipes a  b", "house  pipes a b",
               "house pipes a b ", " house pipes a b", "House pipes a b", "house pipes A b", "house Pipes a b", "back",
               "measure a = 1", "taps a b", "house pipes a,b", "house pipes a 1")


def number_row(value):
    worth = fraction(value)
    return str(worth)


def side_row(terms):
    return " + ".join(f"{number_row(weight)} w({' '.join(lot)})" for lot, weight in terms) or "0"


def change_row(change):
    """The one form of a row, as [124] tells it."""
    if len(change) == 1:
        return change[0]
    word, about, told = change
    if word == "measure":
        return f"measure {' '.join(about)} = {number_row(told)}"
    greater = [(lot, weight) for lot, weight in about if fraction(weight) > 0]
    lesser = [(lot, -fraction(weight)) for lot, weight in about if fraction(weight) < 0]
    lesser = [(lot, (worth.numerator, worth.denominator) if worth.denominator > 1 else int(worth)) for lot, worth in lesser]
    return f"tell {side_row(greater)} >= {side_row(lesser)} by {number_row(told)}"


def line_of(text):
    """The line that is told to be wrong; None if the text is a journal."""
    error = error_of(played, (text,))
    if error is None:
        return None
    assert type(error) is BadText, (text, error)
    return error.line


def led_house(draw, sort):
    """A house with a log of all kinds."""
    net, house = drawn_house(draw, sort, 3)
    for _ in range(draw.randint(0, 8)):
        step = draw.choice(("put", "put", "drawn", "back", "again"))
        if step in ("back", "again"):
            error_of(getattr(house, step), ())
        else:
            error_of(put, (house, kept_entry(draw, net) if step == "put" else drawn_entry(draw, net[0])))
    return house


class ThereAndBackTest(unittest.TestCase):
    def test_the_example(self):
        house = played(EXAMPLE)
        self.assertEqual((len(house), house.entries()), (1, [("measure", ("a",), 2)]))
        self.assertEqual(house.log(), [("measure", ("a",), 2), ("tell", ((("b",), 1), (("c",), -1)), (1, 2)), ("back",)])
        self.assertEqual(journal_text(house), EXAMPLE)
        self.assertEqual(entries_text(house), "house pipes a b c\nmeasure a = 2\n")
        house.again()
        self.assertEqual(journal_text(house), EXAMPLE + "again\n")

    def test_drawn_ones(self):
        draw = generator(301)
        for at in range(90):
            house = led_house(draw, SORTS[at % 3])
            before = state(house)
            head = f"house {house.of_sort} {' '.join(house.taps)}\n"
            text = head + "".join(change_row(change) + "\n" for change in house.log())
            self.assertEqual(journal_text(house), text)
            self.assertEqual(entries_text(house), head + "".join(change_row(entry) + "\n" for entry in house.entries()))
            again = played(text)
            self.assertEqual((again, again.log()), (house, house.log()))
            entries = played(entries_text(house))
            self.assertEqual((entries, entries.log()), (house, house.entries()))
            # What can be added again is the same, too.
            self.assertEqual(type(error_of(again.again, ())), type(error_of(house.copy().again, ())))
            self.assertEqual(state(house), before)
            self.assertIsNot(played(text), again)

    def test_houses_without_entries(self):
        for sort in SORTS:
            for taps in (AB, ABCD, ("a1", "b", "c", "d", "e", "zzzzzzzz")):
                house = House(taps, sort)
                text = f"house {sort} {' '.join(taps)}\n"
                self.assertEqual((journal_text(house), entries_text(house)), (text, text))
                self.assertEqual((played(text), played(text).log()), (house, []))
        self.assertEqual(journal_text(house=house), entries_text(house=house))
        self.assertEqual(played(text=text), house)

    def test_long_numbers(self):
        house = House(AB, "leads")
        house.tell(((("a",), (LONG, LONG + 1)), (("b",), -LONG)), (-LONG - 1, LONG))
        house.measure(("b",), (1, LONG))
        text = f"house leads a b\ntell {LONG}/{LONG + 1} w(a) >= {LONG} w(b) by -{LONG + 1}/{LONG}\nmeasure b = 1/{LONG}\n"
        self.assertEqual(journal_text(house), text)
        self.assertEqual(played(text), house)


class FreerFormsTest(unittest.TestCase):
    def test_terms_in_any_order_and_on_both_sides(self):
        head = "house leads a b c\n"
        for row, terms, bound in (
                ("tell 1 w(b) + 2 w(a) >= 1 w(c) + 1/2 w(a c) by 0", ((("a",), 2), (("a", "c"), (-1, 2)), (("b",), 1), (("c",), -1)), 0),
                ("tell 1 w(a) + 1/2 w(a) >= 0 by -3/2", ((("a",), (3, 2)),), (-3, 2)),
                ("tell 1 w(a) >= 3 w(a) by -4", ((("a",), -2),), -4),
                ("tell 3/2 w(a) + 1 w(b) >= 1 w(a) + 1/2 w(a) by 1", ((("b",), 1),), 1),
                ("tell 1 w(a) >= 1 w(a) by 0", (), 0), ("tell 0 >= 1 w(a) by -1", ((("a",), -1),), -1),
                ("tell 0 >= 0 by -1/2", (), (-1, 2))):
            house = played(head + row + "\n")
            self.assertEqual(house.entries(), [("tell", terms, bound)])
            self.assertEqual(journal_text(house), head + change_row(("tell", terms, bound)) + "\n")
        # Opposites are not exchanged.
        self.assertEqual(played("house pipes a b\ntell 1 w(b) >= 1 w(a) by 0\n").entries(),
                         [("tell", ((("a",), -1), (("b",), 1)), 0)])

    def test_negative_numbers(self):
        self.assertEqual(line_of(HEAD + "measure a = -1\n"), 2)
        self.assertEqual(played(HEAD + "tell 1 w(a) >= 0 by -5\n").entries(), [("tell", ((("a",), 1),), -5)])
        self.assertEqual(played(HEAD + "tell 1 w(a) >= 0 by -5/3\n").entries(), [("tell", ((("a",), 1),), (-5, 3))])

    def test_names_like_words(self):
        text = "house hubs by house tell\nmeasure by = 1\ntell 1 w(by tell) >= 0 by 0\ntell 0 >= 1 w(house) by -5\n"
        house = played(text)
        self.assertEqual(len(house), 3)
        self.assertEqual(journal_text(house), text)


class WrongTest(unittest.TestCase):
    def test_rows(self):
        for row in RIGHT_ROWS:
            # One entry is there to be taken away, and one to be added again.
            self.assertIsNone(line_of(HEAD + "tell 0 >= 0 by 0\ntell 0 >= 0 by 0\nback\n" + row + "\n"), row)
        for row in WRONG_ROWS:
            self.assertEqual(line_of(HEAD + row + "\n"), 2, row)
            self.assertEqual(line_of(HEAD + "measure b = 1\nback\n" + row + "\n"), 4, row)
            self.assertEqual(line_of(HEAD + "measure a = 1\n" + row + "\nmeasure b = 1\n"), 3, row)
            self.assertEqual(line_of(HEAD + "measure a = 1\n" + row), 3 if row else None, row)

    def test_first_lines(self):
        for head in WRONG_HEADS:
            self.assertEqual(line_of(head + "\n"), 1, head)
            self.assertEqual(line_of(head), 1, head)
            self.assertEqual(line_of(head + "\nmeasure x = \n"), 1, head)
        for text in ("", "\n", "house pipes a b", None, True, 1, [], ["house pipes a b\n"], (HEAD,), {}, b"house pipes a b\n"):
            self.assertEqual(line_of(text), 1, text)

    def test_what_stands_behind_the_last_newline(self):
        for row in RIGHT_ROWS:
            self.assertEqual(line_of(HEAD + row), 2)
            self.assertEqual(line_of(HEAD + "measure a = 1\n" + row), 3)
        self.assertEqual(line_of(HEAD + "forth\nback"), 2)
        self.assertEqual(line_of(HEAD + "measure a = 1\n\n"), 3)
        self.assertEqual(line_of(HEAD + " "), 2)
        self.assertEqual(line_of(HEAD + HEAD), 2)

    def test_deeds_that_raise_errors(self):
        self.assertEqual(line_of(HEAD + "back\n"), 2)
        self.assertEqual(line_of(HEAD + "again\n"), 2)
        self.assertEqual(line_of(HEAD + "measure a = 1\nmeasure a = 1\nmeasure a = 2\nmeasure x = 1\n"), 4)
        self.assertEqual(line_of(HEAD + "tell 0 >= 0 by 1\n"), 2)
        self.assertEqual(line_of(HEAD + "measure a = 1\nback\nagain\nagain\n"), 5)
        self.assertEqual(line_of(HEAD + "measure a = 1\nback\nmeasure b = 1\nagain\n"), 5)
        most = HEAD + "measure a = 1\n" * 15
        self.assertIsNone(line_of(most))
        self.assertEqual(line_of(most + "measure a = 1\n"), 17)
        self.assertIsNone(line_of(most + "back\nback\nagain\nagain\n" * 100))
        self.assertEqual(line_of(most + "back\nagain\n" * 100 + "again\n"), 217)
        great = "house pipes a b c d e f\n" + "".join(f"measure {tap} = 1\n" for tap in "abc")
        self.assertIsNone(line_of(great))
        self.assertEqual(line_of(great + "measure d = 1\n"), 5)

    def test_slowest_answers(self):
        started = time.process_time()
        draw = generator(302)
        for sort in SORTS:
            house = led_house(draw, sort)
            text = journal_text(house)
            for lot in all_lots(house.taps):
                house.range_of(lot)
            self.assertEqual(played(text), house)
        text = HEAD + "measure a = 1\nback\n" * 600
        self.assertEqual(len(played(text).log()), 1200)
        self.assertLess(time.process_time() - started, 60)


if __name__ == "__main__":
    unittest.main()
