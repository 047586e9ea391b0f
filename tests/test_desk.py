import time
import unittest

from checking import LONG, SORTS, all_lots, fraction
from housing import kept_entry, drawn_entry, hidden_net
from judging import generator
from test_journals import RIGHT_ROWS, WRONG_HEADS, WRONG_ROWS, change_row, number_row, side_row

from behindtaps.claims import claim_of
from behindtaps.desk import Desk
from behindtaps.errors import Clash, NoEntry, TooMany
from behindtaps.journals import entries_text, journal_text, played
from behindtaps.live import House

AB = ("a", "b")
VALUES = (None, True, False, 0, 1, -7, (), [], {}, ("back",), ["count"], {"back": 1}, b"back", (1, ("a", ())), House(AB, "pipes"))
ASKING = ("count", "journal", "range a", "ask 1 w(a) >= 0 by 1")
NO_ROWS = tuple(row for row in WRONG_ROWS if row not in ("count", "journal", "range a", "ask 0 >= 0 by 0", "house pipes a b"))
NO_LOTS = ("measure c = 1", "measure a b = 1", "range c", "range a b", "tell 1 w(c) >= 0 by -1", "tell 1 w(a b) >= 0 by 0",
           "tell 1 w(c) >= 1 w(c) by 0", "ask 1 w(c) >= 0 by 0", "ask 0 >= 1 w(a b) by 0")
NEVER_ROWS = ("range", "range ", "range b a", "range a a", "range A", "range a ", "range  a", "ask", "ask 0 >= 0", "ask 0 >= 0 by",
              "ask 0 by 0", "ask 1 w(b a) >= 0 by 0", "count ", " count", "count 1", "journal 1", "Journal", "say a", "ask 0 >= 0 by -0",
              "range a\n", "count\n", "house pipes a b\n")


def answered(house, row):
    """What a desk answers to a row told of a house that is led beside it; rows as tuples."""
    try:
        if row[0] in ("back", "again"):
            getattr(house, row[0])()
            return "done"
        if row[0] == "measure":
            house.measure(*row[1:])
            return "done"
        if row[0] == "tell":
            house.tell(*row[1:])
            return "done"
        if row[0] == "range":
            low, high = house.range_of(row[1])
            return f"{number_row(low)} or more" if high is None else f"{number_row(low)} to {number_row(high)}"
        if row[0] == "ask":
            return "yes" if house.follows(*row[1:])[0] == "follows" else "no"
    except TooMany:
        return "too many"
    except Clash:
        return "clash"
    except NoEntry:
        return "none"
    return str(len(house)) if row[0] == "count" else journal_text(house)


def row_text(row):
    """The row as it is written."""
    if row[0] == "range":
        return f"range {' '.join(row[1])}"
    if row[0] == "ask":
        return "ask" + change_row(("tell", *row[1:]))[4:]
    return change_row(row)


def freer(draw, row):
    """The row of a tell or ask in a freer form: a term more on both sides."""
    if row[0] not in ("tell", "ask") or draw.random() < 0.5:
        return row_text(row)
    lot = draw.choice(all_lots(AB))
    left, _, right = row_text(row).partition(" >= ")
    word, _, side = left.partition(" ")
    own, _, bound = right.rpartition(" by ")
    sides = [text if text != "0" else "" for text in (side, own)]
    more = [" + ".join(filter(None, [f"2/3 w({' '.join(lot)})", text])) for text in sides]
    return f"{word} {more[0]} >= {more[1]} by {bound}"


class DeskTest(unittest.TestCase):
    def test_before_there_is_a_house(self):
        desk = Desk()
        self.assertIsNone(desk.house)
        for row in RIGHT_ROWS + ASKING + NO_LOTS:
            self.assertEqual(desk.say(row), "no house", row)
        for row in NO_ROWS + NEVER_ROWS + VALUES:
            if row not in NO_LOTS:
                self.assertEqual(desk.say(row), "wrong", row)
        for head in WRONG_HEADS:
            if head not in ("back", "measure a = 1"):
                self.assertEqual(desk.say(head), "wrong", head)
        self.assertIsNone(desk.house)
        self.assertEqual(desk.say(row="house leads a b"), "done")
        self.assertEqual(desk.house, House(AB, "leads"))

    def test_wrong_rows_change_nothing(self):
        desk = Desk()
        desk.say("house pipes a b")
        desk.say("measure a = 2")
        for row in NO_ROWS + NEVER_ROWS + VALUES + NO_LOTS:
            self.assertEqual(desk.say(row), "wrong", row)
        for head in WRONG_HEADS:
            if head not in ("back", "measure a = 1"):
                self.assertEqual(desk.say(head), "wrong", head)
        self.assertEqual(desk.say("journal"), "house pipes a b\nmeasure a = 2\n")

    def test_answers(self):
        desk = Desk()
        for row, answer in (
                ("house pipes a b c", "done"), ("count", "0"), ("range a", "0 or more"), ("measure a = 2", "done"),
                ("range a", "2 to 2"), ("measure b = 1/2", "done"), ("range c", "3/2 to 5/2"), ("range a b", "3/2 to 5/2"),
                ("ask 1 w(c) >= 0 by 3/2", "yes"), ("ask 1 w(c) >= 0 by 2", "no"), ("ask 0 >= 1 w(c) by -5/2", "yes"),
                ("measure c = 3", "clash"), ("again", "none"), ("count", "2"), ("measure c = 2", "done"), ("back", "done"),
                ("range c", "3/2 to 5/2"), ("again", "done"), ("range c", "2 to 2"), ("again", "none"), ("count", "3"),
                ("tell 1 w(c) >= 1 w(a) + 1 w(b) by -1/2", "done"), ("tell 1 w(c) >= 0 by 3", "clash"), ("back", "done"),
                ("back", "done"), ("back", "done"), ("back", "done"), ("back", "none"), ("count", "0"),
                ("journal", "house pipes a b c\nmeasure a = 2\nmeasure b = 1/2\nmeasure c = 2\nback\nagain\n"
                            "tell 1 w(c) >= 1 w(a) + 1 w(b) by -1/2\nback\nback\nback\nback\n"),
                ("ask 0 >= 0 by 0", "yes"), ("ask 0 >= 0 by 1", "no"), ("ask 1 w(a) >= 1 w(b) by 0", "no"),
                ("house hubs a b", "done"), ("journal", "house hubs a b\n"), ("count", "0")):
            self.assertEqual(desk.say(row), answer, row)

    def test_too_many(self):
        desk = Desk()
        desk.say("house hubs a b")
        for _ in range(15):
            self.assertEqual(desk.say("measure a = 1"), "done")
        before = desk.say("journal")
        self.assertEqual(desk.say("measure a = 1"), "too many")
        self.assertEqual(desk.say("measure a = 5"), "too many")
        self.assertEqual((desk.say("journal"), desk.say("count")), (before, "15"))
        desk.say("house hubs a b c d e")
        for row, answer in (("measure a = 1", "done"), ("measure b = 1", "done"), ("measure c = 1", "too many"),
                            ("range c", "too many"), ("ask 1 w(c) >= 0 by 1", "too many"), ("range a", "1 to 1"),
                            ("ask 1 w(a) >= 0 by 1", "yes"), ("count", "2")):
            self.assertEqual(desk.say(row), answer, row)

    def test_a_house_led_beside_it(self):
        draw = generator(311)
        seen = {}
        for at in range(40):
            net = hidden_net(draw, SORTS[at % 3])
            desk, house = Desk(), House(net[0], SORTS[at % 3])
            desk.say(f"house {house.of_sort} {' '.join(house.taps)}")
            for _ in range(18):
                kind = draw.choice(("kept", "kept", "drawn", "back", "again", "range", "ask", "count", "journal"))
                if kind in ("kept", "drawn"):
                    row = kept_entry(draw, net) if kind == "kept" else drawn_entry(draw, net[0])
                elif kind == "range":
                    row = (kind, draw.choice(all_lots(net[0])))
                elif kind == "ask":
                    told = [entry for entry in (drawn_entry(draw, net[0]), ("tell", (), -1)) if entry[0] == "tell"]
                    row = (kind, *told[0][1:])
                else:
                    row = (kind,)
                text = freer(draw, row) if net[0] == AB else row_text(row)
                answer = desk.say(text)
                self.assertEqual(answer, answered(house, row), (text, house.entries()))
                self.assertEqual(desk.house, house)
                self.assertEqual(desk.say("journal"), journal_text(house))
                self.assertEqual(desk.say("count"), str(len(house)))
                if draw.random() < 0.2:
                    self.assertEqual(desk.say(draw.choice(NEVER_ROWS + VALUES)), "wrong")
                seen[kind, answer] = seen.get((kind, answer), 0) + 1
            self.assertEqual(played(desk.say("journal")), desk.house)
            self.assertEqual(played(entries_text(desk.house)), desk.house)
        for kind in (("kept", "done"), ("drawn", "clash"), ("back", "none"), ("again", "done"), ("again", "none"), ("ask", "no"),
                     ("ask", "yes")):
            self.assertGreater(seen.get(kind, 0), 3, (kind, seen))

    def test_another_house_leaves_the_elder_one_out(self):
        desk = Desk()
        desk.say("house pipes a b")
        elder = desk.house
        desk.say("measure a = 1")
        self.assertEqual(desk.say("house leads p q r"), "done")
        self.assertEqual((len(elder), len(desk.house)), (1, 0))
        self.assertEqual(desk.say("again"), "none")
        self.assertEqual(desk.say("house leads p"), "wrong")
        desk.say("measure p = 3")
        self.assertEqual(journal_text(desk.house), "house leads p q r\nmeasure p = 3\n")
        self.assertEqual(len(elder), 1)
        # A desk is equal to nothing but itself, and cannot be iterated over.
        self.assertFalse(Desk() == Desk() or Desk() == elder)
        with self.assertRaises(TypeError):
            iter(desk)

    def test_long_rows(self):
        desk = Desk()
        started = time.process_time()
        desk.say("house pipes a b")
        terms = [(("a",), (1, 3))] * 1200
        self.assertEqual(claim_of(AB, terms), (AB, ((("a",), 400),)))
        self.assertEqual(desk.say(f"tell {side_row(terms)} >= 0 by 400"), "done")
        self.assertEqual(desk.say("range a"), "1 or more")
        self.assertEqual(desk.say("x" * 20000), "wrong")
        self.assertEqual(desk.say(f"measure a = {LONG}/{LONG - 1}"), "done")
        self.assertEqual(desk.say("range b"), f"{LONG}/{LONG - 1} to {LONG}/{LONG - 1}")
        self.assertEqual(fraction(desk.house.settled()[("a",)]), fraction((LONG, LONG - 1)))
        self.assertLess(time.process_time() - started, 60)


if __name__ == "__main__":
    unittest.main()
