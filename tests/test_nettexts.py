import random
import re
import unittest

from checking import LONG, assert_errors, assert_raises, drawn_nets, error_of
from test_nets import ABC, EMPTY, HUBS, LEADS, NO_NETS, PIPES

from behindtaps.errors import BadNet, BadText
from behindtaps.nets import is_net
from behindtaps.nettexts import net_text, read_net

NAME = "[a-z][a-z0-9]{0,7}"
WHOLE = "(0|[1-9][0-9]{0,29})"
TAPS_LINE = re.compile(f"taps( {NAME})+")
PART_LINE = re.compile(f"(pipe|lead|hub)((?: {NAME})+) {WHOLE}(?:/{WHOLE})?")
SIGNS = " \n0123456789/abcdpxyzhublet-+.,\tA\u00e9\u0661\r"


def part_of(line):
    """What a line tells, if it is like one of a part; whether it is one is not looked at."""
    found = PART_LINE.fullmatch(line)
    if found is None:
        return None
    kind, names, top, bottom = found.groups()
    width = int(top) if bottom is None else (int(top), int(bottom))
    places = tuple(names.split())
    return ("hub", places, width) if kind == "hub" else (kind, *places, width)


def first_wrong_line(text):
    """The line that is told for a text that is none, by trying longer and longer beginnings; None if it is one."""
    lines = text.split("\n")
    last = lines.pop()
    parts = []
    for at, line in enumerate(lines, 1):
        if at == 1:
            if TAPS_LINE.fullmatch(line) is None:
                return 1
            taps = tuple(line.split()[1:])
        else:
            parts.append(part_of(line))
        if not is_net((taps, tuple(parts))):
            return at
    return len(lines) + 1 if last != "" or not lines else None


def wide_text(line, many):
    return "taps a b\n" + line * many


class TextsTest(unittest.TestCase):
    def test_examples(self):
        self.assertEqual(net_text(PIPES), "taps a b c\npipe a x 3\npipe b x 3/2\npipe c y 0\npipe x y 1\n")
        self.assertEqual(net_text(LEADS), "taps a b c\nlead x a 2\npipe b x 1\nlead a c 1/2\nlead c a 0\n")
        self.assertEqual(net_text(HUBS), "taps a b c\nhub a b x 2\npipe c x 1\nhub a c 1/3\nhub a b c 0\n")
        self.assertEqual(net_text(EMPTY), "taps a b\n")
        self.assertEqual(net_text((ABC, (("pipe", "a", "c", (3, 2)),))), "taps a b c\npipe a c 3/2\n")

    def test_there_and_back(self):
        for net in (PIPES, LEADS, HUBS, EMPTY, *drawn_nets(1, 200)):
            self.assertEqual(read_net(net_text(net)), net)
            self.assertEqual(net_text(read_net(net_text(net))), net_text(net))

    def test_full_nets(self):
        for line in ("pipe a b 1\n", "lead b a 0\n", "hub a b 1/2\n"):
            net = read_net(wide_text(line, 200))
            self.assertEqual(len(net[1]), 200)
            self.assertEqual(net_text(net), wide_text(line, 200))

    def test_numbers_of_30_digits(self):
        for number in ("9" * 30, str(LONG), "1/" + "3" * 30, "3" * 30 + "/2", "9" * 30 + "/" + "9" * 29 + "8"):
            text = f"taps a b\npipe a b {number}\n"
            self.assertEqual(net_text(read_net(text)), text)

    def test_parameters_by_name(self):
        self.assertEqual(net_text(net=EMPTY), "taps a b\n")
        self.assertEqual(read_net(text="taps a b\n"), EMPTY)

    def test_bad_net(self):
        assert_errors(self, net_text, (PIPES,), [(0, BadNet, NO_NETS)])


class WrongTextsTest(unittest.TestCase):
    def wrong(self, text, line):
        assert_raises(self, read_net, (text,), BadText, line=line)

    def test_no_strings(self):
        for value in (None, True, 1, [], ["taps a b\n"], ("taps a b\n",), {}, b"taps a b\n", EMPTY):
            self.wrong(value, 1)

    def test_taps_line(self):
        for line in ("", "taps", "taps a", "taps a a", "taps b a", "a b", "Taps a b", " taps a b", "taps a b ", "taps  a b",
                     "taps\ta b", "taps a B", "taps a b c d e f g", "taps a 1", "pipe a b 1", "taps a,b", "taps a b\r",
                     "taps a abcdefghi"):
            self.wrong(line + "\n", 1)
            self.wrong(line, 1)
            self.wrong(line + "\npipe a b 1\n", 1)
            self.wrong(line + "\nnothing", 1)

    def test_part_lines(self):
        for line in ("", " ", "pipe", "pipe a b", "pipe b a 1", "pipe a a 1", "pipe a b 1 ", " pipe a b 1", "pipe  a b 1",
                     "pipe a  b 1", "pipe a b  1", "pipe a b 01", "pipe a b 00", "pipe a b -1", "pipe a b +1", "pipe a b 1.0",
                     "pipe a b 2/4", "pipe a b 2/1", "pipe a b 0/2", "pipe a b 1/0", "pipe a b 1/", "pipe a b /2",
                     "pipe a b 1/02", "pipe a b 01/2", "pipe a b 1/2/3", "pipe a b 1 /2", "pipe a b x", "pipe a b c 1",
                     "pipe a 1", "pipe A b 1", "lead a a 1", "lead a b c 1", "lead a 1", "lead a b", "hub a 1", "hub 1",
                     "hub b a 1", "hub a a b 1", "hub a b", "Hub a b 1", "tank a b 1", "taps a b", "pipe\ta b 1", "pipe a b 1\r",
                     "pipe a b 1_0", "pipe a b \u0661", "pipe a b " + "1" * 31, "pipe a b 1/" + "3" * 31,
                     "pipe a b " + "3" * 31 + "/2", "pipe a abcdefghi 1"):
            self.wrong(f"taps a b\n{line}\n", 2)
            self.wrong(f"taps a b\npipe a b 1\n{line}\npipe a b 1\n", 3)
            self.wrong(f"taps a b\npipe a b 1\n{line}\npipe b a 1", 3)

    def test_last_newline(self):
        self.wrong("taps a b", 1)
        self.wrong("taps a b\npipe a b 1", 2)
        self.wrong("taps a b\npipe a b 1\npipe a b 1", 3)
        self.wrong("taps a b\n ", 2)
        self.wrong("taps a b\n\n", 2)
        self.wrong("taps a b\npipe a b 1\n\n", 3)
        self.wrong("taps a b\nnothing\npipe a b 1", 2)
        self.wrong("", 1)
        self.wrong("\n", 1)
        self.wrong("\ntaps a b\n", 1)

    def test_part_201(self):
        for line in ("pipe a b 1\n", "lead b a 0\n", "hub a b 1/2\n"):
            self.wrong(wide_text(line, 201), 202)
            self.wrong(wide_text(line, 250), 202)
            self.wrong(wide_text(line, 200) + line.strip(), 202)
            self.wrong(wide_text(line, 200) + "\n", 202)

    def test_place_41(self):
        lines = [f"pipe a p{at} 1\n" for at in range(50)]
        self.assertEqual(len(read_net("taps a b\n" + "".join(lines[:38]))[1]), 38)
        self.wrong("taps a b\n" + "".join(lines[:39]), 40)
        self.wrong("taps a b\n" + "".join(lines), 40)
        self.wrong("taps a b c\n" + "".join(lines), 39)
        self.wrong("taps a b\n" + "".join(lines[:38]) + "pipe a b 1\n" + lines[40], 41)
        hub = " ".join(sorted(f"p{at}" for at in range(39)))
        self.wrong(f"taps a b\npipe a b 1\nhub {hub} 1\npipe a b 1\n", 3)

    def test_leads_and_hubs(self):
        self.wrong("taps a b\nlead a b 1\npipe a b 1\nhub a b 1\nlead a b 1\n", 4)
        self.wrong("taps a b\nhub a b 0\nlead a b 0\n", 3)

    def test_one_change_anywhere(self):
        draw = random.Random(2)
        seen = {}
        for net in drawn_nets(3, 60, parts=5):
            text = net_text(net)
            for _ in range(60):
                at = draw.randrange(len(text) + 1)
                what = draw.choice(("out", "in", "other", "line out", "line in", "lines exchanged"))
                changed = self.changed(draw, text, at, what)
                line = first_wrong_line(changed)
                seen[line is None] = seen.get(line is None, 0) + 1
                if line is None:
                    self.assertEqual(net_text(read_net(changed)), changed)
                else:
                    self.wrong(changed, line)
        self.assertGreater(min(seen.values()), 200, seen)

    def changed(self, draw, text, at, what):
        lines = text.split("\n")
        if what == "out":
            return text[:at] + text[at + 1:]
        if what == "in":
            return text[:at] + draw.choice(SIGNS) + text[at:]
        if what == "other":
            return text[:at] + draw.choice(SIGNS) + text[at + 1:]
        if what == "line out":
            lines.pop(draw.randrange(len(lines)))
        elif what == "line in":
            lines.insert(draw.randrange(len(lines) + 1), draw.choice((*lines, "", "hub a b 1", "lead a b 1", "pipe a b 7/8")))
        else:
            first, second = draw.randrange(len(lines)), draw.randrange(len(lines))
            lines[first], lines[second] = lines[second], lines[first]
        return "\n".join(lines)

    def test_each_sign_of_a_text(self):
        for text in ("taps a b c\npipe a x 3/2\nlead x b 10\n", "taps a b c\nhub a b c 1/3\npipe a b 0\n"):
            for at in range(len(text) + 1):
                for sign in SIGNS:
                    for changed in (text[:at] + sign + text[at:], text[:at] + sign + text[at + 1:], text[:at] + text[at + 1:]):
                        line = first_wrong_line(changed)
                        error = error_of(read_net, (changed,))
                        self.assertEqual(None if error is None else error.line, line, repr(changed))


if __name__ == "__main__":
    unittest.main()
