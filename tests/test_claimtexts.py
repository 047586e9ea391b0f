import random
import re
import unittest

from checking import LONG, NAMES, assert_errors, assert_new, assert_raises, drawn_claim, error_of
from test_claims import CLAIM, NO_CLAIMS
from test_stars import C

from behindtaps.claims import claim_of, is_claim
from behindtaps.claimtexts import claim_text, claims_text, read_claim, read_claims
from behindtaps.errors import BadClaim, BadClaims, BadText
from behindtaps.lots import lots
from behindtaps.numbers import is_number

TEXT_OF_C = "a b c d: 1 w(a b) + 1 w(a c) + 1 w(a d) >= 1 w(a) + 1 w(b) + 1 w(c) + 1 w(d)"
NAME = "[a-z][a-z0-9]{0,7}"
WHOLE = "[1-9][0-9]{0,29}"
TERM = f"{WHOLE}(?:/{WHOLE})? w\\({NAME}(?: {NAME})*\\)"
SIDE = f"(0|{TERM}(?: \\+ {TERM})*)"
TEXT = re.compile(f"({NAME}(?: {NAME})*): {SIDE} >= {SIDE}")
SIGNS = " \n0123456789/abcdw()+:>=-,.A\u00e9\u0661\t"
AB = ("a", "b")


def told_by(text):
    """The claim that a text tells, by its words; None if it tells none."""
    found = TEXT.fullmatch(text)
    if found is None:
        return None
    names, left, right = found.groups()
    taps = tuple(names.split(" "))
    if not is_claim((taps, ())):
        return None
    terms = []
    for side, sign in ((left, 1), (right, -1)):
        for top, bottom, lot in re.findall(r"(\d+)(?:/(\d+))? w\(([^)]*)\)", side):
            weight = (sign * int(top), int(bottom)) if bottom else sign * int(top)
            lot = tuple(lot.split(" "))
            if lot not in lots(taps) or not is_number(weight):
                return None
            terms.append((lot, weight))
    return claim_of(taps, terms)


def drawn_claims(seed, many):
    draw = random.Random(seed)
    for at in range(many):
        yield draw, drawn_claim(draw, NAMES[:2 + at % 5], ("whole", "fraction", "long")[at % 3])


class OneTextTest(unittest.TestCase):
    def test_examples(self):
        self.assertEqual(claim_text(C), TEXT_OF_C)
        self.assertEqual(read_claim(TEXT_OF_C), C)
        self.assertEqual(claim_text(CLAIM), "a b c: 1 w(a) + 3 w(b c) >= 1/2 w(a b) + 2 w(c)")
        self.assertEqual(claim_text((AB, ())), "a b: 0 >= 0")
        self.assertEqual(claim_text((AB, ((("a",), (3, 2)),))), "a b: 3/2 w(a) >= 0")
        self.assertEqual(claim_text((AB, ((("b",), (-3, 2)),))), "a b: 0 >= 3/2 w(b)")
        self.assertEqual(read_claim("a b: 0 >= 0"), (AB, ()))

    def test_there_and_back(self):
        for _, claim in drawn_claims(1, 120):
            self.assertEqual(read_claim(claim_text(claim)), claim)
            self.assertIsNotNone(TEXT.fullmatch(claim_text(claim)))

    def test_terms_in_any_order_and_more_than_once(self):
        text = "a b c: 1 w(c) + 1/2 w(a) + 2 w(b) + 1/3 w(a) >= 3 w(b) + 1/2 w(b c) + 1 w(c)"
        self.assertEqual(read_claim(text), (("a", "b", "c"), ((("a",), (5, 6)), (("b",), -1), (("b", "c"), (-1, 2)))))
        self.assertEqual(read_claim("a b: 1 w(a) + 1 w(a) >= 2 w(a)"), (AB, ()))
        self.assertEqual(read_claim("a b: 1 w(a) >= 1 w(b)"), (AB, ((("a",), 1), (("b",), -1))))
        self.assertEqual(read_claim("a b: 1 w(a) >= 1/2 w(a)"), (AB, ((("a",), (1, 2)),)))
        self.assertEqual(read_claim("a b: 0 >= 1 w(b) + 1 w(a)"), (AB, ((("a",), -1), (("b",), -1))))
        for draw, claim in drawn_claims(2, 60):
            words = claim_text(claim).split(": ")
            sides = [side.split(" + ") for side in words[1].split(" >= ")]
            for side in sides:
                draw.shuffle(side)
            text = f"{words[0]}: {' + '.join(sides[0])} >= {' + '.join(sides[1])}"
            self.assertEqual(read_claim(text), claim)

    def test_names_like_the_signs_of_a_text(self):
        claim = (("w", "w0", "w1"), ((("w",), 1), (("w", "w1"), -2)))
        self.assertEqual(claim_text(claim), "w w0 w1: 1 w(w) >= 2 w(w w1)")
        self.assertEqual(read_claim(claim_text(claim)), claim)

    def test_30_and_31_digits(self):
        for number in ("9" * 30, str(LONG), "1/" + "3" * 30, "3" * 30 + "/2"):
            self.assertEqual(claim_text(read_claim(f"a b: {number} w(a) >= 0")), f"a b: {number} w(a) >= 0")
        for number in ("1" * 31, "1/" + "3" * 31, "3" * 31 + "/2", "1" + "0" * 30):
            assert_raises(self, read_claim, (f"a b: {number} w(a) >= 0",), BadText, line=1)
        doubled = read_claim(f"a b: {'9' * 30} w(a) + {'9' * 30} w(a) >= 0")
        self.assertEqual(doubled, (AB, ((("a",), 2 * int("9" * 30)),)))

    def test_wrong_texts(self):
        for value in (None, True, 1, [], ["a b: 0 >= 0"], ("a b: 0 >= 0",), {}, b"a b: 0 >= 0", C):
            assert_raises(self, read_claim, (value,), BadText, line=1)
        for text in ("", " ", "a b", "a b:", "a b: 0", "a b: 0 >=", "a b: 0 >= ", "a b: >= 0", "a b:0 >= 0", "a b : 0 >= 0",
                     "a b: 0 > 0", "a b: 0 <= 0", "a b: 0 >= 0 ", " a b: 0 >= 0", "a  b: 0 >= 0", "a b: 0  >= 0",
                     "a b: 0 >= 0\n", "a b: 0 >= 0 >= 0", "b a: 0 >= 0", "a a: 0 >= 0", "a: 0 >= 0", "a B: 0 >= 0",
                     "a b c d e f g: 0 >= 0", "a b: 1 >= 0", "a b: 0 w(a) >= 0", "a b: 0 + 1 w(a) >= 0", "a b: 00 >= 0",
                     "a b: -1 w(a) >= 0", "a b: +1 w(a) >= 0", "a b: 01 w(a) >= 0", "a b: 2/4 w(a) >= 0", "a b: 2/1 w(a) >= 0",
                     "a b: 0/2 w(a) >= 0", "a b: 1/0 w(a) >= 0", "a b: 1/ w(a) >= 0", "a b: /2 w(a) >= 0", "a b: w(a) >= 0",
                     "a b: 1w(a) >= 0", "a b: 1 w (a) >= 0", "a b: 1 w(a >= 0", "a b: 1 wa) >= 0", "a b: 1 w() >= 0",
                     "a b: 1 w(a b) >= 0", "a b: 1 w(c) >= 0", "a b c: 1 w(b a) >= 0", "a b c: 1 w(a  b) >= 0",
                     "a b c: 1 w(a,b) >= 0", "a b: 1 w( a) >= 0", "a b: 1 w(a ) >= 0", "a b: 1 w(a) + >= 0", "a b: 1 w(a) +",
                     "a b: 1 w(a)+1 w(b) >= 0", "a b: 1 w(a) + 0 >= 0", "a b: 1 w(a) 1 w(b) >= 0", "a b: + 1 w(a) >= 0",
                     "a b: 1 v(a) >= 0", "a b: 1  w(a) >= 0", "a b: 1 w(a)) >= 0", "a b: 1 w((a) >= 0", "a b:  0 >= 0",
                     "a b: 1 w(a) >= 1 w(a", "a b: 1 w(a) - 1 w(b) >= 0", "a b: 0 >= 0: 0 >= 0", "a b: a b: 0 >= 0",
                     "a b: 1.0 w(a) >= 0", "a b: \u0661 w(a) >= 0", "a \u00e9: 0 >= 0", "a b: 0 >= -1 w(a)", "a b: 0 >= 1"):
            assert_raises(self, read_claim, (text,), BadText, line=1)

    def test_one_change_anywhere(self):
        seen = {True: 0, False: 0}
        for draw, claim in drawn_claims(3, 100):
            text = claim_text(claim)
            for _ in range(40):
                at = draw.randrange(len(text) + 1)
                changed = text[:at] + draw.choice(("", draw.choice(SIGNS))) + text[at + draw.randint(0, 1):]
                told = told_by(changed)
                seen[told is None] += 1
                if told is None:
                    assert_raises(self, read_claim, (changed,), BadText, line=1)
                else:
                    self.assertEqual(read_claim(changed), told)
        self.assertGreater(min(seen.values()), 100, seen)

    def test_each_sign_of_a_text(self):
        text = "a b: 1 w(a) + 1/2 w(b) >= 10 w(a)"
        for at in range(len(text) + 1):
            for sign in SIGNS:
                for changed in (text[:at] + sign + text[at:], text[:at] + sign + text[at + 1:], text[:at] + text[at + 1:]):
                    told = told_by(changed)
                    if told is None:
                        assert_raises(self, read_claim, (changed,), BadText, line=1)
                    else:
                        self.assertEqual(read_claim(changed), told)

    def test_errors_and_names(self):
        assert_errors(self, claim_text, (C,), [(0, BadClaim, NO_CLAIMS)])
        self.assertEqual(claim_text(claim=C), TEXT_OF_C)
        self.assertEqual(read_claim(text=TEXT_OF_C), C)


class ManyTextsTest(unittest.TestCase):
    def test_lines(self):
        claims = [C, (AB, ()), CLAIM, C]
        text = f"{TEXT_OF_C}\na b: 0 >= 0\n{claim_text(CLAIM)}\n{TEXT_OF_C}\n"
        self.assertEqual(claims_text(claims), text)
        self.assertEqual(claims_text(tuple(claims)), text)
        self.assertEqual(read_claims(text), claims)
        self.assertEqual((claims_text([]), claims_text(()), read_claims("")), ("", "", []))

    def test_there_and_back(self):
        claims = [claim for _, claim in drawn_claims(4, 60)]
        self.assertEqual(read_claims(claims_text(claims)), claims)

    def test_terms_in_any_order(self):
        self.assertEqual(read_claims("a b: 1 w(b) + 1 w(a) >= 2 w(b)\na b: 0 >= 0\n"),
                         [(AB, ((("a",), 1), (("b",), -1))), (AB, ())])

    def test_wrong_lines(self):
        right = "a b: 1 w(a) >= 0\n"
        for value in (None, True, 1, [], [right], (right,), {}, b"", [C]):
            assert_raises(self, read_claims, (value,), BadText, line=1)
        for text, line in (("\n", 1), (" ", 1), ("x", 1), (right.strip(), 1), (right + "\n", 2), (right + right.strip(), 2),
                           (right + " ", 2), ("\n" + right, 1), (right + "a b: 0 > 0\n" + right, 2),
                           (right + "a b: 0 > 0\n" + right.strip(), 2), (right * 3 + "x\n\nx", 4), (right * 3 + "x", 4),
                           (right + "b a: 0 >= 0\nx\n", 2), (right + right + right.replace("1", "01"), 3),
                           (right.replace("\n", "\r\n"), 1), (right + "a b: 1 w(c) >= 0\n", 2)):
            assert_raises(self, read_claims, (text,), BadText, line=line)

    def test_errors_and_names(self):
        no_claims = (None, True, 1, "", "claims", {}, C, [None], [C, None], [list(C)], [C, (AB, ((("a",), 0),))])
        assert_errors(self, claims_text, ([C, CLAIM],), [(0, BadClaims, no_claims)])
        self.assertEqual(claims_text(claims=[C]), TEXT_OF_C + "\n")
        self.assertEqual(read_claims(text=TEXT_OF_C + "\n"), [C])
        assert_new(self, read_claims, (TEXT_OF_C + "\n",))
        self.assertIsNone(error_of(read_claims, ("",)))


if __name__ == "__main__":
    unittest.main()
