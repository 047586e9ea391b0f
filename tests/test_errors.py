import unittest

from behindtaps import errors

WITH_MESSAGE = """BadTaps, BadLot, BadSort, BadNet, BadClaim, BadNumber, BadPaper, BadWidths, BadFlowClaim, BadStanding,
    BadPlaces, BadFlow, BadWishes, BadSending, BadLengths, BadWay, BadRule, BadSteps, BadGiven, BadRealm, NoClaim,
    BadBook, BadRows, BadAim, BadPoint, BadFact, BadFacts, BadWalls, BadWeights, BadTerms, BadClaims, BadTable,
    BadWorths, NoEntry, BadWork, BadContents, BadCounts, BadBox, BadTold, BadDayClaim, BadTrend, BadStory, BadForm,
    BadDeeds, BadNeeded""".replace(",", " ").split()
WITH_FIELD = {"TooMany": "most", "BadText": "line", "CrossedLot": "lot", "Parted": "lot", "Clash": "weights"}
FIELD_VALUES = {"most": 200, "line": 3, "lot": ("a", "b"), "weights": (1, (1, 2), 0)}


class ErrorsTest(unittest.TestCase):
    def test_tap_error_stands_directly_under_value_error(self):
        self.assertEqual(errors.TapError.__bases__, (ValueError,))
        self.assertEqual(str(errors.TapError("word")), "word")

    def test_all_stand_directly_under_tap_error(self):
        for name in [*WITH_MESSAGE, *WITH_FIELD]:
            self.assertEqual(getattr(errors, name).__bases__, (errors.TapError,), name)
            self.assertEqual(getattr(errors, name).__name__, name)

    def test_none_stands_under_another_one(self):
        kinds = [getattr(errors, name) for name in [*WITH_MESSAGE, *WITH_FIELD]]
        self.assertEqual(len(set(kinds)), 50)
        for kind in kinds:
            self.assertEqual([other for other in kinds if issubclass(kind, other)], [kind])

    def test_made_from_a_message(self):
        for name in WITH_MESSAGE:
            error = getattr(errors, name)("what is wrong")
            self.assertIn("what is wrong", str(error))

    def test_fields_by_place_and_by_name(self):
        for name, field in WITH_FIELD.items():
            value = FIELD_VALUES[field]
            kind = getattr(errors, name)
            self.assertEqual(getattr(kind(value), field), value)
            self.assertEqual(getattr(kind(**{field: value}), field), value)
            self.assertIsInstance(str(kind(value)), str)

    def test_can_be_raised_and_caught(self):
        for name, field in WITH_FIELD.items():
            with self.assertRaises(ValueError) as caught:
                raise getattr(errors, name)(FIELD_VALUES[field])
            self.assertEqual(getattr(caught.exception, field), FIELD_VALUES[field])


if __name__ == "__main__":
    unittest.main()
