"""Promise 3: the classes of refusals."""

import unittest

from turncouple import errors

UNDER_TURN_ERROR = [
    "NoNumber", "NoSize", "NoOffset", "NoTriple", "NoTable", "TooWide", "NoNet", "NoRow", "NoStanding", "NoTree",
    "NoWay", "NoHalf", "NoLinking", "NoDeed", "NoQuestion", "Empty", "NotParted", "NoText",
]
ELSEWHERE = {"NoName": KeyError, "NoPlace": IndexError, "ByNought": ZeroDivisionError, "NothingDone": LookupError}


class Classes(unittest.TestCase):
    def test_turn_error_stands_straight_under_value_error(self):
        self.assertEqual(errors.TurnError.__bases__, (ValueError,))

    def test_most_stand_straight_under_turn_error(self):
        for name in UNDER_TURN_ERROR:
            with self.subTest(name):
                self.assertEqual(getattr(errors, name).__bases__, (errors.TurnError,))

    def test_four_stand_under_errors_of_python(self):
        for name, base in ELSEWHERE.items():
            with self.subTest(name):
                self.assertEqual(getattr(errors, name).__bases__, (base,))

    def test_none_stands_under_another_one_but_turn_error(self):
        names = UNDER_TURN_ERROR + list(ELSEWHERE)
        for name in names:
            for other in names:
                if name != other:
                    self.assertFalse(issubclass(getattr(errors, name), getattr(errors, other)), (name, other))

    def test_there_are_no_others(self):
        found = [name for name, thing in vars(errors).items() if isinstance(thing, type)]
        self.assertEqual(sorted(found), sorted(["TurnError"] + UNDER_TURN_ERROR + list(ELSEWHERE)))


class Fields(unittest.TestCase):
    def test_no_name_is_made_of_the_name(self):
        for name in ("a", "", None, ("a", 1), ["a"], {"a": 1}, 10 ** 5000, True):
            refusal = errors.NoName(name)
            self.assertEqual(refusal.name, name)
            self.assertIsInstance(str(refusal), str)
            with self.assertRaises(KeyError):
                raise refusal

    def test_no_text_is_made_of_the_row(self):
        for row in (0, 1, 17):
            refusal = errors.NoText(row)
            self.assertEqual(refusal.row, row)
            self.assertIsInstance(str(refusal), str)
            with self.assertRaises(errors.TurnError):
                raise refusal

    def test_fields_are_needed(self):
        for made in (errors.NoName, errors.NoText):
            with self.assertRaises(TypeError):
                made()

    def test_all_others_are_made_of_a_message(self):
        for name in ["TurnError", *UNDER_TURN_ERROR, *ELSEWHERE]:
            if name not in ("NoText", "NoName"):
                self.assertIn("why", str(getattr(errors, name)("why")))


if __name__ == "__main__":
    unittest.main()
