import unittest

from leadtimes import errors
from leadtimes.errors import LeadError, NoKey, NoLog, NoNumber, NoRow, NoText, NoTime

REFUSALS = (NoNumber, NoKey, NoTime, NoLog, NoText, NoRow)


class Classes(unittest.TestCase):
    def test_lead_error_stands_under_value_error(self):
        self.assertEqual(LeadError.__bases__, (ValueError,))

    def test_each_refusal_stands_straight_under_lead_error(self):
        for refusal in REFUSALS:
            self.assertEqual(refusal.__bases__, (LeadError,), refusal)

    def test_no_refusal_stands_under_another_one(self):
        for one in REFUSALS:
            for other in REFUSALS:
                self.assertEqual(issubclass(one, other), one is other, (one, other))

    def test_they_have_their_names(self):
        names = ["LeadError", "NoNumber", "NoKey", "NoTime", "NoLog", "NoText", "NoRow"]
        for name in names:
            self.assertEqual(getattr(errors, name).__name__, name)


class Fields(unittest.TestCase):
    def test_no_log_has_at(self):
        for at in (0, 3, 40):
            self.assertEqual(NoLog(at).at, at)
        self.assertEqual(NoLog(at=3).at, 3)

    def test_no_text_has_line(self):
        for line in (0, 3, 40):
            self.assertEqual(NoText(line).line, line)
        self.assertEqual(NoText(line=3).line, 3)

    def test_fields_are_of_each_object_alone(self):
        first = NoLog(1)
        second = NoLog(2)
        self.assertEqual((first.at, second.at), (1, 2))
        self.assertFalse(hasattr(NoLog, "at"))
        self.assertFalse(hasattr(NoText, "line"))

    def test_made_without_the_field_or_with_more_they_are_not(self):
        for made in (NoLog, NoText):
            with self.assertRaises(TypeError):
                made()
            with self.assertRaises(TypeError):
                made(1, 2)

    def test_fields_are_there_when_taken(self):
        with self.assertRaises(LeadError) as caught:
            raise NoLog(3)
        self.assertEqual(caught.exception.at, 3)
        with self.assertRaises(LeadError) as caught:
            raise NoText(3)
        self.assertEqual(caught.exception.line, 3)

    def test_all_can_be_shown(self):
        for made in (NoNumber("x"), NoKey("x"), NoTime("x"), NoLog(3), NoText(3), NoRow("x")):
            self.assertIsInstance(str(made), str)


if __name__ == "__main__":
    unittest.main()
