import unittest

from dueyard import errors

WITH_TEXT = ["NoName", "NoNumber", "NoCalendar", "NoSpans", "TooMany", "NoPlan", "NoLine"]
WITH_NAME = ["Twice", "Taken", "NoJob", "TooLong"]


def refusal(name):
    return getattr(errors, name)


class Refusals(unittest.TestCase):
    def test_yard_error_stands_straight_under_value_error(self):
        self.assertEqual(errors.YardError.__bases__, (ValueError,))

    def test_each_refusal_stands_straight_under_yard_error(self):
        for name in WITH_TEXT + WITH_NAME:
            with self.subTest(name):
                self.assertEqual(refusal(name).__bases__, (errors.YardError,))

    def test_the_module_holds_these_classes_and_no_others(self):
        held = [name for name, thing in vars(errors).items() if isinstance(thing, type)]
        self.assertEqual(sorted(held), sorted(WITH_TEXT + WITH_NAME + ["YardError"]))

    def test_each_name_is_a_class_of_its_own_and_none_stands_under_another_one(self):
        for one in WITH_TEXT + WITH_NAME:
            self.assertEqual(refusal(one).__name__, one)
            for other in WITH_TEXT + WITH_NAME:
                with self.subTest(one=one, other=other):
                    self.assertEqual(issubclass(refusal(one), refusal(other)), one == other)

    def test_made_with_a_text(self):
        for name in WITH_TEXT:
            with self.subTest(name):
                with self.assertRaises(refusal(name)) as caught:
                    raise refusal(name)("a text")
                self.assertIsInstance(caught.exception, ValueError)
                self.assertEqual(str(caught.exception), "a text")

    def test_made_with_a_name_which_is_a_field(self):
        for name in WITH_NAME:
            for job in ["saw", "a1", ""]:
                with self.subTest(name=name, job=job):
                    with self.assertRaises(refusal(name)) as caught:
                        raise refusal(name)(job)
                    self.assertIsInstance(caught.exception, ValueError)
                    self.assertEqual(caught.exception.name, job)
                    self.assertIn(job, str(caught.exception))

    def test_each_object_has_its_own_name(self):
        one = errors.Twice("saw")
        other = errors.Twice("drill")
        self.assertEqual((one.name, other.name), ("saw", "drill"))


if __name__ == "__main__":
    unittest.main()
