import unittest

from bestheads import errors

REFUSALS = [
    "NoBottom", "NoBook", "NoList", "NoRule", "NoCount", "NoLooks", "NoThings", "NotSure", "NoSlack", "NoThing",
    "NoWorth", "TooMany", "NoText", "NoLine",
]


class Errors(unittest.TestCase):
    def test_head_error_stands_straight_beneath_value_error(self):
        self.assertEqual((ValueError,), errors.HeadError.__bases__)

    def test_each_refusal_stands_straight_beneath_head_error(self):
        for name in REFUSALS:
            self.assertEqual((errors.HeadError,), getattr(errors, name).__bases__, name)

    def test_the_refusals_are_unlike_classes(self):
        self.assertEqual(len(REFUSALS), len({getattr(errors, name) for name in REFUSALS}))

    def test_each_refusal_is_called_as_the_document_calls_it(self):
        for name in REFUSALS:
            self.assertEqual(name, getattr(errors, name).__name__)

    def test_refusals_have_no_fields(self):
        for name in REFUSALS:
            self.assertEqual({}, vars(getattr(errors, name)("why")), name)
            self.assertEqual({}, vars(getattr(errors, name)()), name)


if __name__ == "__main__":
    unittest.main()
