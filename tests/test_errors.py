from onceways import errors
from tests.support import REFUSALS, Case


class ErrorsTest(Case):
    def test_way_error_stands_under_value_error(self):
        self.assertEqual(errors.WayError.__bases__, (ValueError,))

    def test_each_refusal_stands_straight_under_way_error(self):
        for name in REFUSALS:
            self.assertEqual(getattr(errors, name).__bases__, (errors.WayError,), name)

    def test_no_refusal_stands_under_another(self):
        for name in REFUSALS:
            above = [other for other in REFUSALS if issubclass(getattr(errors, name), getattr(errors, other))]
            self.assertEqual(above, [name])

    def test_each_is_caught_by_its_own_name(self):
        for name in REFUSALS:
            def refuse(words, name=name):
                raise getattr(errors, name)(words)
            self.refuses(getattr(errors, name), refuse, "some words")
