"""The errors (point 1 and the section ruleworlds/errors.py)."""

import copy

from ruleworlds import errors
from tests.helpers import Case, anything

FIELDS = {
    "InvalidRule": "place", "NotAProgram": "thing", "InvalidWorld": "thing", "InvalidPair": "thing",
    "InvalidNames": "thing", "Unreadable": "line", "InvalidKind": "value", "Barred": "why", "NotBasic": "culprit",
    "NotASplit": "thing", "NoSuchSheet": "sheet", "InvalidDeed": "place",
}
BARE = ("NoAnswer", "NothingToUndo")


class ErrorsTest(Case):

    def test_the_base_is_a_value_error(self):
        self.assertEqual(errors.RuleError.__bases__, (ValueError,))
        self.assertEqual(errors.RuleError.__module__, "ruleworlds.errors")
        self.assertIsInstance(errors.RuleError(), ValueError)

    def test_each_class_stands_directly_below_the_base(self):
        for name in [*FIELDS, *BARE]:
            kind = getattr(errors, name)
            self.assertEqual(kind.__name__, name)
            self.assertEqual(kind.__bases__, (errors.RuleError,), name)
            self.assertEqual(kind.__module__, "ruleworlds.errors")
        self.assertEqual(len({getattr(errors, name) for name in [*FIELDS, *BARE]}), 14)

    def test_a_field_is_kept_by_position_and_by_name(self):
        for name, field in FIELDS.items():
            kind = getattr(errors, name)
            for value in anything():
                before = copy.deepcopy(value)
                self.same(getattr(kind(value), field), before, name)
                self.same(getattr(kind(**{field: value}), field), before, name)
                self.same(value, before)

    def test_a_field_may_be_left_out(self):
        for name, field in FIELDS.items():
            self.assertTrue(hasattr(getattr(errors, name)(), field), name)

    def test_a_field_belongs_to_its_own_error(self):
        one, other = errors.InvalidRule(1), errors.InvalidRule(2)
        self.assertEqual([one.place, other.place], [1, 2])

    def test_errors_without_fields(self):
        for name in BARE:
            kind = getattr(errors, name)
            with self.assertRaises(kind):
                raise kind()

    def test_errors_can_be_raised_and_caught_by_the_base(self):
        for name, field in FIELDS.items():
            with self.assertRaises(errors.RuleError) as caught:
                raise getattr(errors, name)(("a",))
            self.assertEqual(getattr(caught.exception, field), ("a",))
