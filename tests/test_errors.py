import copy
import unittest

from lotkept import errors
from tests.any_values import any_values

# Each class: its name, its argument, its base class, and all classes that catch it beside Exception.
VALUE_ERRORS = ("LotkeptError", "ValueError")
KEY_ERRORS = ("NotFound", "KeyError", "LookupError")

WITH_ATTRIBUTE = (
    ("Conflict", "sets", "LotkeptError", VALUE_ERRORS),
    ("InvalidName", "value", "LotkeptError", VALUE_ERRORS),
    ("InvalidValue", "value", "LotkeptError", VALUE_ERRORS),
    ("InvalidOverrides", "value", "LotkeptError", VALUE_ERRORS),
    ("InvalidObservers", "value", "LotkeptError", VALUE_ERRORS),
    ("RandomnessExhausted", "party", "LotkeptError", VALUE_ERRORS),
    ("NotEquivalent", "operation", "LotkeptError", VALUE_ERRORS),
    ("NotFound", "name", "KeyError", KEY_ERRORS),
    ("UnknownKey", "name", "NotFound", KEY_ERRORS),
    ("UnknownClient", "name", "NotFound", KEY_ERRORS),
    ("UnknownServer", "name", "NotFound", KEY_ERRORS),
    ("UnknownParty", "name", "NotFound", KEY_ERRORS),
)
WITH_MESSAGE = (
    ("NoCorrectValue", "message", "LotkeptError", VALUE_ERRORS),
    ("InvalidScheme", "message", "LotkeptError", VALUE_ERRORS),
    ("InvalidFaulty", "message", "LotkeptError", VALUE_ERRORS),
    ("InvalidRandomness", "message", "LotkeptError", VALUE_ERRORS),
    ("InvalidText", "message", "LotkeptError", VALUE_ERRORS),
    ("InvalidLog", "message", "LotkeptError", VALUE_ERRORS),
)
ROOT = (("LotkeptError", "message", "ValueError", VALUE_ERRORS),)
CLASSES = ROOT + WITH_ATTRIBUTE + WITH_MESSAGE

BUILTINS = {
    "ValueError": ValueError, "KeyError": KeyError, "LookupError": LookupError, "IndexError": IndexError,
    "TypeError": TypeError, "RuntimeError": RuntimeError, "ArithmeticError": ArithmeticError,
    "AttributeError": AttributeError, "OSError": OSError, "StopIteration": StopIteration,
}


def found(name):
    return BUILTINS[name] if name in BUILTINS else getattr(errors, name)


def is_caught(error, catcher):
    try:
        raise error
    except catcher as caught:
        return caught is error
    except BaseException:
        return False


class ClassTest(unittest.TestCase):
    def test_the_module_has_exactly_these_classes(self):
        names = [name for name, thing in vars(errors).items() if isinstance(thing, type)]
        self.assertEqual(sorted(names), sorted(row[0] for row in CLASSES))

    def test_each_class_is_defined_in_the_module(self):
        for name, _, _, _ in CLASSES:
            self.assertEqual(found(name).__module__, "lotkept.errors")
            self.assertEqual(found(name).__name__, name)

    def test_base_classes(self):
        for name, _, base, _ in CLASSES:
            self.assertEqual(found(name).__bases__, (found(base),), name)

    def test_who_catches_whom(self):
        catchers = [row[0] for row in CLASSES] + list(BUILTINS)
        for name, _, _, above in CLASSES:
            for catcher in catchers:
                expected = catcher == name or catcher in above
                self.assertIs(is_caught(found(name)("x"), found(catcher)), expected, (name, catcher))

    def test_all_are_exceptions(self):
        for name, _, _, _ in CLASSES:
            self.assertTrue(is_caught(found(name)("x"), Exception))


class ConstructionTest(unittest.TestCase):
    def test_the_attribute_is_the_argument_itself(self):
        for name, argument, _, _ in WITH_ATTRIBUTE + WITH_MESSAGE:
            for thing in any_values():
                self.assertIs(getattr(found(name)(thing), argument), thing, name)
                self.assertIs(getattr(found(name)(**{argument: thing}), argument), thing, name)

    def test_the_attribute_survives_raising(self):
        for name, argument, _, _ in WITH_ATTRIBUTE + WITH_MESSAGE:
            thing = (("a",), ("b",))
            with self.assertRaises(found(name)) as caught:
                raise found(name)(thing)
            self.assertIs(getattr(caught.exception, argument), thing, name)

    def test_arguments_are_not_modified(self):
        for name, argument, _, _ in CLASSES:
            for thing in any_values():
                before = copy.deepcopy(thing)
                found(name)(thing)
                found(name)(**{argument: thing})
                self.assertEqual(repr(thing), repr(before))

    def test_two_errors_share_nothing(self):
        for name, argument, _, _ in WITH_ATTRIBUTE + WITH_MESSAGE:
            first, second = found(name)("a"), found(name)("b")
            self.assertEqual((getattr(first, argument), getattr(second, argument)), ("a", "b"))

    def test_messages_are_shown_and_may_be_left_out(self):
        for name, _, _, _ in ROOT + WITH_MESSAGE:
            self.assertEqual(str(found(name)("not as described")), "not as described")
            self.assertEqual(str(found(name)(message="not as described")), "not as described")
            self.assertEqual(str(found(name)()), "")

    def test_what_an_error_is_about_is_shown(self):
        for name, argument, _, _ in WITH_ATTRIBUTE:
            self.assertIn("xyz", str(found(name)("xyz")))
            self.assertIn("xyz", str(found(name)(**{argument: "xyz"})))

    def test_the_root_takes_any_message(self):
        for thing in any_values():
            errors.LotkeptError(thing)
            errors.LotkeptError(message=thing)

    def test_a_copy_has_the_same_attribute(self):
        for name, argument, _, _ in WITH_ATTRIBUTE + WITH_MESSAGE:
            again = copy.copy(found(name)(**{argument: ("a", 1)}))
            self.assertIs(type(again), found(name))
            self.assertEqual(getattr(again, argument), ("a", 1))


if __name__ == "__main__":
    unittest.main()
