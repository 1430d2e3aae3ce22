import inspect
import unittest

from paidahead import errors

KINDS = {
    "InvalidHouse": (ValueError, "part"),
    "InvalidTariff": (ValueError, None),
    "InvalidStock": (ValueError, None),
    "InvalidClaim": (ValueError, None),
    "Unfair": (ValueError, None),
    "TwoDeeds": (ValueError, None),
    "ParseError": (ValueError, "line"),
    "UnknownHouse": (LookupError, "index"),
    "UnknownDeed": (LookupError, "index"),
    "UnknownCheckpoint": (LookupError, "number"),
    "UnknownRecord": (LookupError, "number"),
    "Barred": (RuntimeError, None),
    "Short": (RuntimeError, None),
    "NotHome": (RuntimeError, None),
    "LimitExceeded": (OverflowError, "limit"),
    "TooLong": (OverflowError, "limit"),
}

KEPT = (None, 0, -1, 4, 9000, True, "two", ("sizes",), ("deed", 2), [1, [2]], {"a": (1,)})


class ErrorsTest(unittest.TestCase):
    def test_the_module_has_just_the_errors_of_the_interface(self):
        found = {name for name, _ in inspect.getmembers(errors, inspect.isclass)}
        self.assertEqual(found, set(KINDS))

    def test_each_is_defined_in_the_module(self):
        for name in KINDS:
            self.assertEqual(getattr(errors, name).__module__, "paidahead.errors")

    def test_each_is_a_direct_subclass_of_its_built_in_exception(self):
        for name, (base, _) in KINDS.items():
            with self.subTest(name):
                self.assertEqual(getattr(errors, name).__bases__, (base,))

    def test_none_is_a_kind_of_another_one(self):
        for name in KINDS:
            for other in KINDS:
                with self.subTest(name, other=other):
                    is_kind = issubclass(getattr(errors, name), getattr(errors, other))
                    self.assertEqual(is_kind, name == other)

    def test_what_it_keeps_by_position_and_by_name(self):
        for name, (_, kept) in KINDS.items():
            for value in KEPT if kept else ():
                with self.subTest(name, value=value):
                    error = getattr(errors, name)
                    self.assertIs(getattr(error(value), kept), value)
                    self.assertIs(getattr(error(**{kept: value}), kept), value)

    def test_those_that_keep_something_need_it(self):
        for name, (_, kept) in KINDS.items():
            if kept:
                with self.subTest(name), self.assertRaises(TypeError):
                    getattr(errors, name)()

    def test_each_can_be_raised_and_caught_as_itself_and_as_its_built_in_exception(self):
        for name, (base, kept) in KINDS.items():
            error = getattr(errors, name)
            arguments = (3,) if kept else ()
            for kind in (error, base):
                with self.subTest(name, kind=kind), self.assertRaises(kind) as caught:
                    raise error(*arguments)
                self.assertIs(type(caught.exception), error)
                self.assertIsInstance(str(caught.exception), str)

    def test_a_large_value_is_kept_whole(self):
        large = ((10 ** 30,) * 1000,) * 200
        self.assertIs(errors.UnknownHouse(large).index, large)
        self.assertIs(errors.UnknownRecord(large).number, large)


if __name__ == "__main__":
    unittest.main()
