import inspect
import unittest

from liveswap import errors

KINDS = ["BadProgram", "BadState", "BadPlaces", "BadCount", "Busy", "Over", "Unsafe"]


class ErrorClasses(unittest.TestCase):
    def test_swap_error_stands_straight_under_value_error(self):
        self.assertEqual(errors.SwapError.__bases__, (ValueError,))

    def test_each_kind_stands_straight_under_swap_error(self):
        for name in KINDS:
            with self.subTest(name):
                self.assertEqual(getattr(errors, name).__bases__, (errors.SwapError,))

    def test_none_stands_under_another_one(self):
        for name in KINDS:
            for other in KINDS:
                with self.subTest(name, other=other):
                    under = issubclass(getattr(errors, name), getattr(errors, other))
                    self.assertEqual(under, name == other)

    def test_all_are_defined_in_their_file(self):
        for name in KINDS + ["SwapError"]:
            with self.subTest(name):
                self.assertEqual(getattr(errors, name).__module__, "liveswap.errors")
                self.assertEqual(getattr(errors, name).__name__, name)

    def test_each_can_be_raised_with_a_text_and_caught_as_a_swap_error(self):
        for name in KINDS:
            with self.subTest(name), self.assertRaises(errors.SwapError):
                raise getattr(errors, name)("a text")


class UnsafeShows(unittest.TestCase):
    def test_its_argument_is_called_shown(self):
        self.assertEqual(list(inspect.signature(errors.Unsafe).parameters), ["shown"])
        self.assertEqual(errors.Unsafe(shown=("stuck", 2)).shown, ("stuck", 2))

    def test_it_has_the_field_as_soon_as_it_is_made(self):
        for shown in [("stuck", 0), ("missed", 3, 4)]:
            with self.subTest(shown):
                self.assertEqual(errors.Unsafe(shown).shown, shown)
                self.assertEqual(vars(errors.Unsafe(shown)), {"shown": shown})

    def test_each_shows_its_own(self):
        first = errors.Unsafe(("stuck", 1))
        second = errors.Unsafe(("missed", 0, 1))
        self.assertEqual((first.shown, second.shown), (("stuck", 1), ("missed", 0, 1)))

    def test_it_shows_when_it_is_caught(self):
        with self.assertRaises(errors.SwapError) as caught:
            raise errors.Unsafe(("missed", 5, 2))
        self.assertEqual(caught.exception.shown, ("missed", 5, 2))
        self.assertIn("missed", str(caught.exception))


if __name__ == "__main__":
    unittest.main()
