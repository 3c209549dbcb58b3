"""[6] and the list of errors of the interface."""

import unittest

from hushkernel import errors
from hushkernel.errors import KernelError

BARE = [
    "NoTask", "NoTasks", "NoLetter", "NoCall", "NoMost", "NoWatch", "NoOnes", "NoEyes", "NoCures", "NoBack",
    "NoTick", "NoLetters", "NoTicks", "NoWhich", "NoLong", "NoImage", "NoDoors",
]
FIELDS = {
    "NoBuild": ["part"], "NoActs": ["index"], "NoRows": ["index"], "NoProgram": ["task", "index"],
    "TooMany": ["most"], "NoText": ["line"],
}


class TestErrors(unittest.TestCase):
    def test_kernel_error_stands_under_value_error(self):
        self.assertEqual(KernelError.__bases__, (ValueError,))
        self.assertIsInstance(KernelError(), ValueError)

    def test_each_stands_directly_under_kernel_error(self):
        for name in [*BARE, *FIELDS]:
            with self.subTest(name):
                self.assertEqual(getattr(errors, name).__bases__, (KernelError,))
                self.assertEqual(getattr(errors, name).__module__, "hushkernel.errors")

    def test_there_are_no_others(self):
        names = [name for name, value in vars(errors).items() if isinstance(value, type)]
        self.assertEqual(sorted(names), sorted(["KernelError", *BARE, *FIELDS]))

    def test_those_without_fields_can_be_called_without_arguments(self):
        for name in BARE:
            with self.subTest(name):
                error = getattr(errors, name)()
                self.assertEqual(vars(error), {})
                with self.assertRaises(getattr(errors, name)):
                    raise error

    def test_fields_keep_the_very_values(self):
        endless = []
        for _ in range(5000):
            endless = [endless]
        for value in [0, -1, True, None, "part", "", [1], (1, 2), {"a": []}, object(), KernelError, endless]:
            for name, fields in FIELDS.items():
                values = [value] if len(fields) == 1 else [value, [value]]
                error = getattr(errors, name)(*values)
                with self.subTest(name):
                    self.assertEqual(sorted(vars(error)), sorted(fields))
                    for field, kept in zip(fields, values):
                        self.assertIs(getattr(error, field), kept)

    def test_fields_in_the_order_of_the_interface(self):
        error = errors.NoProgram(3, -1)
        self.assertEqual((error.task, error.index), (3, -1))

    def test_fields_are_needed(self):
        for name in FIELDS:
            with self.subTest(name), self.assertRaises(TypeError):
                getattr(errors, name)()
        with self.assertRaises(TypeError):
            errors.NoProgram(1)


if __name__ == "__main__":
    unittest.main()
