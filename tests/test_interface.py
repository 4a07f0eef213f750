"""The interface: each name is defined in the file under which it is listed."""

import importlib
import inspect
import unittest

FUNCTIONS = {
    "ties": {"rounds": 3, "least": 4, "shows": 5},
    "judging": {"judged": 1},
    "plays": {"played": 2, "written": 1, "read": 1},
}
METHODS = {
    ("house", "House"): {"__init__": 2, "tie": 1, "untie": 1, "day": 1, "call_back": 1, "write": 2,
                         "notes": 0, "came": 0, "letters": 0, "hear": 1, "copies": 0},
    ("world", "World"): {"__init__": 1, "do": 1, "shown": 0, "log": 0, "waits": 0},
}


def defined(file, name):
    module = importlib.import_module("newsflood." + file)
    found = getattr(module, name)
    return found, found.__module__ == module.__name__


class Interface(unittest.TestCase):
    def test_functions(self):
        for file, names in FUNCTIONS.items():
            for name, count in names.items():
                with self.subTest(name):
                    found, here = defined(file, name)
                    self.assertTrue(here and inspect.isfunction(found))
                    self.assertEqual(len(inspect.signature(found).parameters), count)

    def test_classes_and_their_methods(self):
        for (file, name), methods in METHODS.items():
            found, here = defined(file, name)
            self.assertTrue(here and inspect.isclass(found))
            for method, count in methods.items():
                with self.subTest(method):
                    parameters = inspect.signature(vars(found)[method]).parameters
                    self.assertEqual(len(parameters), count + 1)


if __name__ == "__main__":
    unittest.main()
