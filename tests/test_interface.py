"""The interface: each name is defined in its file, with its arguments by their places."""

import importlib
import inspect
import pathlib
import unittest

FUNCTIONS = {
    "swapmart.wholes": {"is_whole": ["thing"], "shared": ["one", "other"], "round_by": ["many", "size"]},
    "swapmart.purses": {
        "plus": ["one", "other"],
        "less": ["one", "other"],
        "taken": ["purse", "many"],
        "mixed": ["counts", "purses", "k"],
        "weighed": ["purse", "weights"],
    },
    "swapmart.stairs": {"stair": ["rows", "k"], "with_counts": ["rows", "k"]},
    "swapmart.rungs": {"led": ["rungs", "purse"], "is_made": ["rungs", "purse"], "is_stair": ["rows"]},
    "swapmart.papers": {"same": ["mart", "one", "other"], "holds": ["mart", "one", "other", "paper"]},
    "swapmart.worths": {"plain": ["mart", "purse"], "span": ["mart", "purse"]},
    "swapmart.wheels": {
        "wheels": ["mart"],
        "readings": ["told", "purse"],
        "purse_of": ["told", "numbers", "k"],
    },
    "swapmart.counts": {"many_worths": ["mart"], "all_worths": ["mart"]},
    "swapmart.stocks": {"stock": ["mart", "purses"], "within": ["mart", "purses", "purse"]},
    "swapmart.meets": {
        "joined": ["one", "other", "k"],
        "met": ["one", "other", "k"],
        "lies_in": ["inner", "outer", "k"],
        "beside": ["inner", "outer", "k"],
    },
    "swapmart.tariffs": {
        "sent": ["tariff", "purse", "l"],
        "goes": ["mart", "other_mart", "tariff"],
        "behind": ["first", "second", "l"],
    },
    "swapmart.losses": {"lost": ["mart", "other_mart", "tariff"], "come_to": ["mart", "other_mart", "tariff"]},
    "swapmart.alike": {"alike": ["mart", "other_mart"]},
    "swapmart.splits": {"split_off": ["mart", "purses"]},
    "swapmart.dials": {"round_of": ["mart"], "silent": ["mart", "purses"], "hushed": ["mart", "dials"]},
    "swapmart.texts": {"read": ["text"], "shown": ["pairs"]},
}


class TestInterface(unittest.TestCase):

    def test_each_function_is_defined_in_its_file(self):
        for module, functions in FUNCTIONS.items():
            for name, arguments in functions.items():
                with self.subTest(module, name=name):
                    function = getattr(importlib.import_module(module), name)
                    self.assertTrue(inspect.isfunction(function))
                    self.assertEqual((function.__module__, function.__name__), (module, name))
                    parameters = list(inspect.signature(function).parameters.values())
                    self.assertEqual([parameter.name for parameter in parameters], arguments)
                    for parameter in parameters:
                        self.assertIs(parameter.default, parameter.empty)
                        self.assertEqual(parameter.kind, parameter.POSITIONAL_OR_KEYWORD)

    def test_the_desk_is_defined_in_its_file(self):
        desk = getattr(importlib.import_module("swapmart.desk"), "Desk")
        self.assertTrue(inspect.isclass(desk))
        self.assertEqual((desk.__module__, desk.__name__), ("swapmart.desk", "Desk"))
        self.assertEqual(list(inspect.signature(desk).parameters), [])
        self.assertTrue(inspect.isfunction(vars(desk)["say"]))
        self.assertEqual(list(inspect.signature(desk.say).parameters), ["self", "row"])


class TestFiles(unittest.TestCase):

    def files(self):
        folder = pathlib.Path(importlib.import_module("swapmart").__file__).parent
        return [path for path in sorted(folder.iterdir()) if path.name != "__pycache__"]

    def test_the_package_holds_only_its_files(self):
        self.assertIn("__init__.py", [path.name for path in self.files()])
        for path in self.files():
            self.assertTrue(path.is_file() and path.suffix == ".py", path.name)
            self.assertFalse(path.name.startswith("test"), path.name)

    def test_sizes_and_signs(self):
        for path in self.files():
            rows = path.read_text(encoding="utf-8").split("\n")
            self.assertLess(len(rows), 400, path.name)
            for at, row in enumerate(rows, start=1):
                with self.subTest(path.name, row=at):
                    self.assertLessEqual(len(row), 120)
                    self.assertTrue(all(" " <= sign <= "~" for sign in row))


if __name__ == "__main__":
    unittest.main()
