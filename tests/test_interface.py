import inspect
import pathlib
import unittest

import forkstamp
from forkstamp import deeds, hands, owns, packing, stamps, tolds

INTERFACE = {
    owns: {
        "is_own": ["thing"],
        "is_least_own": ["thing"],
        "least_own": ["own"],
        "parted": ["own"],
        "together": ["one", "other"],
        "shares": ["one", "other"],
    },
    tolds: {
        "is_told": ["thing"],
        "is_least_told": ["thing"],
        "least_told": ["told"],
        "told_least": ["told"],
        "told_greatest": ["told"],
        "at_most": ["one", "other"],
        "joined": ["one", "other"],
    },
    deeds: {
        "filled": ["own", "told"],
        "grown": ["own", "told"],
        "raised": ["own", "told"],
    },
    packing: {
        "packed": ["stamp"],
        "unpacked": ["row"],
    },
}

CLASSES = {
    stamps.Stamp: (stamps, {
        "__init__": ["self", "own", "told"],
        "fork": ["self"],
        "joined": ["self", "other"],
        "deed": ["self"],
        "learnt": ["self", "other"],
        "is_at_most": ["self", "other"],
    }),
    hands.Hands: (hands, {
        "__init__": ["self"],
        "fork": ["self", "hand"],
        "deed": ["self", "hand"],
        "join": ["self", "hand", "other"],
        "tell": ["self", "hand", "other"],
        "stamp": ["self", "hand"],
        "hands": ["self"],
        "compared": ["self", "hand", "other"],
    }),
}


class InterfaceTest(unittest.TestCase):
    def test_each_function_stands_in_its_file_with_its_arguments(self):
        for module, functions in INTERFACE.items():
            for name, arguments in functions.items():
                with self.subTest(name=name):
                    function = getattr(module, name)
                    self.assertEqual(function.__module__, module.__name__)
                    self.assertEqual(list(inspect.signature(function).parameters), arguments)

    def test_each_class_stands_in_its_file_with_its_own_methods(self):
        for made, (module, methods) in CLASSES.items():
            self.assertEqual(made.__module__, module.__name__)
            for name, arguments in methods.items():
                with self.subTest(name=name):
                    self.assertIn(name, vars(made))
                    self.assertEqual(list(inspect.signature(vars(made)[name]).parameters), arguments)

    def test_a_stamp_has_its_defaults_and_its_fields(self):
        given = inspect.signature(stamps.Stamp).parameters
        self.assertEqual((given["own"].default, given["told"].default), (1, 0))
        self.assertEqual(vars(stamps.Stamp()), {"own": 1, "told": 0})

    def test_the_package_folder_holds_its_files_and_nothing_else(self):
        folder = pathlib.Path(forkstamp.__file__).parent
        others = [path.name for path in folder.iterdir() if path.suffix != ".py" and path.name != "__pycache__"]
        self.assertEqual(others, [])
