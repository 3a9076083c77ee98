import inspect
import pathlib
import unittest

import forkstamp
from forkstamp import owns, tolds

INTERFACE = {
    owns: {
        "is_own": ["thing"],
        "is_least_own": ["thing"],
        "least_own": ["own"],
        "parted": ["own"],
        "together": ["one", "other"],
        "shares": ["one", "other"],
    },
    tolds: {
        "is_told": ["thing"],
        "is_least_told": ["thing"],
        "least_told": ["told"],
        "told_least": ["told"],
        "told_greatest": ["told"],
        "at_most": ["one", "other"],
        "joined": ["one", "other"],
    },
}


class InterfaceTest(unittest.TestCase):
    def test_each_function_stands_in_its_file_with_its_arguments(self):
        for module, functions in INTERFACE.items():
            for name, arguments in functions.items():
                with self.subTest(name=name):
                    function = getattr(module, name)
                    self.assertEqual(function.__module__, module.__name__)
                    self.assertEqual(list(inspect.signature(function).parameters), arguments)

    def test_the_package_folder_holds_its_files_and_nothing_else(self):
        folder = pathlib.Path(forkstamp.__file__).parent
        others = [path.name for path in folder.iterdir() if path.suffix != ".py" and path.name != "__pycache__"]
        self.assertEqual(others, [])
