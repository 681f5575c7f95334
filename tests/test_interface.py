"""That each name of the interface is defined in its file, with its arguments."""

import ast
import pathlib
import unittest

PACKAGE = pathlib.Path(__file__).parent.parent / "hearkenway"

FUNCTIONS = {
    "nets": {
        "is_net": ["thing"],
        "is_tree": ["net", "root", "ahead"],
        "is_trim": ["net", "root", "hearers", "ahead"],
        "price": ["net", "root", "ahead"],
        "lateness": ["net", "root", "ahead"],
    },
    "early": {
        "earliest": ["net", "root"],
        "ways": ["net", "root"],
        "are_earliest": ["net", "root", "numbers"],
        "is_closed": ["net", "root", "places"],
    },
    "cheapest": {
        "cheapest": ["net", "root", "hearers"],
        "is_table": ["net", "hearers", "table"],
        "shows": ["net", "root", "hearers", "table", "number"],
    },
    "ontime": {
        "on_time": ["net", "root"],
        "is_on_time": ["net", "root", "hearers", "ahead"],
        "cheapest_on_time": ["net", "root", "hearers"],
    },
    "bargains": {
        "bargains": ["net", "root"],
        "way_for": ["net", "root", "place", "pair"],
        "are_bargains": ["net", "root", "table"],
        "cheapest_within": ["net", "root", "place", "late"],
    },
    "grafts": {
        "graft": ["net", "root", "ahead", "place"],
        "are_prices": ["net", "root", "ahead", "numbers"],
        "cut": ["net", "root", "hearers", "ahead"],
    },
}


def defined_functions(module):
    tree = ast.parse((PACKAGE / f"{module}.py").read_text())
    return {
        part.name: [argument.arg for argument in part.args.args]
        for part in tree.body
        if isinstance(part, ast.FunctionDef)
    }


class InterfaceTest(unittest.TestCase):
    def test_each_function_is_defined_in_its_file_with_its_arguments(self):
        for module, functions in FUNCTIONS.items():
            defined = defined_functions(module)
            for name, arguments in functions.items():
                with self.subTest(f"{module}.{name}"):
                    self.assertEqual(defined.get(name), arguments)
