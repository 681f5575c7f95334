"""That each name of the interface is defined in its file, with its arguments."""

import ast
import pathlib
import unittest

PACKAGE = pathlib.Path(__file__).parent.parent / "hearkenway"

FUNCTIONS = {
    "nets": {
        "is_net": ["thing"],
        "is_tree": ["net", "root", "ahead"],
        "is_trim": ["net", "root", "hearers", "ahead"],
        "price": ["net", "root", "ahead"],
        "lateness": ["net", "root", "ahead"],
    },
    "early": {
        "earliest": ["net", "root"],
        "ways": ["net", "root"],
        "are_earliest": ["net", "root", "numbers"],
        "is_closed": ["net", "root", "places"],
    },
    "cheapest": {
        "cheapest": ["net", "root", "hearers"],
        "is_table": ["net", "hearers", "table"],
        "shows": ["net", "root", "hearers", "table", "number"],
    },
    "ontime": {
        "on_time": ["net", "root"],
        "is_on_time": ["net", "root", "hearers", "ahead"],
        "cheapest_on_time": ["net", "root", "hearers"],
    },
    "bargains": {
        "bargains": ["net", "root"],
        "way_for": ["net", "root", "place", "pair"],
        "are_bargains": ["net", "root", "table"],
        "cheapest_within": ["net", "root", "place", "late"],
    },
    "grafts": {
        "graft": ["net", "root", "ahead", "place"],
        "are_prices": ["net", "root", "ahead", "numbers"],
        "cut": ["net", "root", "hearers", "ahead"],
    },
    "everywhere": {
        "everywhere": ["net", "root"],
        "are_weights": ["net", "root", "weights"],
        "shows_everywhere": ["net", "root", "weights", "number"],
    },
    "hearing": {
        "are_ways": ["thing"],
    },
    "weaving": {
        "played": ["up", "deeds"],
        "at_rest": ["up", "deeds"],
        "are_stays": ["up", "deeds", "stays"],
        "rise": ["stays"],
    },
    "bent": {
        "tried": ["up", "manner", "comes", "emits", "number"],
        "breaks": ["up", "manner", "comes", "emits", "deeds"],
    },
    "moments": {
        "heard": ["up", "late", "events"],
        "first_moments": ["up", "late", "comes"],
    },
    "roots": {
        "next_root": ["kept", "row"],
        "mend": ["net", "kept", "wants"],
        "send_net": ["net", "kept", "number"],
        "is_send": ["net", "kept", "wants", "number", "ahead"],
    },
    "nettexts": {
        "show_net": ["net"],
        "read_net": ["text"],
    },
}

# The methods of each class, by its file and name; __init__ for what it is begun with.
CLASSES = {
    ("hearing", "Hearing"): {
        "__init__": ["up"],
        "do": ["deed"],
        "hearers": [],
        "serves": ["place"],
        "needed": ["place"],
        "waiting": ["place"],
        "stays": ["place"],
        "letters": [],
        "copies": [],
    },
    ("desk", "Desk"): {
        "__init__": [],
        "say": ["row"],
    },
}


def body_of(module):
    return ast.parse((PACKAGE / f"{module}.py").read_text()).body


def defined_in(body):
    """Each function or method that stands right in a body, with its arguments."""
    return {
        part.name: [argument.arg for argument in part.args.args] for part in body if isinstance(part, ast.FunctionDef)
    }


class InterfaceTest(unittest.TestCase):
    def test_each_function_is_defined_in_its_file_with_its_arguments(self):
        for module, functions in FUNCTIONS.items():
            defined = defined_in(body_of(module))
            for name, arguments in functions.items():
                with self.subTest(f"{module}.{name}"):
                    self.assertEqual(defined.get(name), arguments)

    def test_each_method_is_defined_in_its_class_with_its_arguments(self):
        for (module, name), methods in CLASSES.items():
            bodies = [part.body for part in body_of(module) if isinstance(part, ast.ClassDef) and part.name == name]
            self.assertEqual(len(bodies), 1)
            defined = defined_in(bodies[0])
            for method, arguments in methods.items():
                with self.subTest(f"{module}.{name}.{method}"):
                    self.assertEqual(defined.get(method), ["self", *arguments])
