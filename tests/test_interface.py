"""The interface: names, parameters, and the file in which each name is defined."""

import importlib
import inspect
import unittest

FUNCTIONS = {
    "histories": {"check_history": "book history", "calls_of": "history", "asks_made": "history",
                  "hands_of": "history", "part_of": "history hand"},
    "besides": {"beside": "one other", "parted_history": "one other history"},
    "booktexts": {"book_text": "book", "read_book": "text", "history_text": "history", "read_history": "book text"},
    "standings": {"check_standing": "book standing", "standing_of": "book history", "is_right": "book history",
                  "wrong_at": "book history", "onward": "book standing call answer",
                  "answers_at": "book standing call", "check_trail": "book trail",
                  "onward_trail": "book standing trail", "is_plain": "book"},
    "likeness": {"parted_by": "book one other", "alike_states": "book", "looser_states": "book",
                 "count_trails": "book standing length", "merged_states": "book", "merged_book": "book"},
    "covers": {"looser_fault": "one other", "cover_fault": "one other cover", "cover_of": "one other"},
    "scripts": {"check_scripts": "book scripts", "turns_of": "script", "script_behind": "script turn",
                "script_depth": "script", "cut_script": "script depth", "entries_of": "wish hand turn",
                "alone_fault": "wish", "cut_down": "wish depth", "without_hand": "wish hand"},
}

CLASSES = {
    "books": {"Book": "states calls ways"},
    "scripts": {"Wish": "book past scripts"},
}

METHODS = {
    ("books", "Book"): {"steps_from": "self state call", "with_way": "self way", "without_way": "self way",
                        "__iter__": "self", "__len__": "self", "__contains__": "self way", "__eq__": "self other"},
    ("scripts", "Wish"): {"__eq__": "self other"},
}


def module_of(name):
    return importlib.import_module("unmetcells." + name)


def parameters(thing):
    """The names of the parameters, in order; none has a default here."""
    found = inspect.signature(thing).parameters
    if any(parameter.default is not parameter.empty for parameter in found.values()):
        return None
    return " ".join(found)


class TestInterface(unittest.TestCase):

    def test_functions(self):
        for name, functions in FUNCTIONS.items():
            for function, wanted in functions.items():
                found = getattr(module_of(name), function)
                self.assertTrue(inspect.isfunction(found), function)
                self.assertEqual(found.__module__, "unmetcells." + name)
                self.assertEqual(parameters(found), wanted, function)

    def test_classes(self):
        for name, classes in CLASSES.items():
            for kind, wanted in classes.items():
                found = getattr(module_of(name), kind)
                self.assertTrue(inspect.isclass(found), kind)
                self.assertEqual(found.__module__, "unmetcells." + name)
                self.assertEqual(parameters(found), wanted, kind)

    def test_methods_stand_in_the_class_itself(self):
        for (name, kind), methods in METHODS.items():
            found = vars(getattr(module_of(name), kind))
            for method, wanted in methods.items():
                self.assertEqual(parameters(found[method]), wanted, method)

    def test_property(self):
        self.assertIsInstance(vars(module_of("books").Book)["answers"], property)

    def test_errors_are_defined_in_their_file(self):
        errors = module_of("errors")
        for name, thing in vars(errors).items():
            if inspect.isclass(thing):
                self.assertEqual(thing.__module__, "unmetcells.errors", name)
