"""The interface: names, parameters, and the file in which each name is defined."""

import importlib
import inspect
import unittest

FUNCTIONS = {
    "histories": {"check_history": "book history", "calls_of": "history", "asks_made": "history",
                  "hands_of": "history", "part_of": "history hand"},
    "besides": {"beside": "one other", "parted_history": "one other history"},
    "booktexts": {"book_text": "book", "read_book": "text", "history_text": "history", "read_history": "book text"},
    "standings": {"check_standing": "book standing", "standing_of": "book history", "is_right": "book history",
                  "wrong_at": "book history", "onward": "book standing call answer",
                  "answers_at": "book standing call", "check_trail": "book trail",
                  "onward_trail": "book standing trail", "is_plain": "book"},
    "likeness": {"parted_by": "book one other", "alike_states": "book", "looser_states": "book",
                 "count_trails": "book standing length", "merged_states": "book", "merged_book": "book"},
    "covers": {"looser_fault": "one other", "cover_fault": "one other cover", "cover_of": "one other"},
    "scripts": {"check_scripts": "book scripts", "turns_of": "script", "script_behind": "script turn",
                "script_depth": "script", "cut_script": "script depth", "entries_of": "wish hand turn",
                "alone_fault": "wish", "cut_down": "wish depth", "without_hand": "wish hand"},
    "cuts": {"cut_size": "cut", "cuts_of": "wish", "check_cut": "wish cut", "heads_at": "wish cut",
             "cut_with": "cut hand call", "weaving_count": "cut", "weavings_at": "wish cut"},
    "joints": {"trimmed": "standings", "check_joint": "book joint", "joint_at": "wish cut", "standings_at": "wish cut",
               "joint_onward": "book joint call answer", "joints_of": "wish"},
    "wishtexts": {"wish_text": "wish", "read_wish": "text"},
    "safety": {"joints_from": "book joint most=300", "is_safe": "book joint", "safe_joints": "book joint",
               "rank_of": "book joint", "kept_answer": "book joint call", "kept_run": "book joint calls",
               "kept_lot": "book joint", "lot_fault": "book joint lot"},
    "foes": {"plan_fault": "book joint plan", "foe_plan": "book joint", "wish_fault": "wish", "is_had": "wish"},
    "steps": {"check_ask": "calls hand call", "check_asks": "calls asks", "do_step": "program cells hand call",
              "run_program": "program asks cells=None", "meeting_of": "one other", "meetings_in": "run begin=0"},
    "rightness": {"program_fault": "book program hands=10"},
}

CLASSES = {
    "books": {"Book": "states calls ways"},
    "scripts": {"Wish": "book past scripts"},
    "foes": {"Barred": "cut joint plan"},
    "steps": {"Run": "entries marks cells"},
    "programs": {"UnmetProgram": "wish"},
    "foreign": {"Foreign": "sizes rows"},
}

METHODS = {
    ("books", "Book"): {"steps_from": "self state call", "with_way": "self way", "without_way": "self way",
                        "__iter__": "self", "__len__": "self", "__contains__": "self way", "__eq__": "self other"},
    ("scripts", "Wish"): {"__eq__": "self other"},
    ("foes", "Barred"): {"__eq__": "self other"},
    ("steps", "Run"): {"__eq__": "self other"},
    ("programs", "UnmetProgram"): {"first_cells": "self", "step": "self read write hand call", "heard": "self read"},
    ("foreign", "Foreign"): {"first_cells": "self", "step": "self read write hand call", "__eq__": "self other"},
}

PROPERTIES = {("books", "Book"): "answers", ("steps", "Run"): "answers"}

GENERATORS = {"joints_of"}


def module_of(name):
    return importlib.import_module("unmetcells." + name)


def parameters(thing):
    """The parameters, in order, with their defaults."""
    return " ".join(str(parameter) for parameter in inspect.signature(thing).parameters.values())


class TestInterface(unittest.TestCase):

    def test_functions(self):
        for name, functions in FUNCTIONS.items():
            for function, wanted in functions.items():
                found = getattr(module_of(name), function)
                self.assertTrue(inspect.isfunction(found), function)
                self.assertEqual(found.__module__, "unmetcells." + name)
                self.assertEqual(parameters(found), wanted, function)
                self.assertEqual(inspect.isgeneratorfunction(found), function in GENERATORS, function)

    def test_classes(self):
        for name, classes in CLASSES.items():
            for kind, wanted in classes.items():
                found = getattr(module_of(name), kind)
                self.assertTrue(inspect.isclass(found), kind)
                self.assertEqual(found.__module__, "unmetcells." + name)
                self.assertEqual(parameters(found), wanted, kind)

    def test_methods_stand_in_the_class_itself(self):
        for (name, kind), methods in METHODS.items():
            found = vars(getattr(module_of(name), kind))
            for method, wanted in methods.items():
                self.assertEqual(parameters(found[method]), wanted, method)

    def test_properties(self):
        for (name, kind), wanted in PROPERTIES.items():
            self.assertIsInstance(vars(getattr(module_of(name), kind))[wanted], property, kind)

    def test_errors_are_defined_in_their_file(self):
        errors = module_of("errors")
        for name, thing in vars(errors).items():
            if inspect.isclass(thing):
                self.assertEqual(thing.__module__, "unmetcells.errors", name)
