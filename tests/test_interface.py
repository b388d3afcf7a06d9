"""The interface: names, parameters, and the file in which each name is defined."""

import importlib
import inspect
import unittest

FUNCTIONS = {
    "histories": {"check_history": "book history", "calls_of": "history", "asks_made": "history",
                  "hands_of": "history", "part_of": "history hand"},
    "besides": {"beside": "one other", "parted_history": "one other history"},
    "booktexts": {"book_text": "book", "read_book": "text", "history_text": "history", "read_history": "book text"},
    "standings": {"check_standing": "book standing", "standing_of": "book history", "is_right": "book history",
                  "wrong_at": "book history", "onward": "book standing call answer",
                  "answers_at": "book standing call", "check_trail": "book trail",
                  "onward_trail": "book standing trail", "is_plain": "book"},
    "likeness": {"parted_by": "book one other", "alike_states": "book", "looser_states": "book",
                 "count_trails": "book standing length", "merged_states": "book", "merged_book": "book"},
    "covers": {"looser_fault": "one other", "cover_fault": "one other cover", "cover_of": "one other"},
    "scripts": {"check_scripts": "book scripts", "turns_of": "script", "script_behind": "script turn",
                "script_depth": "script", "cut_script": "script depth", "entries_of": "wish hand turn",
                "alone_fault": "wish", "cut_down": "wish depth", "without_hand": "wish hand"},
    "cuts": {"cut_size": "cut", "cuts_of": "wish", "check_cut": "wish cut", "heads_at": "wish cut",
             "cut_with": "cut hand call", "weaving_count": "cut", "weavings_at": "wish cut"},
    "joints": {"trimmed": "standings", "check_joint": "book joint", "joint_at": "wish cut", "standings_at": "wish cut",
               "joint_onward": "book joint call answer", "joints_of": "wish"},
    "wishtexts": {"wish_text": "wish", "read_wish": "text"},
    "safety": {"joints_from": "book joint most=300", "is_safe": "book joint", "safe_joints": "book joint",
               "rank_of": "book joint", "kept_answer": "book joint call", "kept_run": "book joint calls",
               "kept_lot": "book joint", "lot_fault": "book joint lot"},
    "foes": {"plan_fault": "book joint plan", "foe_plan": "book joint", "wish_fault": "wish", "is_had": "wish"},
    "steps": {"check_ask": "calls hand call", "check_asks": "calls asks", "do_step": "program cells hand call",
              "run_program": "program asks cells=None", "meeting_of": "one other", "meetings_in": "run begin=0"},
    "rightness": {"program_fault": "book program hands=10"},
    "meetings": {"exchange": "program cells one other", "meet_fault": "foreign past lots",
                 "scripts_of": "program past lots depth"},
    "keeping": {"kept_fault": "wish program"},
    "heads": {"plain_state": "wish cut", "heads_fault": "wish", "pass_at": "book state one other", "passing_calls": "book"},
    "stretches": {"check_seams": "book history seams", "stretches_of": "book history seams",
                  "counts_of": "book history seams stretch", "stretch_joint": "book history seams stretch counts",
                  "stretch_fault": "book history seams", "all_partings": "book history",
                  "coarsest_partings": "book history", "fewest_stretches": "book history",
                  "woven_rows": "book history seams"},
    "fullwish": {"full_places": "book hands depth", "full_wish": "book past hands depth",
                 "full_refusal": "book past hands depth", "full_refusal_fault": "book past hands depth refusal",
                 "deepest": "book past hands most"},
    "loosen": {"check_pool": "book pool", "loosened": "book lot", "loosened_wish": "wish lot", "loosenings": "wish pool",
               "firm_lots": "wish pool", "loosen_fault": "wish lot"},
    "edits": {"edited": "wish edits"},
    "bench": {"check_goals": "book goals", "is_met": "wish goal"},
}

CLASSES = {
    "books": {"Book": "states calls ways"},
    "scripts": {"Wish": "book past scripts"},
    "foes": {"Barred": "cut joint plan"},
    "steps": {"Run": "entries marks cells"},
    "programs": {"UnmetProgram": "wish"},
    "foreign": {"Foreign": "sizes rows"},
    "meetings": {"Exchange": "ahead behind meets"},
    "keeping": {"Past": "index", "Unlike": "cut hand call", "Meets": "cut one other cell"},
    "heads": {"Clash": "cut heads what trail"},
    "stretches": {"BarredStretch": "stretch counts joint plan", "Parting": "seams joints"},
    "stretchprogram": {"StretchProgram": "book history seams"},
    "loosen": {"Needless": "way"},
    "bench": {"Trial": "wish met won lost", "Bench": "wish goals=()"},
}

METHODS = {
    ("books", "Book"): {"steps_from": "self state call", "with_way": "self way", "without_way": "self way",
                        "__iter__": "self", "__len__": "self", "__contains__": "self way", "__eq__": "self other"},
    ("scripts", "Wish"): {"__eq__": "self other"},
    ("foes", "Barred"): {"__eq__": "self other"},
    ("steps", "Run"): {"__eq__": "self other"},
    ("programs", "UnmetProgram"): {"first_cells": "self", "step": "self read write hand call", "heard": "self read"},
    ("foreign", "Foreign"): {"first_cells": "self", "step": "self read write hand call", "__eq__": "self other"},
    ("meetings", "Exchange"): {"__eq__": "self other"},
    ("keeping", "Past"): {"__eq__": "self other"},
    ("keeping", "Unlike"): {"__eq__": "self other"},
    ("keeping", "Meets"): {"__eq__": "self other"},
    ("heads", "Clash"): {"__eq__": "self other"},
    ("stretches", "BarredStretch"): {"__eq__": "self other"},
    ("stretches", "Parting"): {"__eq__": "self other"},
    ("stretchprogram", "StretchProgram"): {"first_cells": "self", "step": "self read write hand call", "heard": "self read"},
    ("loosen", "Needless"): {"__eq__": "self other"},
    ("bench", "Trial"): {"__eq__": "self other"},
    ("bench", "Bench"): {"goals_met": "self", "do": "self edits", "take_back": "self", "trial": "self edits"},
}

PROPERTIES = {("books", "Book"): "answers", ("steps", "Run"): "answers"}

GENERATORS = {"joints_of", "woven_rows"}


def module_of(name):
    return importlib.import_module("unmetcells." + name)


def parameters(thing):
    """The parameters, in order, with their defaults."""
    return " ".join(str(parameter) for parameter in inspect.signature(thing).parameters.values())


class TestInterface(unittest.TestCase):

    def test_functions(self):
        for name, functions in FUNCTIONS.items():
            for function, wanted in functions.items():
                found = getattr(module_of(name), function)
                self.assertTrue(inspect.isfunction(found), function)
                self.assertEqual(found.__module__, "unmetcells." + name)
                self.assertEqual(parameters(found), wanted, function)
                self.assertEqual(inspect.isgeneratorfunction(found), function in GENERATORS, function)

    def test_classes(self):
        for name, classes in CLASSES.items():
            for kind, wanted in classes.items():
                found = getattr(module_of(name), kind)
                self.assertTrue(inspect.isclass(found), kind)
                self.assertEqual(found.__module__, "unmetcells." + name)
                self.assertEqual(parameters(found), wanted, kind)

    def test_methods_stand_in_the_class_itself(self):
        for (name, kind), methods in METHODS.items():
            found = vars(getattr(module_of(name), kind))
            for method, wanted in methods.items():
                self.assertEqual(parameters(found[method]), wanted, method)

    def test_properties(self):
        for (name, kind), wanted in PROPERTIES.items():
            self.assertIsInstance(vars(getattr(module_of(name), kind))[wanted], property, kind)

    def test_every_module_is_here(self):
        listed = set(FUNCTIONS) | set(CLASSES) | {"errors"}
        self.assertEqual(len(listed), 27)
        for name in listed:
            self.assertEqual(module_of(name).__name__, "unmetcells." + name)

    def test_classes_that_have_an_own_equality(self):
        for name, classes in CLASSES.items():
            for kind in classes:
                own = "__eq__" in vars(getattr(module_of(name), kind))
                self.assertIs(own, "__eq__" in METHODS.get((name, kind), {}), kind)

    def test_errors_are_defined_in_their_file(self):
        errors = module_of("errors")
        for name, thing in vars(errors).items():
            if inspect.isclass(thing):
                self.assertEqual(thing.__module__, "unmetcells.errors", name)
