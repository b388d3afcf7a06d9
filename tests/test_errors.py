"""[0.7]: the error classes."""

import unittest

from unmetcells import errors
from unmetcells.errors import CallError

ATTRIBUTES = {
    "BadBook": ("what",), "BadHistory": ("index",), "BadText": ("place",), "TooMany": ("most",),
    "BadStanding": (), "BadCall": (), "BadAnswer": (), "BadTrail": ("index",), "BadLength": (),
    "UnlikeCalls": (), "NotLooser": ("trail",), "BadCover": ("index",), "BadScripts": ("hand", "what"),
    "BadPast": (), "NoTurn": ("hand",), "BadDepth": (), "BadJoint": (), "BadMost": ("most",),
    "BadCalls": ("index",), "BadLot": ("index",), "NotSafe": (), "IsSafe": (), "BadHand": (),
    "BadAsks": ("index",), "NotHad": ("barred",), "BadForeign": ("hand", "call", "what"),
    "BadHands": ("hands",), "BadLots": ("hand",), "NotPlain": (), "BadState": ("state",),
    "HasFull": ("scripts",), "BadSeams": (), "NoStretch": ("stretch",), "NoCounts": (), "NotRight": (),
    "BadPool": ("index", "what"), "BadEdit": ("index", "what"), "BadGoal": ("index",), "NothingDone": (),
}


class TestErrors(unittest.TestCase):

    def test_the_list_is_whole(self):
        found = {name for name in vars(errors) if isinstance(getattr(errors, name), type)}
        self.assertEqual(found, set(ATTRIBUTES) | {"CallError"})

    def test_call_error_stands_directly_under_value_error(self):
        self.assertEqual(CallError.__bases__, (ValueError,))

    def test_each_stands_directly_under_call_error(self):
        for name in ATTRIBUTES:
            self.assertEqual(getattr(errors, name).__bases__, (CallError,), name)

    def test_attributes_in_their_order(self):
        for name, attributes in ATTRIBUTES.items():
            things = [object() for _ in attributes]
            error = getattr(errors, name)(*things)
            self.assertEqual(vars(error), dict(zip(attributes, things)), name)

    def test_attributes_by_name(self):
        for name, attributes in ATTRIBUTES.items():
            things = {attribute: object() for attribute in attributes}
            self.assertEqual(vars(getattr(errors, name)(**things)), things, name)

    def test_no_more_and_no_fewer_arguments(self):
        for name, attributes in ATTRIBUTES.items():
            if attributes:
                with self.assertRaises(TypeError):
                    getattr(errors, name)(*range(len(attributes) - 1))
                with self.assertRaises(TypeError):
                    getattr(errors, name)(*range(len(attributes) + 1))

    def test_no_other_class_catches_it(self):
        for name, attributes in ATTRIBUTES.items():
            error = getattr(errors, name)(*range(len(attributes)))
            catching = [other for other in ATTRIBUTES if isinstance(error, getattr(errors, other))]
            self.assertEqual(catching, [name])
            self.assertIsInstance(error, CallError)
            self.assertIsInstance(error, ValueError)
