"""The interface: names, files, arguments."""

import unittest
from importlib import import_module
from inspect import Parameter, isclass, isfunction, signature

FUNCTIONS = {
    "rooms": {"rooms": ["guests"], "sizes": ["guests"], "in_first": ["guests", "j"],
              "upset": ["guests", "arrangement"]},
    "best": {"sent_away": ["guests", "j"], "is_best": ["guests", "arrangement"], "pairs": ["guests"],
             "one_more": ["guests", "age", "patience"]},
    "crowds": {"crowd_sizes": ["crowds"], "crowd_in_first": ["crowds", "j"], "room_of": ["crowds", "m"]},
    "kept": {"kept": ["crowds", "n"], "parting": ["one", "other"]},
    "texts": {"show_guests": ["guests"], "show_crowds": ["crowds"], "show_rooms": ["rooms"]},
    "readings": {"read_guests": ["text"], "read_crowds": ["text"], "read_rooms": ["text"]},
}
CLASSES = {
    "errors": {"InnError": {}, "NoGuest": {"__init__": ["self", "what"]},
               "NoRooms": {"__init__": ["self", "what"]}, "NoRoom": {"__init__": ["self", "what"]},
               "NoCrowd": {"__init__": ["self", "what"]}, "NoText": {"__init__": ["self", "what"]}},
    "inns": {"Inn": {"__init__": ["self"], "come": ["self", "age", "patience"], "go": ["self", "age"],
                     "turn": ["self", "age", "patience"], "guests": ["self"], "rooms": ["self"],
                     "where": ["self", "age"], "__len__": ["self"], "__eq__": ["self", "other"],
                     "__ne__": ["self", "other"]}},
}


class Interface(unittest.TestCase):
    def assert_arguments(self, function, names):
        told = signature(function).parameters
        self.assertEqual(list(told), names)
        for parameter in told.values():
            self.assertEqual(parameter.kind, Parameter.POSITIONAL_OR_KEYWORD)
            self.assertIs(parameter.default, Parameter.empty)

    def test_functions(self):
        for file, functions in FUNCTIONS.items():
            module = import_module("elderinn." + file)
            for name, arguments in functions.items():
                function = getattr(module, name)
                self.assertTrue(isfunction(function))
                self.assertEqual(function.__module__, module.__name__)
                self.assert_arguments(function, arguments)

    def test_classes(self):
        for file, classes in CLASSES.items():
            module = import_module("elderinn." + file)
            for name, methods in classes.items():
                told = getattr(module, name)
                self.assertTrue(isclass(told))
                self.assertEqual(told.__module__, module.__name__)
                for method, arguments in methods.items():
                    self.assert_arguments(vars(told)[method], arguments)


if __name__ == "__main__":
    unittest.main()
