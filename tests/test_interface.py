import importlib
import inspect
import unittest

ARGUMENTS = {
    "cloths": {
        "is_cloth": "thing", "is_carpet": "thing", "size_of": "cloth", "beside": "one other", "above": "one other",
        "across": "cloth many", "down": "cloth many", "knot": "carpet r c", "stretch": "carpet place rows knots",
        "read_cloth": "text", "shown_cloth": "cloth", "turned": "cloth way",
    },
    "colours": {
        "dyed_two": "cloth one other", "colours_of": "cloth", "knots_by_colour": "cloth", "unlike": "one other",
    },
    "movements": {
        "is_movement": "side thing", "all_movements": "side", "led": "side movement place", "then": "side one other",
        "taken_back": "side movement", "order_of": "side movement", "moved": "carpet movement", "ways_table": "",
    },
}


class Interface(unittest.TestCase):
    def test_names_and_arguments(self):
        for module, functions in ARGUMENTS.items():
            found = importlib.import_module("carpetkin." + module)
            for name, arguments in functions.items():
                with self.subTest(module + "." + name):
                    self.assertEqual(list(inspect.signature(getattr(found, name)).parameters), arguments.split())


if __name__ == "__main__":
    unittest.main()
