import importlib
import inspect
import unittest

ARGUMENTS = {
    "cloths": {
        "is_cloth": "thing", "is_carpet": "thing", "size_of": "cloth", "beside": "one other", "above": "one other",
        "across": "cloth many", "down": "cloth many", "knot": "carpet r c", "stretch": "carpet place rows knots",
        "read_cloth": "text", "shown_cloth": "cloth", "turned": "cloth way",
    },
    "colours": {
        "dyed_two": "cloth one other", "colours_of": "cloth", "knots_by_colour": "cloth", "unlike": "one other",
    },
    "movements": {
        "is_movement": "side thing", "all_movements": "side", "led": "side movement place", "then": "side one other",
        "taken_back": "side movement", "order_of": "side movement", "moved": "carpet movement", "ways_table": "",
    },
    "groups": {"made": "side movements"},
    "motifs": {
        "Motif": "", "Plain": "rows", "Named": "name", "Beside": "parts", "Above": "parts", "Across": "many part",
        "Down": "many part", "Turned": "way part", "Dyed": "one other part",
    },
    "programs": {"read": "text", "read_motif": "text", "shown": "program"},
    "knotting": {"sizes": "program", "knotted": "program", "counted": "program"},
    "folds": {"unfolded": "fold", "cost": "fold", "folded": "line", "shown_fold": "fold", "read_fold": "text"},
    "weavings": {
        "unwoven": "weaving", "weaving_cost": "weaving", "woven": "cloth", "shown_weaving": "weaving",
        "read_weaving": "text",
    },
    "leaving": {"leaves": "carpet movement", "unlike_at": "carpet movement", "leaving": "carpet"},
    "fewest": {"few_of": "n movements", "row_to": "n movements movement", "rows_to": "n movements"},
    "cells": {"least_cell": "carpet", "drawn": "n cell", "is_cell": "carpet cell"},
    "circles": {"circles": "n movements", "seeds": "carpet", "grown": "n movements some"},
    "bends": {"is_mirror": "n wide", "stand_of": "n wide"},
    "kinds": {
        "turn_of": "movements", "bends_of": "movements", "mirrors_of": "n movements", "loose_of": "n movements",
        "kind_of": "n movements", "kind": "carpet",
    },
    "forms": {
        "least_form": "carpet", "dyed": "carpet dyeing", "dyed_in_order": "carpet", "form_by_colours": "carpet",
    },
    "kin": {"kin": "one other", "kin_by_colours": "one other", "nearest": "one other"},
    "rounds": {"rounds": "side movement", "count_of": "side colours", "left_by": "side colours wish"},
    "numbers": {"all_forms": "side colours", "number_of": "carpet colours", "carpet_of": "side colours number"},
    "mending": {"mended": "carpet wish", "mended_towards": "carpet other wish"},
    "betters": {"bettered": "carpet most"},
    "lines": {
        "shown_movement": "movement", "shown_movements": "movements", "movement_of": "side word",
        "movements_of": "side word", "written_number": "word",
    },
    "desk": {"Desk": ""},
}
MOTIFS = ("Plain", "Named", "Beside", "Above", "Across", "Down", "Turned", "Dyed")
METHODS = {
    "text": "self", "deep": "self", "names": "self", "size": "self known row", "cloth": "self known",
    "counts": "self known", "put": "self name motif",
}


class Interface(unittest.TestCase):
    def test_names_and_arguments(self):
        for module, functions in ARGUMENTS.items():
            found = importlib.import_module("carpetkin." + module)
            for name, arguments in functions.items():
                with self.subTest(module + "." + name):
                    self.assertEqual(list(inspect.signature(getattr(found, name)).parameters), arguments.split())

    def test_methods_of_motifs(self):
        motifs = importlib.import_module("carpetkin.motifs")
        for kind in MOTIFS:
            for name, arguments in METHODS.items():
                with self.subTest(kind + "." + name):
                    found = getattr(getattr(motifs, kind), name)
                    self.assertEqual(list(inspect.signature(found).parameters), arguments.split())

    def test_methods_of_the_desk(self):
        desk = importlib.import_module("carpetkin.desk")
        self.assertEqual(list(inspect.signature(desk.Desk.say).parameters), ["self", "row"])


if __name__ == "__main__":
    unittest.main()
