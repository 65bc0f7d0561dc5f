import ast
import inspect
import importlib
import pathlib
import unittest

from sevenninths.boxes import Box, Corrector, Tester
from sevenninths.desk import Desk
from sevenninths.groups import Group
from sevenninths.shares import Share

FUNCTIONS = {
    "madegroups": {"cyclic_group": "n", "product_group": "one other", "vector_group": "base length",
                   "dihedral_group": "n", "symmetric_group": "k", "quaternion_group": "",
                   "renamed_group": "group order"},
    "subsets": {"generated": "group subset", "is_subgroup": "group subset", "subgroups": "group",
                "generators": "group", "left_cosets": "group subset", "right_cosets": "group subset",
                "is_normal": "group subset", "factor_group": "group subset"},
    "grouptexts": {"write_group": "group", "read_group": "text"},
    "homs": {"first_broken": "one other f", "is_hom": "one other f", "hom_from": "one other subset values",
             "all_homs": "one other", "kernel": "one other f", "image": "one other f", "agreement": "f g",
             "greatest_agreement": "one other"},
    "certificates": {"homs_certificate": "one other", "homs_certificate_holds": "one other certificate"},
    "maps": {"broken": "one other f", "broken_share": "one other f", "wrong_places": "f g", "votes": "one other f x",
             "voted": "one other f", "equal_votes": "one other f x", "least_broken": "n w", "most_broken": "n w",
             "nearest_homs": "one other f"},
    "ninths": {"is_sure": "one other f", "hom_of": "one other f", "close_hom": "one other f", "border_map": "j",
               "most_near": "alike places size"},
    "twoproducts": {"products_apart": "one other", "renaming": "one other", "nine_pair": ""},
    "sampling": {"right_share": "one other f x k", "wrong_share": "one other f x k", "silent_share": "one other f x k",
                 "passing_share": "one other f k", "samples_for": "share"},
    "signs": {"signs": "n f", "broken_bits": "n f", "best_linear": "n f"},
    "nearbits": {"weight": "n f beginning", "near_linear": "n f t", "near_certificate": "n f t",
                 "near_certificate_holds": "n f t certificate"},
    "steps": {"differences": "p f", "degree": "p f", "broken_steps": "p d f", "step_votes": "p d f x", "is_near": "p d f"},
    "curves": {"close_curve": "p d f", "value_at": "p curve x", "wrong_on": "p curve f"},
    "tables": {"times": "p one other", "rank": "p matrix", "passes_column": "p one other told column",
               "columns_passing": "p one other told"},
    "doublebox": {"factor_of": "p f", "product_votes": "p f x y"},
    "quotients": {"left_quotients": "group subset", "right_quotients": "group subset", "is_tight": "group subset",
                  "coset_of": "group subset"},
    "desk": {"replayed_desk": "one other lines"},
    "histories": {"history_of": "desk", "history_holds": "text", "history_end": "text"},
}
CLASSES = {
    "shares": {"Share": {"__init__": "top bottom", "__eq__": "other", "__add__": "other", "__sub__": "other",
                         "__mul__": "other", "below": "other", "power": "k", "of": "part whole", "written": ""}},
    "groups": {"Group": {"__init__": "table", "__eq__": "other", "commutative": None, "product": "x y",
                         "inverse": "x", "order": "x", "power": "x k"}},
    "boxes": {"Box": {"__init__": "table", "ask": "x", "asks": None, "__len__": ""},
              "Corrector": {"__init__": "one other box", "answer": "x samples"},
              "Tester": {"__init__": "one other box", "test": "pairs"}},
    "doublebox": {"DoubleBox": {"__init__": "p f", "ask": "x y", "asks": None, "corrected": "x y samples"}},
    "keeping": {"Kept": {"__init__": "one other f", "change": "x value", "votes": "x", "row": None, "broken": None,
                         "sure": None}},
    "desk": {"Desk": {"__init__": "one other", "run": "line"}},
}
FOLDER = pathlib.Path(__file__).parent.parent / "sevenninths"


def names(function):
    return " ".join(name for name in inspect.signature(function).parameters if name != "self")


def defined(module):
    """The functions and classes that stand in the very file of a module."""
    rows = ast.parse((FOLDER / f"{module}.py").read_text()).body
    return {row.name for row in rows if isinstance(row, (ast.FunctionDef, ast.ClassDef))}


class InterfaceTest(unittest.TestCase):
    def test_functions(self):
        for module, functions in FUNCTIONS.items():
            for name, told in functions.items():
                self.assertIn(name, defined(module))
                function = getattr(importlib.import_module(f"sevenninths.{module}"), name)
                self.assertEqual(names(function), told, name)

    def test_classes(self):
        for module, classes in CLASSES.items():
            for name, methods in classes.items():
                self.assertIn(name, defined(module))
                kind = getattr(importlib.import_module(f"sevenninths.{module}"), name)
                for method, told in methods.items():
                    self.assertIn(method, vars(kind))
                    if told is None:
                        self.assertIsInstance(vars(kind)[method], property)
                    else:
                        self.assertEqual(names(getattr(kind, method)), told, method)
        self.assertIsInstance(vars(importlib.import_module("sevenninths.shares").Share)["of"], classmethod)

    def test_attributes_are_set_when_an_object_is_made(self):
        two = Group([[0, 1], [1, 0]])
        box = Box((0, 1))
        for made, told in ((Share(2, 4), {"top": 1, "bottom": 2}), (two, {"size": 2, "table": ((0, 1), (1, 0)), "neutral": 0}),
                           (box, {"table": (0, 1)}), (Corrector(two, two, box), {"box": box}), (Tester(two, two, box), {"box": box}),
                           (Desk(two, two), {"one": two, "other": two, "table": (0, 0), "lines": ()})):
            for name, value in told.items():
                self.assertEqual(vars(made)[name], value)

    def test_errors_are_defined_in_their_file(self):
        self.assertEqual(len(defined("errors")), 13)
