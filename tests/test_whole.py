"""What the document promises over the whole program: points 1 to 3, and the interface."""

import ast
import copy
import importlib
import inspect
import pathlib
import unittest

import piecedeal
from piecedeal.errors import BadDeal, BadHolding, BadRound, BadText, DealError, NoDeal
from tests.wrong import DEAL, HOLDING, NO_DEALS, NO_HOLDINGS, REFUSALS, RefusalCase

FILES = sorted(pathlib.Path(piecedeal.__file__).parent.rglob("*.py"))

# What each file is to define: its functions, each with its parameters in their order.
INTERFACE = {
    "deals": {"is_done": ["deal", "holding"], "is_within": ["deal", "one", "other"]},
    "rounds": {"played": ["deal", "holding", "plan"], "lossy": ["deal", "holding", "plan", "lost"]},
    "gains": {"gains": ["deal", "holding"]},
    "reasons": {"shows": ["deal", "holding", "many", "reason"]},
    "least": {"least": ["deal", "holding"]},
    "changes": {
        "leaves": ["deal", "holding", "hand"],
        "comes": ["deal", "holding", "pieces", "ties"],
        "mended": ["deal", "holding", "plan", "many", "lost"],
    },
    "ways": {
        "way": ["deal", "holding", "plan", "hand", "piece"],
        "knowers": ["deal", "holding", "plan", "hand", "piece"],
    },
    "texts": {"written": ["deal", "holding"], "read": ["text"]},
}

# What stands behind the deal and the holding: first what can be asked, then what else is refused.
ASKED = {
    "is_done": ((), ()),
    "is_within": ((HOLDING,), (None,)),
    "played": (((((0, 2),), ((1, 2),)),), (None,)),
    "lossy": (((((0, 2),), ((1, 2),)), ((0, 0, 2),)), ((None,), ())),
    "gains": ((), ()),
    "shows": ((1, ("cut", (1,), (0,), 0)), (1, None)),
    "least": ((), ()),
    "leaves": ((1,), (0,)),
    "comes": (((0, 1), ((3, 0, 1), (1, 3, 2))), (None, None)),
    "mended": (((((0, 2),), ((1, 2),)), 1, ((0, 0, 2),)), (((), None), 0, ())),
    "way": (((((0, 2),), ((1, 2),)), 2, 2), (None, 0, 0)),
    "knowers": (((((0, 2),), ((1, 2),)), 1, 2), ((((1, 2),),), 0, 0)),
    "written": ((), ()),
}

TEXT = "deal 3 3\ntie 0 1 2\ntie 1 2 1\ntie 2 0 4\nhand 0 2\nhand\nhand 1"


def module_of(name):
    """The module of the program with this name."""
    return importlib.import_module(f"piecedeal.{name}")


def functions():
    """All functions of the interface that a deal and a holding are handed to, by their names."""
    return {name: getattr(module_of(file), name) for file in INTERFACE for name in INTERFACE[file] if name in ASKED}


def frozen(value):
    """Whether it is whole numbers, texts, True, False and None, and tuples of them, however deep."""
    if type(value) is tuple:
        return all(frozen(part) for part in value)
    return value is None or type(value) in (int, str, bool)


class Interface(unittest.TestCase):

    def test_each_function_is_defined_in_its_file_with_its_arguments(self):
        for file, told in INTERFACE.items():
            for name, parameters in told.items():
                with self.subTest(file=file, name=name):
                    function = getattr(module_of(file), name)
                    self.assertTrue(inspect.isfunction(function))
                    self.assertEqual(function.__module__, f"piecedeal.{file}")
                    self.assertEqual(function.__name__, name)
                    self.assertEqual(list(inspect.signature(function).parameters), parameters)

    def test_each_function_is_asked_in_these_tests(self):
        names = [name for told in INTERFACE.values() for name in told if name != "read"]
        self.assertEqual(names, list(ASKED))

    def test_the_package_is_one_folder_of_python_files(self):
        folder = pathlib.Path(piecedeal.__file__).parent
        others = [path for path in folder.rglob("*") if "__pycache__" not in path.parts and path not in FILES]
        self.assertEqual(others, [])
        self.assertIn(folder / "__init__.py", FILES)


class Errors(RefusalCase):

    def test_each_is_straight_under_deal_error_and_that_under_value_error(self):
        self.assertEqual(DealError.__bases__, (ValueError,))
        for error in REFUSALS:
            with self.subTest(error=error.__name__):
                self.assertEqual(error.__bases__, (DealError,))
                self.assertEqual(error.__module__, "piecedeal.errors")

    def test_there_are_no_others(self):
        told = [value for value in vars(module_of("errors")).values() if inspect.isclass(value)]
        self.assertEqual(told, [DealError, *REFUSALS])
        for path in FILES:
            if path.name != "errors.py":
                kinds = [node.name for node in ast.walk(ast.parse(path.read_text())) if isinstance(node, ast.ClassDef)]
                self.assertEqual(kinds, [], path.name)

    def test_what_is_asked_behind_each_refusal_is_answered_as_ahead_of_it(self):
        asked = functions()
        answers = {name: asked[name](DEAL, HOLDING, *ASKED[name][0]) for name in asked}
        for refuse, error in (
            (lambda: asked["is_done"](NO_DEALS[0], HOLDING), BadDeal),
            (lambda: asked["leaves"]((1, 1, ()), ((0,),), 0), BadDeal),
            (lambda: asked["comes"](DEAL, HOLDING, (), ((0, 1, 1),)), BadDeal),
            (lambda: asked["gains"](DEAL, NO_HOLDINGS[0]), BadHolding),
            (lambda: asked["comes"](DEAL, HOLDING, (1, 0), ()), BadHolding),
            (lambda: asked["played"](DEAL, HOLDING, (((0, 1),),)), BadRound),
            (lambda: asked["lossy"](DEAL, HOLDING, ((), None), ()), BadRound),
            (lambda: asked["mended"](DEAL, HOLDING, ((), None), 0, ()), BadRound),
            (lambda: asked["way"](DEAL, HOLDING, None, 0, 0), BadRound),
            (lambda: asked["least"]((3, 3, ()), HOLDING), NoDeal),
            (lambda: asked["mended"]((3, 3, ()), HOLDING, (), 0, ()), NoDeal),
            (lambda: module_of("texts").read(TEXT + "\n"), BadText),
            (lambda: module_of("texts").read(TEXT + " 1"), BadHolding),
            (lambda: module_of("texts").read("deal 0 1"), BadDeal),
        ):
            with self.refused(error):
                refuse()
            for name, answer in answers.items():
                self.assertEqual(asked[name](DEAL, HOLDING, *ASKED[name][0]), answer, name)
            self.assertEqual(module_of("texts").read(TEXT), (DEAL, HOLDING))


class NoDealsAndNoHoldings(RefusalCase):

    def test_what_is_no_deal_ahead_of_all_else(self):
        for name, function in functions().items():
            for rest in ASKED[name]:
                with self.subTest(name=name, rest=rest):
                    self.check_no_deals(lambda deal, holding: function(deal, holding, *rest))

    def test_then_what_is_no_holding_ahead_of_all_else(self):
        for name, function in functions().items():
            for rest in ASKED[name]:
                with self.subTest(name=name, rest=rest):
                    self.check_no_holdings(lambda holding: function(DEAL, holding, *rest))

    def test_what_can_be_asked_is_not_refused(self):
        for name, function in functions().items():
            with self.subTest(name=name):
                function(DEAL, HOLDING, *ASKED[name][0])

    def test_a_holding_of_another_deal(self):
        for name, function in functions().items():
            for deal, holding in (
                ((2, 3, ()), HOLDING), ((4, 3, ()), HOLDING), ((3, 2, ()), HOLDING), ((3, 1, ()), HOLDING),
                ((1, 1, ()), ()), ((1, 1, ()), ((1,),)), ((1, 1, ()), ((), ())), ((4, 4, ()), ((4,),) * 4),
            ):
                with self.subTest(name=name, deal=deal), self.refused(BadHolding):
                    function(deal, holding, *ASKED[name][0])


class Asked(unittest.TestCase):

    def test_nothing_that_is_handed_in_is_changed(self):
        for name, function in functions().items():
            handed = (DEAL, HOLDING, *ASKED[name][0])
            before = copy.deepcopy(handed)
            function(*handed)
            self.assertEqual(handed, before, name)

    def test_whatever_is_asked_is_answered_the_same_again(self):
        for name, function in functions().items():
            told = [function(DEAL, HOLDING, *ASKED[name][0]) for _ in range(3)]
            self.assertEqual(told, told[:1] * 3, name)
            self.assertEqual([type(one) for one in told], [type(told[0])] * 3, name)

    def test_lists_that_are_told_may_be_changed(self):
        names = []
        for name, function in functions().items():
            told = function(DEAL, HOLDING, *ASKED[name][0])
            if isinstance(told, list):
                before = list(told)
                told[:] = ["changed", *told[::-1], None]
                self.assertEqual(function(DEAL, HOLDING, *ASKED[name][0]), before, name)
                told.clear()
                self.assertEqual(function(DEAL, HOLDING, *ASKED[name][0]), before, name)
                names.append(name)
        self.assertEqual(names, ["played", "lossy", "gains", "way", "knowers"])

    def test_all_else_that_is_told_can_not_be_changed(self):
        for name, function in functions().items():
            told = function(DEAL, HOLDING, *ASKED[name][0])
            self.assertTrue(frozen(tuple(told) if isinstance(told, list) else told), name)
        self.assertTrue(frozen(module_of("texts").read(TEXT)))

    def test_the_numbers_that_are_told_are_whole(self):
        for name, function in functions().items():
            if name not in ("is_done", "is_within", "shows"):
                told = function(DEAL, HOLDING, *ASKED[name][0])
                self.assertNotIn("True", repr(told), name)
                self.assertNotIn("False", repr(told), name)
                self.assertNotIn(".", repr(told), name)


class Sources(unittest.TestCase):

    def test_nothing_is_taken_from_outside_but_choices_and_products(self):
        for path in FILES:
            for node in ast.walk(ast.parse(path.read_text())):
                if isinstance(node, ast.Import):
                    self.fail(f"{path.name} imports a module")
                if isinstance(node, ast.ImportFrom):
                    self.assertEqual(node.level, 0)
                    self.assertTrue(node.module == "itertools" or node.module.startswith("piecedeal."), path.name)

    def test_no_files_and_no_output(self):
        for path in FILES:
            names = {node.id for node in ast.walk(ast.parse(path.read_text())) if isinstance(node, ast.Name)}
            self.assertEqual(names & {"open", "print", "input", "exec", "eval", "id", "hash", "__import__"}, set())

    def test_plain_signs_and_short_rows_and_files(self):
        for path in FILES:
            text = path.read_text(encoding="utf-8")
            self.assertTrue(all(sign == "\n" or " " <= sign <= "~" for sign in text), path.name)
            rows = text.split("\n")
            self.assertLess(len(rows), 400, path.name)
            self.assertLessEqual(max(map(len, rows)), 120, path.name)
