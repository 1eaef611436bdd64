"""The interface: every name stands in its file, with its arguments; and the words of point 2 that hold of all."""

import ast
import importlib
import inspect
import pathlib
import unittest

from tests.helper import look

PACKAGE = pathlib.Path(__file__).resolve().parent.parent / "woundwalks"

CALLS = {
    "words": {"is_row": "(thing)", "is_word": "(thing)", "backs": "(word, place)"},
    "winding": {
        "course": "(word, row, *, place=0)", "is_wound": "(word, row, *, place=0)", "count_wound": "(word, size)",
        "wound_at": "(word, size, number)", "wound_rows": "(word, size)"},
    "kinds": {"lacking": "(word, kind)", "is_kind": "(word, kind)", "kind_paper": "(word, kind)"},
    "kindlooks": {"shows_kind": "(word, kind, thing)"},
    "webs": {"is_web": "(thing)", "arms_of": "(web, crossing, name)", "is_goals": "(web, thing)"},
    "worlds": {
        "is_world": "(web, thing)", "count_worlds": "(web)", "world_at": "(web, number)", "number_of": "(web, world)",
        "gone": "(web, world, start, row)", "starts": "(web, world, row, *, goals=None)"},
    "walks": {
        "wound_places": "(web, world, word, *, goals=None)",
        "wound_walk": "(web, world, word, crossing, *, place=0, goals=None)", "row_of": "(word, walk)"},
    "walklooks": {"shows_walk": "(web, world, word, crossing, thing, *, place=0, goals=None)"},
    "marks": {
        "marks": "(web, word, *, goals=None)", "rounds": "(web, word, *, goals=None)",
        "round_of": "(web, word, crossing, place, *, goals=None)", "marks_paper": "(web, word, *, goals=None)"},
    "marklooks": {"shows_marks": "(web, word, thing, *, goals=None)"},
    "worst": {"worst": "(web, word, *, goals=None)", "shows_worst": "(web, word, thing, *, goals=None)"},
    "asks": {"is_ask": "(web, thing)", "fails": "(web, world, word, ask)", "wanted": "(ask)"},
    "answers": {"answer": "(web, word, ask)", "by_worlds": "(web, word, ask)", "share": "(web, word, ask)"},
    "answerlooks": {"shows_answer": "(web, word, ask, thing)"},
    "gaps": {"gap": "(word, kind)"},
    "askers": {
        "is_asker": "(thing)", "asker_of": "(word)", "reads": "(asker, row, *, stand=0)",
        "reads_plainly": "(asker, row, *, stand=0)"},
    "asking": {
        "asked_places": "(web, world, asker, *, goals=None)", "asked_marks": "(web, asker, *, goals=None)",
        "asked_worst": "(web, asker, *, goals=None)", "shows_asked": "(web, asker, thing, *, goals=None)"},
    "settled": {"unsettled": "(asker)", "asked_somewhere": "(web, asker)"},
    "beside": {"knows_more": "(one, other)", "narrowed": "(one, other)", "common": "(one, other)"},
    "leadings": {
        "is_leading": "(web, other, thing)", "follows": "(web, other)", "led": "(web, other, thing, goals)"},
    "support": {"support": "(web, word, paper, *, goals=None)", "held_to": "(web, pairs)"},
    "tables": {"is_table": "(thing)", "keys_of": "(table)", "clashes": "(table)", "web_of": "(table)"},
    "keepings": {
        "is_keeping": "(table, thing)", "count_keepings": "(table)", "keeping_at": "(table, number)",
        "chain": "(table, keeping, key, row)"},
    "asked": {"asked": "(table, word, ask)", "freed": "(table, word)"},
    "showing": {"show_row": "(row)", "show_web": "(web)", "show_world": "(world)", "show_paper": "(paper)"},
    "reading": {
        "read_row": "(text)", "read_web": "(text)", "read_world": "(text, web)", "read_paper": "(text)"},
}

# Of each class its arguments, and the methods that stand in it.
CLASSES = {
    "walkers": {"Walker": ("(web, word, crossing, *, place=0, goals=None)", {
        "wants": "(self)", "come": "(self, arm)", "walk": "(self)"})},
    "yard": {"Yard": ("(n, *, word=(), goals=None)", {
        "web": "(self)", "its_word": "(self)", "its_goals": "(self)", "marks": "(self)", "worst": "(self)",
        "answer": "(self, ask)", "put": "(self, crossing, name, arms)", "take": "(self, crossing, name)",
        "widen": "(self, crossing, name, arm)", "strike": "(self, crossing, name, arm)",
        "settle": "(self, crossing, name, arm)", "turn_to": "(self, word, *, goals=None)", "back": "(self)",
        "tried": "(self, look)", "copied": "(self)", "__len__": "(self)", "__eq__": "(self, other)"})},
    "desk": {"Desk": ("(n)", {"say": "(self, line)", "log": "(self)"})},
}

WEB = (3, ((0, "a", (1, 2)), (1, "b", (2,)), (2, "b", (0, 1))))

# A value for each argument, some of them such as can be changed.
VALUES = {
    "word": ("a", "b"), "place": 1, "row": ("a", "b"), "size": 2, "number": 0, "kind": "late", "web": WEB,
    "crossing": 0, "name": "a", "world": (1, 2, 0), "start": 0, "goals": (0, 2), "walk": ((0, 1), (1, 2)),
    "thing": ["so", [("a", {"b": [1]})], {"c": [2]}], "ask": ("into", (0, 2)),
    "asker": (3, ((0, "a", 1), (1, "a", 1), (1, "b", 2)), (2,), (("a", (1,)), ("b", (2,)))), "stand": 1,
    "one": WEB, "other": (3, ((0, "a", (0, 1, 2)), (1, "b", (1, 2)))),
    "paper": ((0, 2, ("end",)), (2, 2, ("end",))), "pairs": ((0, "a"), (2, "b"), (2, "c")),
    "table": (("x", "a", "y"), ("x", "a", "x"), ("y", "b", "x"), ("x", "a", "y")),
    "keeping": (("x", "a", "y"), ("y", "b", "x")), "key": "x",
}

# Where an argument of that name is of another kind.
OWN_VALUES = {
    "led": {"thing": (0, 2, 1)}, "asked": {"ask": ("among", ("x", "y"))}, "read_row": {"text": "a b"},
    "read_web": {"text": "2\n0 a 0 1"}, "read_world": {"text": "1 2 0"}, "read_paper": {"text": "0 1 end\n0 0 back 1"},
}

TOLD = (tuple, int, str, bool, type(None))


def all_calls():
    for file, calls in CALLS.items():
        module = importlib.import_module(f"woundwalks.{file}")
        for name in calls:
            yield name, getattr(module, name)


def only_told_kinds(thing):
    if type(thing) is tuple:
        return all(only_told_kinds(part) for part in thing)
    return type(thing) in TOLD


class TestInterface(unittest.TestCase):
    def test_each_stands_in_its_file(self):
        for file, calls in CALLS.items():
            tree = ast.parse((PACKAGE / f"{file}.py").read_text())
            defined = [node.name for node in tree.body if isinstance(node, ast.FunctionDef)]
            for name in calls:
                self.assertIn(name, defined, file)

    def test_arguments(self):
        for file, calls in CALLS.items():
            module = importlib.import_module(f"woundwalks.{file}")
            for name, arguments in calls.items():
                self.assertEqual(str(inspect.signature(getattr(module, name))), arguments, name)

    def test_classes_and_their_methods(self):
        for file, classes in CLASSES.items():
            tree = ast.parse((PACKAGE / f"{file}.py").read_text())
            module = importlib.import_module(f"woundwalks.{file}")
            for name, (arguments, methods) in classes.items():
                (body,) = [node.body for node in tree.body if isinstance(node, ast.ClassDef) and node.name == name]
                defined = [node.name for node in body if isinstance(node, ast.FunctionDef)]
                made = getattr(module, name)
                self.assertEqual(str(inspect.signature(made)), arguments)
                for method, taken in methods.items():
                    self.assertIn(method, defined)
                    self.assertEqual(str(inspect.signature(getattr(made, method))), taken)

    def test_by_places_by_names_and_again_the_same_is_told_and_nothing_changed(self):
        for name, call in all_calls():
            with self.subTest(name=name):
                parameters = inspect.signature(call).parameters.values()
                values = {**VALUES, **OWN_VALUES.get(name, {})}
                before = look(values)
                by_places = [values[one.name] for one in parameters if one.kind == one.POSITIONAL_OR_KEYWORD]
                alone = {one.name: values[one.name] for one in parameters if one.kind == one.KEYWORD_ONLY}
                named = {one.name: values[one.name] for one in reversed(list(parameters))}
                told = call(*by_places, **alone)
                self.assertEqual(look(call(**named)), look(told))
                self.assertEqual(look(call(*by_places, **alone)), look(told))
                self.assertTrue(only_told_kinds(told))
                self.assertEqual(look(values), before)

    def test_truths_are_told_as_truths(self):
        for name, call in all_calls():
            if name.startswith(("is_", "shows_", "knows_")):
                named = {one: VALUES[one] for one in inspect.signature(call).parameters}
                self.assertIs(type(call(**named)), bool, name)


if __name__ == "__main__":
    unittest.main()
