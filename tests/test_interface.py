"""Every name of the interface stands in its file, with its arguments and what they are left out for."""

import importlib
import inspect
import pathlib
import unittest

FOLDER = pathlib.Path(__file__).resolve().parent.parent / "glassladder"
CONSTANTS = {"shares": {"NOUGHT": (0, 1), "ONE": (1, 1)}, "drifting": {"MOST_LAPS": 1000},
             "ladder": {"RUNGS": ("unasked", "together")}}
FUNCTIONS = {
    "shares": {
        "is_share": "(thing)", "share": "(top, bottom=1)", "plus": "(one, other)", "minus": "(one, other)",
        "times": "(one, other)", "over": "(one, other)", "less": "(one, other)", "total": "(some, *, start=(0, 1))",
    },
    "lines": {
        "is_name": "(thing)", "is_line": "(thing)", "line_of": "(plain=(0, 1), parts=())", "line_plus": "(one, other)",
        "line_minus": "(one, other)", "line_times": "(line, by)", "put": "(line, name, other)",
        "all_put": "(line, others)", "worth": "(line, numbers)", "names_of": "(line)",
    },
    "granting": {
        "is_wish": "(thing)", "granted": "(wish, numbers)", "told": "(wishes)", "bars": "(wishes, thing)",
        "can_be": "(wishes)", "follows": "(wishes, wish)", "contraries": "(wish)", "put_all": "(wish, sets)",
    },
    "systems": {"look_at_system": "(thing)", "deeds_of": "(system)", "begin_places": "(system)"},
    "steps": {
        "is_places": "(system, thing)", "is_step": "(system, thing)", "steps_from": "(system, places)",
        "wishes_of": "(system, step)", "sets_of": "(system, step)", "behind": "(system, places, step)",
        "reads_of": "(system, step)", "can_stand": "(system, places, step)",
    },
    "sayings": {"look_at_saying": "(system, thing)", "atoms_of": "(saying)"},
    "rounds": {"holds": "(saying, thing)"},
    "drifting": {
        "is_run": "(system, thing)", "counts": "(system, run)", "letters_of": "(system, run, atoms)",
    },
    "forms": {
        "normal_form": "(saying)", "contrary_form": "(saying)", "untils_in": "(form)", "ways": "(lot, untils)",
    },
    "made": {
        "machine_of": "(saying)", "paper_of": "(saying)", "is_paper": "(saying, machine, thing)",
        "takes": "(machine, thing)",
    },
    "whys": {
        "is_why": "(entries, ties, many, thing)", "sought": "(count, begins, ties, many)",
        "pieces": "(entries, ties)",
    },
    "joined": {
        "conditions": "(system, saying, places, stand, wishes, step, n)", "set_by": "(system, step)",
    },
    "looker": {
        "look_at_joined": "(system, saying, thing)", "is_joined": "(system, saying, thing)",
        "is_asked_so": "(system, saying, paper, entry, step, n)", "is_why_so": "(system, saying, paper)",
    },
    "rungs": {
        "is_rung": "(thing)", "led_places": "(rung, places)", "led_step": "(rung, step)", "is_shown": "(rung, saying)",
        "led_saying": "(rung, saying)",
    },
    "unasked": {"unasked": "(system, saying)"},
    "together": {"together": "(system, saying)"},
    "joining": {"behind_one_another": "(rungs)", "joined_up": "(rung, saying, paper)"},
    "through": {
        "table": "(system, saying, wishes)", "begins_of": "(begin)", "sought_by": "(system, saying, found, ranks)",
    },
    "leading": {"led_back": "(system, path)", "led_begin": "(system, steps)"},
    "breaking": {"is_breaking": "(system, saying, thing)"},
    "watchers": {"watched": "(system, saying, run)"},
    "wordtexts": {"show_line": "(line)", "show_wish": "(wish)"},
    "texts": {
        "show_system": "(system)", "show_saying": "(saying)", "show_run": "(run)", "read_line": "(text)",
        "read_wish": "(text)", "read_system": "(text)", "read_saying": "(text)", "read_run": "(text)",
    },
}
CLASSES = {
    ("real", "Real"): {
        "__init__": "(self, system, numbers)", "do": "(self, step, *, reads=None)", "back": "(self)", "stand": "(self)",
        "granted": "(self)", "done": "(self)", "system": "(self)", "twin": "(self)", "__len__": "(self)",
        "__eq__": "(self, other)",
    },
    ("ladder", "Ladder"): {
        "__init__": "(self, system, saying, *, rungs=('unasked', 'together'), laps=2, rounds=20)",
        "go": "(self, many=1)", "helped": "(self, thing)", "word": "(self)", "gone": "(self)", "wishes": "(self)",
        "ranks": "(self)", "rungs": "(self)", "paper": "(self)", "run": "(self)", "twin": "(self)", "__len__": "(self)",
    },
    ("watchers", "Watcher"): {
        "__init__": "(self, system, saying, *, knowing=None)", "tell": "(self, letter)", "said": "(self)",
        "atoms": "(self)", "letters": "(self)", "twin": "(self)", "__len__": "(self)",
    },
    ("house", "House"): {
        "__init__": "(self, system, *, rungs=('unasked', 'together'), laps=2, rounds=12)",
        "put": "(self, name, saying)", "drop": "(self, name)", "other_row": "(self, machine, number, other)",
        "begins": "(self, wishes)",
        "together": "(self, deeds)", "back": "(self, *, many=1)", "system": "(self)", "sayings": "(self)",
        "word": "(self, name)", "way": "(self, name)", "paper": "(self, name)", "run": "(self, name)",
        "asks": "(self, name)", "log": "(self)", "twin": "(self)", "__len__": "(self)", "__eq__": "(self, other)",
    },
    ("desk", "Desk"): {"__init__": "(self)", "say": "(self, row)", "__len__": "(self)"},
}


def module(stem):
    return importlib.import_module("glassladder." + stem)


class Interface(unittest.TestCase):
    def test_constants(self):
        for stem, constants in CONSTANTS.items():
            for name, value in constants.items():
                self.assertEqual(getattr(module(stem), name), value)
                self.assertIn(f"\n{name} = ", (FOLDER / f"{stem}.py").read_text())

    def test_functions(self):
        for stem, functions in FUNCTIONS.items():
            for name, arguments in functions.items():
                one = getattr(module(stem), name)
                self.assertTrue(inspect.isfunction(one), name)
                self.assertEqual(one.__module__, "glassladder." + stem)
                self.assertEqual(str(inspect.signature(one)), arguments, name)

    def test_classes(self):
        for (stem, owner), methods in CLASSES.items():
            one = getattr(module(stem), owner)
            self.assertEqual(one.__module__, "glassladder." + stem)
            for name, arguments in methods.items():
                self.assertIn(name, vars(one), owner)
                self.assertEqual(str(inspect.signature(vars(one)[name])), arguments, (owner, name))


if __name__ == "__main__":
    unittest.main()
