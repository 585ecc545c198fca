"""The interface's names where it lists them, and the plain parts of the form that the code is written in."""

import ast
import pathlib
import unittest

import pairbase.answers
import pairbase.errors
import pairbase.numbering
import pairbase.pairs
import pairbase.rows

PACKAGE = pathlib.Path(pairbase.__file__).parent

LISTED = {
    pairbase.errors: ["BaseError", "BadBase", "BadPair", "BadRow", "BadNumber", "Never"],
    pairbase.pairs: ["times", "size", "step"],
    pairbase.rows: ["read", "told", "all_told"],
    pairbase.answers: ["Answer", "Told", "Round", "All", "Lost"],
    pairbase.numbering: ["pair_by", "number_of"],
}


class Interface(unittest.TestCase):
    def test_each_name_is_defined_in_its_file(self):
        for module, names in LISTED.items():
            for name in names:
                self.assertEqual(getattr(module, name).__module__, module.__name__)

    def test_answers_stand_straight_under_answer(self):
        answers = pairbase.answers
        for kind in [answers.Told, answers.Round, answers.All, answers.Lost]:
            self.assertEqual(kind.__bases__, (answers.Answer,))
            self.assertIn("shows", vars(kind))

    def test_fields(self):
        answers = pairbase.answers
        self.assertEqual(vars(answers.Told([1])), {"row": [1]})
        self.assertEqual(vars(answers.Round([(1, 1)])), {"pairs": [(1, 1)]})
        self.assertEqual(vars(answers.All()), {})
        self.assertEqual(vars(answers.Lost((1, 1))), {"pair": (1, 1)})

    def test_arguments_by_name(self):
        answers = pairbase.answers
        self.assertEqual(pairbase.pairs.times(one=(1, 2), other=(1, 0)), (1, 2))
        self.assertEqual(pairbase.pairs.size(base=(1, 2)), 5)
        self.assertEqual(pairbase.pairs.step(base=(2, 3), pair=(5, 6)), (1, (2, 0)))
        self.assertEqual(pairbase.rows.read(base=(2, 3), row=[1, 2]), (5, 6))
        self.assertEqual(pairbase.rows.told(base=(2, 3), pair=(5, 6)).row, [1, 2])
        self.assertIs(type(pairbase.rows.all_told(base=(-1, 1))), answers.All)
        self.assertEqual(pairbase.numbering.pair_by(base=(2, 3), number=27), (5, 6))
        self.assertEqual(pairbase.numbering.number_of(base=(2, 3), pair=(5, 6)), 27)
        self.assertTrue(answers.Told(row=[1, 2]).shows(base=(2, 3), pair=(5, 6)))
        self.assertTrue(answers.Round(pairs=[(1, 1)]).shows(base=(-2, 3), pair=(0, 1)))
        self.assertTrue(answers.Lost(pair=(1, 1)).shows(base=(-2, 3)))
        self.assertTrue(answers.All().shows(base=(-2, 1)))


class Form(unittest.TestCase):
    def sources(self):
        return [(path, path.read_text(encoding="utf-8")) for path in sorted(PACKAGE.glob("**/*.py"))]

    def test_lines_and_characters(self):
        for path, text in self.sources():
            self.assertLessEqual(len(text.splitlines()), 399, path)
            for line in text.splitlines():
                self.assertLessEqual(len(line), 120, path)
                self.assertTrue(all(" " <= sign <= "~" for sign in line), (path, line))

    def test_functions_are_short(self):
        for path, text in self.sources():
            for node in ast.walk(ast.parse(text)):
                if isinstance(node, ast.FunctionDef):
                    self.assertLessEqual(node.end_lineno - node.lineno + 1, 40, (path, node.name))

    def test_imports(self):
        for path, text in self.sources():
            for node in ast.walk(ast.parse(text)):
                self.assertNotIsInstance(node, ast.Import, path)
                if isinstance(node, ast.ImportFrom):
                    self.assertTrue(node.module == "math" or node.module.startswith("pairbase."), (path, node.module))

    def test_nothing_else_in_the_folder(self):
        for path in PACKAGE.iterdir():
            self.assertTrue(path.suffix == ".py" or path.name == "__pycache__", path)


if __name__ == "__main__":
    unittest.main()
