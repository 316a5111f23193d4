"""What holds of the whole package: what it uses, and that each run gives the same (point 1)."""

import ast
import os
import pathlib
import subprocess
import sys
import unittest

ROOT = pathlib.Path(__file__).resolve().parent.parent
FILES = sorted((ROOT / "ruleworlds").glob("*.py"))

SCRIPT = """
from ruleworlds.alike import alike, follows
from ruleworlds.founded import record, values
from ruleworlds.makes import barred, program_of
from ruleworlds.programs import Program, choice, rule
from ruleworlds.worlds import answers, pairs, worlds
p = Program(choice("zb"), choice("a", ["c", "zb"]), rule(["d", "c", "ab"], bars=["e"]), rule(["e"], ["e"], ["d", "a"]))
print(p.rules, p.names, p.kind, p.written())
print((p + Program.facts(("f", "g"))).written(), (p - Program(choice("zb"))).rules)
print(list(worlds(p)), list(pairs(p)), answers(p))
q = Program.read("a :- not b.\\nb :- not a.\\nc :- d.\\nd :- c.\\ne.")
for added in ("rules", "facts", "nothing"):
    part, world = alike(q, Program.read("a | b."), added)
    print(part.written(), world)
print(follows(q, rule(["a", "b"])), values(q), record(q), program_of(list(pairs(q))[::-1], q.names, "single").written())
print(barred(list(pairs(q))[1:], q.names), program_of([], ("a", "b")).written())
"""


class PackageTest(unittest.TestCase):

    def test_it_imports_only_itself(self):
        self.assertGreater(len(FILES), 4)
        for path in FILES:
            for node in ast.walk(ast.parse(path.read_text())):
                self.assertNotIsInstance(node, ast.Import, path)
                if isinstance(node, ast.ImportFrom):
                    self.assertTrue(node.module.startswith("ruleworlds."), path)
                if isinstance(node, ast.Name):
                    self.assertNotIn(node.id, ("open", "print", "input", "hash", "id", "eval", "exec"), path)

    def test_the_folder_holds_nothing_else(self):
        names = [path.name for path in (ROOT / "ruleworlds").iterdir() if path.name != "__pycache__"]
        self.assertEqual(sorted(names), [path.name for path in FILES])

    def test_sizes(self):
        for path in FILES:
            lines = path.read_text().split("\n")
            self.assertLess(len(lines), 400, path)
            self.assertLessEqual(max(map(len, lines)), 120, path)
            for node in ast.walk(ast.parse(path.read_text())):
                if isinstance(node, ast.FunctionDef):
                    self.assertLessEqual(node.end_lineno - node.lineno, 39, node.name)

    def test_each_run_gives_the_same(self):
        seen = set()
        for seed in range(5):
            settings = dict(os.environ, PYTHONHASHSEED=str(seed), PYTHONPATH=str(ROOT))
            done = subprocess.run([sys.executable, "-c", SCRIPT], env=settings, capture_output=True, text=True, check=True)
            seen.add(done.stdout)
        self.assertEqual(len(seen), 1)
