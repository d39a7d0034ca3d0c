"""The rules of LANGUAGE.md that can be looked up in the text of the package.

This is a narrow reading: it allows what the package uses, and no more.
"""

import ast
import builtins
import functools
import os
import re
import unittest

from firingrules import errors

PACKAGE = os.path.join(os.path.dirname(os.path.dirname(os.path.abspath(__file__))), 'firingrules')
BUILTINS = set('''len range enumerate zip min max sum abs sorted reversed int str bool list tuple dict set isinstance
ord repr any all divmod ValueError TypeError KeyError IndexError LookupError NotImplemented property super'''.split())
METHODS = set('''append clear copy count endswith extend find get index insert isalnum isalpha isdigit islower isspace
isupper items join keys ljust lower lstrip partition pop remove replace reverse rfind rjust rpartition rsplit rstrip
setdefault split splitlines startswith strip update upper values zfill bit_length'''.split())
SIGNS = set('''__init__ __eq__ __repr__ __str__ __len__ __enter__ __exit__ __call__ __iter__ __contains__ __getitem__
__add__ __sub__'''.split())
NAMES = set('register mro elements open input law version_info with_traceback add_note'.split())
BARRED = set('''register mro elements input law version_info with_traceback add_note type typing enum Enum Flag
Generic Protocol ABC namedtuple NamedTuple TypedDict dataclass overload contextmanager _wall Meta'''.split())
NODES = (ast.Global, ast.Nonlocal, ast.AsyncFor, ast.AsyncFunctionDef, ast.AsyncWith, ast.Await, ast.Yield, ast.With,
         ast.YieldFrom, ast.GeneratorExp, ast.Lambda, ast.Set, ast.Starred, ast.Div, ast.Pow, ast.MatMult,
         ast.JoinedStr, ast.NamedExpr, ast.Import, ast.Delete, ast.Mod, ast.Match, ast.AnnAssign)


def files():
    """The names of the files of the package, without what Python itself puts there."""
    return sorted([name for name in os.listdir(PACKAGE) if name != '__pycache__'])


def texts():
    """Tuples of the name and the text of each file."""
    found = []
    for name in files():
        with open(os.path.join(PACKAGE, name), encoding='utf-8', newline='') as file:
            found.append((name, file.read()))
    return found


@functools.lru_cache(None)
def trees():
    """Tuples of the name and the tree of each file, each part of which knows the one above."""
    found = []
    for name, text in texts():
        tree = ast.parse(text)
        for node in ast.walk(tree):
            for child in ast.iter_child_nodes(node):
                child.above = node
        found.append((name, tree))
    return found


def is_plain(node):
    """Whether a value at module level is plain, and contains a list or dict only as a whole."""
    if isinstance(node, ast.Dict):
        return all([is_plain(part) and not isinstance(part, ast.Dict) for part in node.keys + node.values])
    if isinstance(node, ast.Tuple):
        return all([is_plain(part) and not isinstance(part, ast.Dict) for part in node.elts])
    return isinstance(node, ast.Constant)


def bound_names(tree):
    """The names that a file binds by parameters, assignments, functions and classes."""
    found = [node.arg for node in ast.walk(tree) if isinstance(node, ast.arg)]
    found += [node.id for node in ast.walk(tree) if isinstance(node, ast.Name) and isinstance(node.ctx, ast.Store)]
    for node in ast.walk(tree):
        if isinstance(node, (ast.FunctionDef, ast.ClassDef)):
            found.append(node.name)
    return found


class LanguageTest(unittest.TestCase):
    def test_files(self):
        for name in files():
            self.assertRegex(name, r'\A([a-z]+|__init__)\.py\Z')
        self.assertIn('__init__.py', files())

    def test_lines_and_characters(self):
        for name, text in texts():
            self.assertLessEqual(text.count('\n'), 399, name)
            self.assertRegex(text, r'\A[\n -~]*\Z', name)
            self.assertTrue(text.endswith('\n') and not text.endswith('\n\n'), name)
            for line in text.split('\n'):
                self.assertLessEqual(len(line), 120, (name, line))
                self.assertEqual(line, line.rstrip(), (name, line))
            for word in re.findall(r'[A-Za-z_]+', text):
                self.assertNotIn(word, BARRED, name)

    def test_functions_are_small(self):
        for name, tree in trees():
            for node in ast.walk(tree):
                if isinstance(node, ast.FunctionDef):
                    self.assertLessEqual(node.end_lineno - node.lineno + 1, 40, (name, node.name))

    def test_module_level(self):
        for name, tree in trees():
            self.assertIsNotNone(ast.get_docstring(tree), name)
            for node in tree.body[1:]:
                if isinstance(node, ast.Assign):
                    self.assertTrue(len(node.targets) == 1 and isinstance(node.targets[0], ast.Name), name)
                    self.assertTrue(is_plain(node.value), (name, node.lineno))
                else:
                    self.assertIsInstance(node, (ast.ImportFrom, ast.FunctionDef, ast.ClassDef), name)

    def test_imports(self):
        needs = {}
        for name, tree in trees():
            needs[name[:-3]] = []
            for node in ast.walk(tree):
                if isinstance(node, ast.ImportFrom) and node.module == 'heapq':
                    self.assertLessEqual({one.name for one in node.names}, {'heappush', 'heappop'})
                elif isinstance(node, ast.ImportFrom):
                    self.assertIn(node, tree.body)
                    self.assertEqual(node.level, 0)
                    package, module = node.module.split('.')
                    self.assertEqual(package, 'firingrules')
                    needs[name[:-3]].append(module)
                    self.assertEqual([one.asname for one in node.names], [None] * len(node.names))
                    self.check_defined(module, [one.name for one in node.names])
        self.check_no_ring(needs)

    def check_defined(self, module, names):
        tree = dict(trees())[module + '.py']
        defined = [node.name for node in tree.body if isinstance(node, (ast.FunctionDef, ast.ClassDef))]
        defined += [node.targets[0].id for node in tree.body if isinstance(node, ast.Assign)]
        for name in names:
            self.assertIn(name, defined, module)

    def check_no_ring(self, needs):
        done = []
        while len(done) < len(needs):
            free = [name for name in needs if name not in done and set(needs[name]) <= set(done)]
            self.assertNotEqual(free, [], 'files import each other')
            done += free

    def test_imports_are_used(self):
        for name, tree in trees():
            used = {node.id for node in ast.walk(tree) if isinstance(node, ast.Name)}
            for node in tree.body:
                if isinstance(node, ast.ImportFrom):
                    for one in node.names:
                        self.assertIn(one.name, used, name)

    def test_statements_and_signs(self):
        for name, tree in trees():
            for node in ast.walk(tree):
                if isinstance(node, ast.Delete):
                    self.assertTrue(all([isinstance(one, ast.Subscript) for one in node.targets]), (name, node.lineno))
                else:
                    self.assertNotIsInstance(node, NODES, (name, getattr(node, 'lineno', None)))
                if isinstance(node, ast.Compare):
                    for sign, right in zip(node.ops, node.comparators):
                        if isinstance(sign, (ast.Is, ast.IsNot)):
                            self.assertTrue(isinstance(right, ast.Constant) and right.value in (None, True, False))
                if isinstance(node, ast.Constant):
                    self.assertNotIsInstance(node.value, (float, complex, bytes))
                    self.assertNotIn('%', str(node.value), (name, node.lineno))

    def test_sets(self):
        for name, tree in trees():
            for node in ast.walk(tree):
                made = isinstance(node, ast.Call) and isinstance(node.func, ast.Name) and node.func.id == 'set'
                if made or isinstance(node, ast.SetComp):
                    self.assertIsInstance(node.above, ast.Call, (name, node.lineno))
                    self.assertIn(node.above.func.id, ('sorted', 'len'), (name, node.lineno))

    def test_any_and_all_take_lists(self):
        for name, tree in trees():
            for node in ast.walk(tree):
                if isinstance(node, ast.Call) and isinstance(node.func, ast.Name) and node.func.id in ('any', 'all'):
                    self.assertIsInstance(node.args[0], ast.ListComp, (name, node.lineno))

    def test_names(self):
        for name, tree in trees():
            imported = [one.name for node in tree.body if isinstance(node, ast.ImportFrom) for one in node.names]
            classes = [node.name for node in tree.body if isinstance(node, ast.ClassDef)]
            functions = [node.name for node in tree.body if isinstance(node, ast.FunctionDef)]
            top = imported + classes + functions
            self.assertEqual(len(set(top)), len(top), name)
            for bound in bound_names(tree):
                self.assertFalse(bound in vars(builtins) or bound in NAMES, (name, bound))
                self.assertNotIn(bound, imported, name)
                if bound.startswith('__'):
                    self.assertIn(bound, SIGNS, name)
            for node in ast.walk(tree):
                if isinstance(node, ast.arg):
                    self.assertNotIn(node.arg, classes, name)
                if isinstance(node, ast.Name) and node.id in vars(builtins):
                    self.assertIn(node.id, BUILTINS, (name, node.lineno))
                if isinstance(node, ast.Name) and isinstance(node.ctx, ast.Load):
                    self.assertNotEqual(node.id, '_', (name, node.lineno))

    def test_methods_and_attributes(self):
        own, read = set(), []
        for _, tree in trees():
            own |= {node.name for node in ast.walk(tree) if isinstance(node, ast.FunctionDef)
                    and isinstance(node.above, ast.ClassDef)}
            own |= {node.attr for node in ast.walk(tree) if isinstance(node, ast.Attribute)
                    and isinstance(node.ctx, ast.Store)}
        for name, tree in trees():
            read += [(name, node.attr) for node in ast.walk(tree) if isinstance(node, ast.Attribute)]
        for name, attribute in read:
            self.assertIn(attribute, own | METHODS, name)
            self.assertTrue(not attribute.startswith('__') or attribute == '__init__', name)
        for kind in (str, int, list, dict, set, bytes, tuple):
            self.assertEqual({one for one in own if one in dir(kind)} - SIGNS, set())

    def test_methods_are_no_attributes_elsewhere(self):
        methods, attributes = set(), set()
        for _, tree in trees():
            methods |= {node.name for node in ast.walk(tree) if isinstance(node, ast.FunctionDef)
                        and isinstance(node.above, ast.ClassDef)}
            attributes |= {node.attr for node in ast.walk(tree) if isinstance(node, ast.Attribute)
                           and isinstance(node.ctx, ast.Store)}
        self.assertEqual(methods & attributes, set())

    def test_only_own_errors_are_caught(self):
        for name, tree in trees():
            for node in ast.walk(tree):
                if isinstance(node, ast.Try):
                    self.assertEqual(node.finalbody, [], name)
                    for handler in node.handlers:
                        self.assertIn(handler.type.id, vars(errors), name)
                if isinstance(node, ast.Raise):
                    self.assertTrue(isinstance(node.exc, ast.Call) and node.cause is None, name)

    def test_decorators_and_classes(self):
        for name, tree in trees():
            for node in ast.walk(tree):
                if isinstance(node, ast.FunctionDef):
                    for one in node.decorator_list:
                        self.assertEqual(ast.unparse(one), 'property', name)
                    self.assertIsInstance(node.above, (ast.Module, ast.ClassDef), name)
                    self.assertIsNone(node.args.vararg or node.args.kwarg, name)
                if isinstance(node, ast.ClassDef):
                    self.assertEqual([node.decorator_list, node.keywords], [[], []])
                    self.assertTrue(all([isinstance(one, (ast.FunctionDef, ast.Expr)) for one in node.body]), name)
                    names = [one.name for one in node.body if isinstance(one, ast.FunctionDef)]
                    self.assertEqual(len(names), len(set(names)), name)
                    if '__getitem__' in names:
                        self.assertIn('__iter__', names)

    def test_everything_is_described(self):
        for name, tree in trees():
            for node in ast.walk(tree):
                if isinstance(node, (ast.FunctionDef, ast.ClassDef)) and not node.name.startswith('__'):
                    self.assertIsNotNone(ast.get_docstring(node), (name, node.name))


if __name__ == '__main__':
    unittest.main()
