"""What of ../shared/LANGUAGE.md can be seen from the syntax trees of the package's files."""

import ast
import builtins
import os
import re
import unittest

FOLDER = os.path.join(os.path.dirname(os.path.dirname(os.path.abspath(__file__))), "shortbynarrow")
LIBRARY = {"math": {"gcd", "lcm", "isqrt", "comb", "perm", "factorial"}}
BUILTINS = set("""len range enumerate zip min max sum abs sorted reversed int str bool bytes list tuple
dict set isinstance ord repr any all divmod Exception IndexError iter property staticmethod classmethod
NotImplemented True False None""".split())
METHODS = set("""append clear copy count endswith extend find get index insert isalnum isalpha isdigit
islower isspace isupper items join keys ljust lower lstrip partition pop remove replace reverse rfind
rjust rpartition rsplit rstrip setdefault split splitlines startswith strip update upper values zfill
bit_length""".split())
SPECIAL = set("""__init__ __eq__ __len__ __iter__ __call__ __add__ __mul__ __rmul__ __sub__ __floordiv__
__and__ __or__ __invert__ __contains__ __getitem__ __enter__ __exit__""".split())
FREE_SPECIAL = {"__init__", "__call__", "__enter__", "__exit__"}
BARRED = set("""register mro elements open input law version_info with_traceback add_note attrgetter
breakpoint builtins compile copyright credits delattr dir eval exec exit gc getattr globals hasattr help
id importlib license locals methodcaller os quit setattr super type vars sys typing enum Enum Flag ABC
Generic Protocol namedtuple NamedTuple dataclass overload contextmanager""".split())
CHANGING = {"append", "clear", "extend", "insert", "pop", "remove", "reverse", "setdefault", "update"}
AT_ONCE = {"zip", "enumerate", "reversed"}
TAKERS = {"list", "tuple", "dict", "sorted", "sum", "any", "all", "enumerate", "zip", "min", "max"}
NOT_ALLOWED = (ast.Global, ast.AsyncFunctionDef, ast.Await, ast.GeneratorExp, ast.Set, ast.SetComp,
               ast.NamedExpr, ast.Div, ast.AnnAssign, ast.Import)


def read_all():
    """Return the source and the tree of each file, by the name of the module."""
    found = {}
    for name in sorted(os.listdir(FOLDER)):
        if name != "__pycache__":
            with open(os.path.join(FOLDER, name), encoding="utf-8") as file:
                source = file.read()
            found[name] = (source, ast.parse(source) if name.endswith(".py") else None)
    return found


FILES = read_all()
TREES = {name[:-3]: tree for name, (_, tree) in FILES.items() if tree is not None}


def functions_of(tree):
    """Return all functions and methods of a tree."""
    return [node for node in ast.walk(tree) if isinstance(node, ast.FunctionDef)]


def is_generator(function):
    """Tell whether a function yields."""
    return any(isinstance(node, (ast.Yield, ast.YieldFrom)) for node in ast.walk(function))


def names_bound(function):
    """Return the parameters and local variables of a function."""
    spec = function.args
    found = {arg.arg for arg in spec.args + spec.kwonlyargs + spec.posonlyargs}
    found |= {arg.arg for arg in (spec.vararg, spec.kwarg) if arg}
    found |= {n.id for n in ast.walk(function) if isinstance(n, ast.Name) and isinstance(n.ctx, ast.Store)}
    return found


def called_names(function):
    """Return the names and the method names that a function calls, and the attributes that it reads."""
    found = set()
    for node in ast.walk(function):
        if isinstance(node, ast.Call) and isinstance(node.func, ast.Name):
            found.add(node.func.id)
        if isinstance(node, ast.Attribute):
            found.add(node.attr)
    return found


def pure_functions():
    """Return the functions that operators and properties run, by the names that they call."""
    by_name, starts = {}, []
    for tree in TREES.values():
        for function in functions_of(tree):
            by_name.setdefault(function.name, []).append(function)
            plain = function.name.startswith("__") and function.name not in FREE_SPECIAL
            if plain or any(isinstance(d, ast.Name) and d.id == "property" for d in function.decorator_list):
                starts.append(function)
        for node in tree.body:
            if isinstance(node, ast.ClassDef):
                made = [f for f in node.body if isinstance(f, ast.FunctionDef) and f.name == "__init__"]
                by_name.setdefault(node.name, []).extend(made)
    found, waiting = [], list(starts)
    while waiting:
        function = waiting.pop()
        if function not in found:
            found.append(function)
            for name in called_names(function):
                waiting.extend(by_name.get(name, []))
    return found


def is_new(value):
    """Tell whether an expression surely gives a new list or dict."""
    if isinstance(value, (ast.List, ast.Dict, ast.ListComp, ast.DictComp)):
        return True
    if isinstance(value, ast.Call):
        return getattr(value.func, "id", None) in ("list", "dict", "sorted")
    if isinstance(value, ast.BinOp):
        times = isinstance(value.op, ast.Mult) and isinstance(value.left, ast.List)
        return times or isinstance(value.op, ast.Add) and is_new(value.left) and is_new(value.right)
    return isinstance(value, ast.Subscript) and isinstance(value.slice, ast.Slice)


def changed_names(function):
    """Return what a function changes items of, as texts."""
    found = set()
    for node in ast.walk(function):
        if isinstance(node, ast.Subscript) and isinstance(node.ctx, (ast.Store, ast.Del)):
            found.add(ast.unparse(node.value))
        if isinstance(node, ast.Call) and isinstance(node.func, ast.Attribute) and node.func.attr in CHANGING:
            found.add(ast.unparse(node.func.value))
    return found


class LanguageTest(unittest.TestCase):
    """One test for each kind of rule."""

    def test_files(self):
        for name, (source, _) in FILES.items():
            self.assertRegex(name, r"^[a-z_]+\.py$")
            self.assertIsNone(re.search(r"[^\n -~]", source), name)
            lines = source.split("\n")
            self.assertLessEqual(len(lines), 400, name)
            for line in lines:
                self.assertLessEqual(len(line), 120, (name, line))
            for barred in ("(type)", "Meta", "metaclass=", "_wall"):
                self.assertNotIn(barred, source, name)

    def test_functions_are_short(self):
        for name, tree in TREES.items():
            for function in functions_of(tree):
                self.assertLessEqual(function.end_lineno - function.lineno + 1, 40, (name, function.name))

    def test_module_level(self):
        for name, tree in TREES.items():
            allowed = (ast.ImportFrom, ast.FunctionDef, ast.ClassDef)
            for place, node in enumerate(tree.body):
                text = isinstance(node, ast.Expr) and isinstance(node.value, ast.Constant) and place == 0
                value = isinstance(node, ast.Assign) and isinstance(node.targets[0], ast.Name)
                if value:
                    ast.literal_eval(node.value)
                self.assertTrue(text or value or isinstance(node, allowed), (name, node.lineno))

    def test_imports(self):
        defined = {}
        for name, tree in TREES.items():
            defined[name] = {n.name for n in tree.body if isinstance(n, (ast.FunctionDef, ast.ClassDef))}
            defined[name] |= {n.targets[0].id for n in tree.body if isinstance(n, ast.Assign)}
        asked = {name: set() for name in TREES}
        for name, tree in TREES.items():
            for node in [n for n in ast.walk(tree) if isinstance(n, ast.ImportFrom)]:
                self.assertIn(node, tree.body)
                self.assertEqual(node.level, 0)
                self.assertTrue(all(alias.asname is None for alias in node.names))
                taken = {alias.name for alias in node.names}
                package, _, module = node.module.partition(".")
                if package == "shortbynarrow":
                    self.assertLessEqual(taken, defined[module], (name, module))
                    asked[name].add(module)
                else:
                    self.assertLessEqual(taken, LIBRARY[node.module], name)
        done = set()
        while len(done) < len(asked):
            ready = {name for name in asked if name not in done and asked[name] <= done}
            self.assertTrue(ready, "files import each other")
            done |= ready

    def test_nodes(self):
        for name, tree in TREES.items():
            for node in ast.walk(tree):
                self.assertNotIsInstance(node, NOT_ALLOWED, name)
                if isinstance(node, ast.Constant):
                    self.assertNotIsInstance(node.value, (float, complex))
                    if isinstance(node.value, str):
                        self.assertNotIn("%", node.value)
                if isinstance(node, ast.Compare):
                    for sign, value in zip(node.ops, node.comparators):
                        if isinstance(sign, (ast.Is, ast.IsNot)):
                            self.assertIn(getattr(value, "value", 0), (None, True, False))
                if isinstance(node, ast.BinOp) and isinstance(node.op, ast.Pow):
                    self.assertIsInstance(node.right, ast.Constant)
                if isinstance(node, ast.Try):
                    self.assertTrue(all(handler.type is not None for handler in node.handlers))
                if isinstance(node, (ast.FunctionDef, ast.ClassDef)):
                    for one in node.decorator_list:
                        if isinstance(one, ast.Attribute):
                            self.assertEqual((one.attr, one.value.id), ("setter", node.name))
                        else:
                            self.assertIn(one.id, ("property", "staticmethod", "classmethod"))
                if isinstance(node, ast.FunctionDef) and node.name.startswith("__"):
                    self.assertIn(node.name, SPECIAL)
                if isinstance(node, ast.Assert):
                    self.assertNotIsInstance(node.test, ast.Tuple)

    def test_names(self):
        own = {f.name for tree in TREES.values() for f in functions_of(tree)}
        for name, tree in TREES.items():
            taken = {a.name for n in tree.body if isinstance(n, ast.ImportFrom) for a in n.names}
            taken |= {n.name for n in tree.body if isinstance(n, ast.ClassDef)}
            for node in [n for n in ast.walk(tree) if isinstance(n, ast.ClassDef)]:
                self.assertRegex(node.name, "^[A-Z]")
            for function in functions_of(tree):
                bound = names_bound(function)
                self.assertFalse({function.name} & set(dir(builtins)), (name, function.name))
                self.assertFalse(bound & taken, (name, function.name))
                self.assertFalse(bound & set(dir(builtins)), (name, function.name))
                self.assertFalse((bound | {function.name}) & BARRED, (name, function.name))
            for node in ast.walk(tree):
                if isinstance(node, ast.Name) and node.id in dir(builtins):
                    self.assertIn(node.id, BUILTINS, (name, node.lineno))
                if isinstance(node, ast.Call) and isinstance(node.func, ast.Attribute):
                    self.assertIn(node.func.attr, METHODS | own, (name, node.lineno))

    def test_names_in_comprehensions(self):
        kinds = (ast.ListComp, ast.DictComp)
        for name, tree in TREES.items():
            for function in functions_of(tree):
                outer = [n for n in ast.walk(function) if isinstance(n, kinds)]
                inner = {n for one in outer for n in ast.walk(one) if isinstance(n, kinds) and n is not one}
                hidden = {n for one in outer for n in ast.walk(one)}
                assigned = {n.id for n in ast.walk(function) if isinstance(n, ast.Name)
                            and isinstance(n.ctx, ast.Store) and n not in hidden}
                assigned |= {arg.arg for arg in function.args.args}
                for one in inner:
                    for part in one.generators:
                        own = {n.id for n in ast.walk(part.target) if isinstance(n, ast.Name)}
                        self.assertFalse(own & assigned, (name, function.name))

    def test_iterated_at_once(self):
        for name, tree in TREES.items():
            fine = set()
            for node in ast.walk(tree):
                if isinstance(node, (ast.For, ast.comprehension)):
                    fine.add(node.iter)
                if isinstance(node, ast.Call) and isinstance(node.func, ast.Name) and node.args:
                    if node.func.id in TAKERS:
                        fine.update(node.args if node.func.id == "zip" else node.args[:1])
            for node in ast.walk(tree):
                if isinstance(node, ast.Call):
                    called = getattr(node.func, "id", getattr(node.func, "attr", None))
                    if called in AT_ONCE or called in ("items", "keys", "values"):
                        self.assertIn(node, fine, (name, node.lineno))
                    if called == "reversed":
                        self.assertIn(node.args[0].func.id, ("list", "tuple", "sorted", "range"))

    def test_loops_change_nothing_they_go_over(self):
        for name, tree in TREES.items():
            for loop in [n for n in ast.walk(tree) if isinstance(n, ast.For)]:
                over = {n.id for n in ast.walk(loop.iter) if isinstance(n, ast.Name)}
                for node in [n for row in loop.body for n in ast.walk(row)]:
                    changed = None
                    if isinstance(node, ast.Subscript) and isinstance(node.ctx, (ast.Store, ast.Del)):
                        changed = getattr(node.value, "id", None)
                    if isinstance(node, ast.Call) and isinstance(node.func, ast.Attribute):
                        if node.func.attr in CHANGING:
                            changed = getattr(node.func.value, "id", None)
                    self.assertFalse(changed in over and changed is not None, (name, loop.lineno))

    def test_operators_change_nothing(self):
        for function in pure_functions():
            params = {arg.arg for arg in function.args.args}
            for node in ast.walk(function):
                where = (function.name, getattr(node, "lineno", 0))
                if isinstance(node, ast.AugAssign):
                    self.assertIsInstance(node.value, ast.Constant, where)
                if isinstance(node, ast.Attribute) and isinstance(node.ctx, ast.Store):
                    self.assertEqual(function.name, "__init__", where)
                if isinstance(node, ast.Subscript) and isinstance(node.ctx, (ast.Store, ast.Del)):
                    self.assertNotIn(node.value.id, params, where)
                if isinstance(node, ast.Call) and isinstance(node.func, ast.Attribute):
                    if node.func.attr in CHANGING:
                        self.assertNotIn(node.func.value.id, params, where)
                if isinstance(node, ast.Call) and isinstance(node.func, ast.Name):
                    self.assertNotIn(node.func.id, params - {"cls"}, where)
                self.assertNotIsInstance(node, (ast.Yield, ast.YieldFrom), where)

    def test_operators_change_only_what_they_created(self):
        for function in pure_functions():
            values = {}
            for node in ast.walk(function):
                if isinstance(node, ast.Assign):
                    for target in node.targets:
                        plain = isinstance(target, ast.Name)
                        stored = [n for n in ast.walk(target) if isinstance(n, ast.Name) and isinstance(n.ctx, ast.Store)]
                        for name in [n.id for n in stored]:
                            values.setdefault(name, []).append(plain and is_new(node.value))
                if isinstance(node, ast.For):
                    for name in [n.id for n in ast.walk(node.target) if isinstance(n, ast.Name)]:
                        values.setdefault(name, []).append(False)
            for name in changed_names(function):
                self.assertTrue(name in values and all(values[name]), (function.name, name))

    def test_methods_attributes_and_properties(self):
        methods, properties, attributes, read = set(), set(), set(), set()
        for tree in TREES.values():
            for function in [f for c in tree.body if isinstance(c, ast.ClassDef) for f in c.body]:
                if isinstance(function, ast.FunctionDef):
                    marks = [ast.unparse(one) for one in function.decorator_list]
                    accessor = any(mark == "property" or mark.endswith(".setter") for mark in marks)
                    (properties if accessor else methods).add(function.name)
            for node in [n for n in ast.walk(tree) if isinstance(n, ast.Attribute)]:
                (attributes if isinstance(node.ctx, ast.Store) else read).add(node.attr)
        self.assertFalse(methods & attributes)
        self.assertFalse(properties & (attributes | methods))
        self.assertFalse(attributes & (METHODS - {"count", "index", "find", "get", "join", "lower", "upper", "split",
                                                  "strip", "copy"}))
        values = {"KIND", "setter"}
        self.assertLessEqual(read, methods | properties | attributes | METHODS | values)

    def test_blocks_with_an_exit(self):
        for tree in TREES.values():
            for function in functions_of(tree):
                if function.name == "__exit__":
                    for row in function.body:
                        self.assertIsInstance(row, ast.Assign)
                        self.assertIsInstance(row.value, ast.Attribute)
            for node in [n for n in ast.walk(tree) if isinstance(n, ast.With)]:
                self.assertTrue(all(isinstance(item.context_expr, ast.Call) for item in node.items))

    def test_generators(self):
        others = [f for tree in TREES.values() for f in functions_of(tree) if not is_generator(f)]
        free = {f for tree in TREES.values() for f in tree.body if isinstance(f, ast.FunctionDef)}
        bound = {name for f in others for name in names_bound(f)}
        for generator in [f for tree in TREES.values() for f in functions_of(tree) if is_generator(f)]:
            # functions of a file, so neither methods with two underscores nor properties
            self.assertIn(generator, free, generator.name)
            self.assertNotIn(generator.name, METHODS | bound | {f.name for f in others})
            rows = {row.value for row in ast.walk(generator) if isinstance(row, ast.Expr)}
            for node in ast.walk(generator):
                self.assertNotIsInstance(node, (ast.Try, ast.With), generator.name)
                if isinstance(node, (ast.Yield, ast.YieldFrom)):
                    self.assertIn(node, rows, generator.name)
                if isinstance(node, ast.Return):
                    self.assertIsNone(node.value, generator.name)

    def test_generators_are_iterated_at_once(self):
        made = {f.name for tree in TREES.values() for f in functions_of(tree) if is_generator(f)}
        for name, tree in TREES.items():
            at_once, calls = set(), set()
            for node in ast.walk(tree):
                if isinstance(node, (ast.For, ast.comprehension)):
                    at_once.add(node.iter)
                if isinstance(node, ast.YieldFrom):
                    at_once.add(node.value)
                if isinstance(node, ast.Call) and getattr(node.func, "id", None) in ("list", "tuple"):
                    at_once.update(node.args)
            for node in ast.walk(tree):
                if isinstance(node, ast.Call) and getattr(node.func, "id", None) in made:
                    self.assertIn(node, at_once, (name, node.lineno))
                    self.assertTrue(all(isinstance(one, ast.Name) for one in node.args), (name, node.lineno))
                    calls.add(node.func)
            for node in ast.walk(tree):
                if isinstance(node, ast.Name) and node.id in made:
                    self.assertIn(node, calls, (name, node.lineno))

    def test_iteration_methods(self):
        stored = {n.attr for tree in TREES.values() for n in ast.walk(tree)
                  if isinstance(n, ast.Attribute) and isinstance(n.ctx, ast.Store)}
        accessors = {f.name for tree in TREES.values() for f in functions_of(tree) if f.decorator_list}
        found = 0
        for name, tree in TREES.items():
            fine = set()
            for function in [f for f in functions_of(tree) if f.name == "__iter__"]:
                rows = [row for row in function.body if not isinstance(getattr(row, "value", 0), ast.Constant)]
                self.assertEqual(len(rows), 1, name)
                self.assertIsInstance(rows[0], ast.Return, name)
                match = re.fullmatch(r"iter\(self\.([a-z_]+)(?:\.([a-z_]+))?\)", ast.unparse(rows[0].value))
                self.assertIsNotNone(match, name)
                for attribute in [word for word in match.groups() if word]:
                    self.assertIn(attribute, stored - accessors, name)
                fine.add(rows[0].value.func)
                found += 1
            for node in ast.walk(tree):
                if isinstance(node, ast.Name) and node.id == "iter":
                    self.assertIn(node, fine, (name, node.lineno))
        self.assertEqual(found, 3)


if __name__ == "__main__":
    unittest.main()
