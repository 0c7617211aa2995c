"""That the package keeps to its small part of Python: of the rules of LANGUAGE.md those that the text of a file shows.

Where a rule lets more by than the package needs, the check is narrower than the rule: no generators and generator
expressions, no sets but those that are sorted or counted on the spot, no try but for errors of the package, no library
modules but some functions of math, no keywords but key, no operators but those of READING, no bases but of errors.
"""

import ast
import builtins
import pathlib
import re
import unittest

PACKAGE = pathlib.Path(__file__).parent.parent / "onescale"

STATEMENTS = (ast.Assign, ast.AugAssign, ast.If, ast.While, ast.For, ast.Return, ast.Break, ast.Continue, ast.Pass,
              ast.Raise, ast.Expr, ast.FunctionDef, ast.Try)
EXPRESSIONS = (ast.BoolOp, ast.BinOp, ast.UnaryOp, ast.IfExp, ast.Dict, ast.ListComp, ast.DictComp, ast.Compare, ast.Call,
               ast.Constant, ast.Attribute, ast.Subscript, ast.Starred, ast.Name, ast.List, ast.Tuple, ast.Slice)
BUILTINS = {"len", "range", "enumerate", "zip", "min", "max", "sum", "abs", "sorted", "int", "str", "bool", "list",
            "tuple", "dict", "set", "isinstance", "any", "all", "divmod", "ValueError"}
METHODS = {"append", "bit_length", "count", "extend", "find", "get", "index", "items", "join", "partition", "pop", "split", "startswith",
           "endswith", "strip", "isdigit", "keys", "values"}
BARRED = {"register", "mro", "elements", "open", "input", "law", "version_info", "with_traceback", "add_note", "type",
          "typing", "enum", "Enum", "namedtuple", "Protocol", "Generic", "dataclass", "overload", "contextmanager",
          "eval", "exec", "exit", "globals", "locals", "vars", "dir", "id", "super", "getattr", "setattr", "hasattr",
          "compile", "help", "license", "copyright", "credits", "quit", "gc", "os", "sys", "importlib", "format"}
ERROR_BASE = "ValueError"

# The methods with two underscores that the package has; all but __init__ only read.
READING = ("__len__", "__contains__", "__getitem__", "__iter__", "__eq__")

# What no attribute and no method may be called, as values of Python's own have it, or as callers would mistake it.
TAKEN = {"items", "keys", "values", "pop", "update", "append", "clear", "extend", "insert", "remove", "reverse", "setdefault",
         "sort", "args", "encode", "decode", "hex", "fromhex", "format"}

# They may be imported, and are only called, by their bare names, with all arguments by position.
MATH = ("comb", "factorial", "gcd")

# The methods that change a list or a dict.
CHANGING = ("append", "extend", "insert", "pop", "remove", "clear", "reverse", "sort", "setdefault", "update")


def files():
    """The pairs of a file of the package and of its text."""
    return [(path, path.read_text(encoding="ascii")) for path in sorted(PACKAGE.rglob("*.py"))]


def bound_names(tree):
    """The names of parameters, variables, functions, classes, imports and caught errors in a part of a file."""
    found = []
    for node in ast.walk(tree):
        if isinstance(node, ast.Name) and isinstance(node.ctx, (ast.Store, ast.Del)):
            found.append(node.id)
        elif isinstance(node, ast.arg):
            found.append(node.arg)
        elif isinstance(node, (ast.FunctionDef, ast.ClassDef)):
            found.append(node.name)
        elif isinstance(node, ast.alias):
            found.append(node.asname or node.name)
        elif isinstance(node, ast.ExceptHandler) and node.name:
            found.append(node.name)
    return found


def methods_of(found):
    """The methods of a class."""
    return [node for node in found.body if isinstance(node, ast.FunctionDef)]


def imports_of(tree):
    """The pairs of a module and of a name that a file imports from it."""
    return [(node.module, alias.name) for node in tree.body if isinstance(node, ast.ImportFrom) for alias in node.names]


def things_of(node):
    """The names and attributes that may be, or may have among their items, the very thing that an expression gives."""
    if isinstance(node, ast.Subscript):
        return [] if isinstance(node.slice, ast.Slice) else things_of(node.value)
    if isinstance(node, ast.IfExp):
        return things_of(node.body) + things_of(node.orelse)
    if isinstance(node, ast.BoolOp):
        return [name for value in node.values for name in things_of(value)]
    # An attribute of this name of whatever object.
    if isinstance(node, ast.Attribute):
        return ["." + node.attr]
    return [node.id] if isinstance(node, ast.Name) else []


def walked_in(node):
    """The names and attributes over which a loop goes that is told to go over an expression."""
    if not isinstance(node, ast.Call):
        return things_of(node)
    if isinstance(node.func, ast.Attribute) and node.func.attr in ("items", "keys", "values"):
        return things_of(node.func.value)
    if isinstance(node.func, ast.Name) and node.func.id in ("enumerate", "zip", "reversed"):
        return [name for one in node.args for name in walked_in(one)]
    return []


def changed_by(node):
    """The names and attributes that a part of a function changes itself; to give a name anew changes nothing."""
    if isinstance(node, ast.Call) and isinstance(node.func, ast.Attribute) and node.func.attr in CHANGING:
        return things_of(node.func.value)
    if isinstance(node, ast.AugAssign):
        return things_of(node.target)
    if isinstance(node, (ast.Subscript, ast.Attribute)) and isinstance(node.ctx, (ast.Store, ast.Del)):
        return things_of(node.value if isinstance(node, ast.Subscript) else node)
    return []


def given_by(target, value):
    """The lists of names and attributes that an assignment gives to one thing."""
    if isinstance(target, ast.Tuple) and isinstance(value, ast.Tuple) and len(target.elts) == len(value.elts):
        return [names for pair in zip(target.elts, value.elts) for names in given_by(*pair)]
    if isinstance(target, ast.Tuple):
        return [names for one in target.elts for names in given_by(one, value)]
    return [things_of(target) + things_of(value)]


def names_alike(function):
    """For each name or attribute that a function assigns: all that may be one thing with it, wherever assigned."""
    alike = {}
    for node in ast.walk(function):
        if isinstance(node, ast.Assign):
            rows = [names for target in node.targets for names in given_by(target, node.value)]
            if len(node.targets) > 1:
                rows.append([name for target in node.targets for name in things_of(target)])
            for names in rows:
                joined = set(names).union(*[alike.get(name, set()) for name in names])
                alike.update({name: joined for name in joined})
    return alike


def changed_while_walked(function):
    """The ascending lines in which a loop of a function changes what it goes over, by this or by another name of it."""
    alike = names_alike(function)
    found = []
    for loop in ast.walk(function):
        if isinstance(loop, ast.For):
            over, within = [loop.iter], loop.body
        elif isinstance(loop, (ast.ListComp, ast.DictComp, ast.SetComp)):
            over, within = [part.iter for part in loop.generators], [loop]
        else:
            continue
        walked = [name for node in over for name in walked_in(node)]
        barred = set(walked).union(*[alike.get(name, set()) for name in walked])
        inner = [node for part in within for node in ast.walk(part)]
        found.extend(node.lineno for node in inner if barred.intersection(changed_by(node)))
    return sorted(set(found))


class Language(unittest.TestCase):

    def each(self):
        for path, text in files():
            yield path, text, ast.parse(text)

    def test_folder(self):
        # L1, L14
        self.assertTrue((PACKAGE / "__init__.py").exists())
        names = [path.name for path in PACKAGE.iterdir() if path.name != "__pycache__"]
        self.assertLessEqual(len(names), 100)
        for name in names:
            self.assertRegex(name, "^([a-z][a-z0-9_]*|__init__)[.]py$")
            self.assertNotIn(name[:-3], dir(builtins))

    def test_signs_and_sizes(self):
        # L10, L14
        for path, text in files():
            lines = text.split("\n")
            self.assertFalse(re.findall("[^ -~\n]", text), path)
            self.assertLessEqual(len(lines), 399, path)
            self.assertLessEqual(max(len(line) for line in lines), 120, path)
            for node in ast.walk(ast.parse(text)):
                if isinstance(node, ast.FunctionDef):
                    self.assertLessEqual(node.end_lineno - node.lineno + 1, 40, (path, node.name))

    def test_module_level(self):
        # L3, L15
        for path, _, tree in self.each():
            names = []
            for place, node in enumerate(tree.body):
                if isinstance(node, ast.Expr):
                    self.assertTrue(place == 0 and isinstance(node.value, ast.Constant))
                elif isinstance(node, ast.Assign):
                    self.assertTrue(len(node.targets) == 1 and isinstance(node.targets[0], ast.Name))
                    self.assertIsInstance(ast.literal_eval(node.value), (int, str, dict))
                    names.append(node.targets[0].id)
                elif isinstance(node, ast.ImportFrom):
                    names.extend(alias.name for alias in node.names)
                else:
                    self.assertIsInstance(node, (ast.FunctionDef, ast.ClassDef))
                    names.append(node.name)
            self.assertEqual(len(names), len(set(names)))

    def test_imports(self):
        # L2, L16
        defined = {"onescale." + path.stem: [node.name for node in tree.body
                                             if isinstance(node, (ast.FunctionDef, ast.ClassDef))]
                   + [node.targets[0].id for node in tree.body if isinstance(node, ast.Assign)]
                   for path, _, tree in self.each()}
        wanted = {}
        for path, text, tree in self.each():
            self.assertFalse([node for node in ast.walk(tree) if isinstance(node, ast.Import)])
            rows = imports_of(tree)
            self.check_math(tree, [name for module, name in rows if module == "math"])
            rows = [row for row in rows if row[0] != "math"]
            wanted["onescale." + path.stem] = [module for module, _ in rows]
            for module, name in rows:
                self.assertIn(name, defined[module])
                self.assertFalse(name.startswith("_"))
                self.assertGreater(len(re.findall(r"\b" + name + r"\b", text)), 1, "imported and not used")
            for node in tree.body:
                if isinstance(node, ast.ImportFrom):
                    self.assertEqual(node.level, 0)
                    self.assertFalse([alias for alias in node.names if alias.asname])
        done = []
        while len(done) < len(wanted):
            ready = [module for module in wanted if module not in done and all(name in done for name in wanted[module])]
            self.assertTrue(ready, "files import from each other")
            done.extend(ready)

    def check_math(self, tree, names):
        # L2
        self.assertFalse([name for name in names if name not in MATH])
        called = [node.func for node in ast.walk(tree) if isinstance(node, ast.Call) and not node.keywords
                  and not [one for one in node.args if isinstance(one, ast.Starred)]]
        used = [node for node in ast.walk(tree) if isinstance(node, ast.Name) and node.id in names]
        self.assertFalse([node for node in used if node not in called])
        self.assertEqual(sorted(set(node.id for node in used)), sorted(names))

    def test_statements_and_expressions(self):
        # L6, L7, L24
        for path, _, tree in self.each():
            for function in [node for node in ast.walk(tree) if isinstance(node, ast.FunctionDef)]:
                self.assertIn([ast.unparse(node) for node in function.decorator_list], ([], ["property"]))
                for node in ast.walk(function):
                    if isinstance(node, ast.stmt):
                        self.assertIsInstance(node, STATEMENTS)
                    elif isinstance(node, ast.expr):
                        self.assertIsInstance(node, EXPRESSIONS, ast.unparse(node))
                    self.assertNotIsInstance(node, (ast.Div, ast.MatMult, ast.Pow))
                    if isinstance(node, ast.Constant):
                        self.assertNotIsInstance(node.value, (float, complex, bytes))
                        self.assertFalse(isinstance(node.value, str) and "%" in node.value)
                    if isinstance(node, ast.Compare):
                        for operator, side in zip(node.ops, node.comparators):
                            if isinstance(operator, (ast.Is, ast.IsNot)):
                                self.assertTrue(isinstance(side, ast.Constant) and side.value in (None, True, False))

    def test_sets_are_used_on_the_spot(self):
        # L24
        for path, _, tree in self.each():
            on_the_spot = [node.args[0] for node in ast.walk(tree) if isinstance(node, ast.Call)
                           and isinstance(node.func, ast.Name) and node.func.id in ("sorted", "len") and not node.keywords]
            for node in ast.walk(tree):
                if isinstance(node, ast.Call) and isinstance(node.func, ast.Name) and node.func.id == "set":
                    self.assertIn(node, on_the_spot)

    def test_kept_iterators(self):
        # L23
        for path, _, tree in self.each():
            iterated = []
            for node in ast.walk(tree):
                if isinstance(node, (ast.For, ast.comprehension)):
                    iterated.append(node.iter)
                elif isinstance(node, ast.Call) and isinstance(node.func, ast.Name):
                    iterated.extend(node.args)
            for node in ast.walk(tree):
                if isinstance(node, ast.Call):
                    name = node.func.id if isinstance(node.func, ast.Name) else node.func.attr
                    if name in ("range", "enumerate", "zip", "items", "keys", "values"):
                        self.assertIn(node, iterated)

    def test_calls(self):
        # L8, L22, L25
        methods = METHODS | {method.name for _, _, found in self.classes() for method in methods_of(found)}
        for path, _, tree in self.each():
            own = bound_names(tree)
            for node in ast.walk(tree):
                if isinstance(node, ast.Name) and node.id not in own:
                    self.assertIn(node.id, BUILTINS | {"property", "iter"})
                if isinstance(node, ast.Call):
                    self.assertIsInstance(node.func, (ast.Name, ast.Attribute))
                    if isinstance(node.func, ast.Attribute) and node.func.attr != "__init__":
                        self.assertIn(node.func.attr, methods)
                    for keyword in node.keywords:
                        self.assertIn(keyword.arg, ("key",))
                    if isinstance(node.func, ast.Name) and node.func.id == "isinstance":
                        self.assertIn(ast.unparse(node.args[1]), ("int", "str", "bool", "list", "tuple", "dict", "Board"))

    def test_names(self):
        # L8, L12, L15, L17
        for path, text, tree in self.each():
            imported = [name for _, name in imports_of(tree)]
            for name in bound_names(tree):
                self.assertTrue(re.match("^(_|_?[A-Za-z][A-Za-z0-9_]*|__init__)$", name) or name in READING, name)
                self.assertNotIn(name, dir(builtins))
                self.assertNotIn(name, BARRED)
            for node in ast.walk(tree):
                if isinstance(node, ast.Name) and isinstance(node.ctx, ast.Store):
                    self.assertNotIn(node.id, imported)
                    self.assertFalse(node.id == "_" and isinstance(node.ctx, ast.Load))
                elif isinstance(node, ast.arg):
                    self.assertNotIn(node.arg, imported)
                elif isinstance(node, ast.Attribute):
                    self.assertNotIn(node.attr, BARRED)
                elif isinstance(node, ast.Constant) and isinstance(node.value, str):
                    self.assertFalse([word for word in ("type", "typing", "enum") if node.value == word])

    def test_functions_do_not_hide_module_names(self):
        for path, _, tree in self.each():
            above = [node.name for node in tree.body if isinstance(node, (ast.FunctionDef, ast.ClassDef))]
            for function in [node for node in tree.body if isinstance(node, ast.FunctionDef)]:
                self.assertFalse([name for name in bound_names(function)[1:] if name in above], function.name)

    def test_loops_do_not_change_what_they_go_over(self):
        # L23
        for path, _, tree in self.each():
            for loop in [node for node in ast.walk(tree) if isinstance(node, ast.For)]:
                over = ast.unparse(loop.iter)
                for node in ast.walk(ast.Module(loop.body, [])):
                    if isinstance(node, ast.Call) and isinstance(node.func, ast.Attribute):
                        if node.func.attr in ("append", "extend", "pop", "insert", "remove", "clear"):
                            self.assertNotRegex(over, r"\b" + re.escape(ast.unparse(node.func.value)) + r"\b")

    def test_loops_do_not_change_what_they_go_over_by_another_name(self):
        # L5, L23
        for path, _, tree in self.each():
            for function in [node for node in ast.walk(tree) if isinstance(node, ast.FunctionDef)]:
                self.assertEqual(changed_while_walked(function), [], (path, function.name))

    def test_loops_that_change_what_they_go_over_are_found(self):
        loop = ["for k in a:", "    b[k] = 1"]
        wrong = [loop + ["a = b"], ["for k in a:", "    a[k] = 1"], ["for k in a:", "    a += [k]"]]
        wrong += [[line] + loop for line in (
            "a = b", "a, c = b", "a, c = 1, a; c, a = 2, b", "a = c; c = b", "c = a = b = {}", "a = b if c else d", "a = c or b",
            "a = b[0]")]
        wrong += [["a = b"] + rows for rows in (
            ["for k in a:", "    if k:", "        c = b[k] = 1"], ["for k in a:", "    c, b[k] = 1, 2"],
            ["for k, v in enumerate(a):", "    b[k] += v"], ["for k, v in a.items():", "    b[k] = v"],
            ["for k, v in zip(c, a):", "    b.extend(k)"], ["for k in c:", "    for v in a:", "        b[v] = k"],
            ["c = [b.append(k) for k in a]"])]
        wrong += [["for k in a if c else b:", "    b.append(k)"], ["for k in a or b:", "    b.append(k)"],
                  ["for k in a[0]:", "    a[0].pop()"], ["for k in a.c:", "    b.c.append(k)"], ["for k in a.c:", "    b.c = k"],
                  ["a.c = b", "for k in a.c:", "    b.pop()"]]
        for rows in wrong:
            self.assertEqual(len(self.lines_found(rows)), 1, rows)
        right = [[line] + loop for line in ("b = dict(a)", "b = a[:]", "a = told(a, b, c, d)", "a, c = d, b")]
        right += [["a = b"] + rows for rows in (
            ["for k in list(a):", "    b[k] = 1"], ["for k in a:", "    b = k"], ["for k in a:", "    c = k", "b[0] = 1"])]
        right += [["for k in sorted(a):", "    a.pop()"], ["for k in a[1:]:", "    a[0] = k"], ["for k in range(a):", "    a += k"]]
        for rows in right:
            self.assertEqual(self.lines_found(rows), [], rows)

    def lines_found(self, rows):
        return changed_while_walked(ast.parse("\n    ".join(["def tried(a, b, c, d):"] + rows)).body[0])

    def test_errors(self):
        # L18, L19, L28
        own = [found.name for path, _, found in self.classes() if path.name == "errors.py"]
        for path, _, tree in self.each():
            handlers = [node for node in ast.walk(tree) if isinstance(node, ast.ExceptHandler)]
            bare = [node for handler in handlers for node in ast.walk(handler) if isinstance(node, ast.Raise) and node.exc is None]
            for node in ast.walk(tree):
                if isinstance(node, ast.Raise) and node not in bare:
                    self.assertIsInstance(node.exc, ast.Call)
                    self.assertIn(node.exc.func.id, own)
                    self.assertIsNone(node.cause)
                if isinstance(node, ast.Try):
                    self.assertFalse(node.orelse or node.finalbody)
            for handler in handlers:
                self.assertIn(ast.unparse(handler.type), own)
                # What is caught is only asked for its own.
                uses = [node for node in ast.walk(handler) if isinstance(node, ast.Name) and node.id == handler.name]
                asked = [node.value for node in ast.walk(handler) if isinstance(node, ast.Attribute) and node.attr == "kind"]
                self.assertFalse([node for node in uses if node not in asked])

    def classes(self):
        for path, text, tree in self.each():
            for node in tree.body:
                if isinstance(node, ast.ClassDef):
                    yield path, text, node

    def test_classes(self):
        # L5, L18
        for path, _, found in self.classes():
            self.assertFalse(found.decorator_list or found.keywords)
            wanted = [ERROR_BASE if found.name == "TripError" else "TripError"] if path.name == "errors.py" else []
            self.assertEqual([base.id for base in found.bases], wanted)
            methods = [method.name for method in methods_of(found)]
            self.assertEqual(len(methods), len(set(methods)))
            self.assertFalse([node for node in found.body if not isinstance(node, (ast.FunctionDef, ast.Expr))])
            self.assertTrue("__getitem__" not in methods or "__iter__" in methods)
            self.assertTrue("__iter__" not in methods or "return iter(self." in ast.unparse(found))

    def test_what_only_reads(self):
        # L5, L28: properties and operators are made of conditions, returns and errors.
        properties = []
        for _, _, found in self.classes():
            for method in methods_of(found):
                if method.decorator_list:
                    properties.append(method.name)
                if method.decorator_list or method.name in READING:
                    for node in ast.walk(ast.Module(method.body, [])):
                        if isinstance(node, ast.stmt):
                            self.assertTrue(isinstance(node, (ast.Return, ast.If, ast.Raise))
                                            or isinstance(node, ast.Expr) and isinstance(node.value, ast.Constant), method.name)
                        if isinstance(node, ast.Call):
                            self.assertIn(ast.unparse(node.func), ("len", "iter", "isinstance", "tuple", "rule_at", "is_integer",
                                                                  "self._now.items"))
                if method.name == "__len__":
                    self.assertRegex(ast.unparse(method.body[-1]), "^return len[(]self[.]_[a-z]+[)]$")
        plain = [method.name for _, _, found in self.classes() for method in methods_of(found) if not method.decorator_list]
        self.assertFalse([name for name in properties if name in plain or name in METHODS | TAKEN])

    def test_attributes(self):
        # L8, L18, L26
        stored, methods = [], []
        for _, _, found in self.classes():
            own = [node.attr for node in ast.walk(found) if isinstance(node, ast.Attribute) and isinstance(node.ctx, ast.Store)]
            self.assertFalse([method.name for method in methods_of(found) if method.name in own])
            stored.extend(own)
            methods.extend(method.name for method in methods_of(found))
        self.assertFalse([name for name in stored if name in methods or name in TAKEN])
        self.assertFalse([name for name in methods if name in TAKEN])
        for path, _, tree in self.each():
            for node in ast.walk(tree):
                if isinstance(node, ast.Attribute):
                    self.assertIn(node.attr, stored + methods + list(METHODS) + ["__class__", "__name__"])
                    self.assertTrue(node.attr != "__class__" or ast.unparse(node) == "self.__class__")
                    self.assertTrue(node.attr != "__name__" or ast.unparse(node) == "self.__class__.__name__")
                    if isinstance(node.ctx, ast.Store):
                        self.assertIsInstance(node.value, ast.Name)
                        self.assertTrue(node.value.id == node.value.id.lower())

    def test_no_annotations(self):
        # L21
        for path, _, tree in self.each():
            for node in ast.walk(tree):
                self.assertIsNone(getattr(node, "annotation", None))
                self.assertIsNone(getattr(node, "returns", None))
