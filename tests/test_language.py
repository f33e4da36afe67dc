"""The rules of LANGUAGE.md that can be seen from the text of the package's files."""

import ast
import builtins
import os
import re
import unittest

PACKAGE = os.path.join(os.path.dirname(os.path.dirname(os.path.abspath(__file__))), "tokenmoor")

# L6, L7: the statements and expressions that are allowed, besides the small parts they are made of.
FORMS = set("""
    Module ImportFrom alias FunctionDef ClassDef arguments arg Return Assign AugAssign AnnAssign For While If Raise Try
    ExceptHandler Expr Pass Break Continue BoolOp BinOp UnaryOp Lambda IfExp Dict Set ListComp comprehension Compare
    Call keyword FormattedValue JoinedStr Constant Attribute Subscript Name List Tuple Slice Load Store And Or Add Sub
    Mult FloorDiv Mod Pow LShift RShift BitOr BitXor BitAnd Invert Not UAdd USub Eq NotEq Lt LtE Gt GtE Is IsNot In
    NotIn
""".split())
PYTHON_NAMES = {name for name in dir(builtins) if not name.startswith("_")}
# L8, less `chr` (L27).
OWN_NAMES = set("""
    len range enumerate zip min max sum abs sorted reversed int str bool list tuple dict set frozenset isinstance ord
    repr any all divmod Exception ValueError TypeError KeyError IndexError LookupError ZeroDivisionError
    ArithmeticError OverflowError RuntimeError NotImplementedError AttributeError StopIteration
""".split())
METHODS = {"__init__", "__eq__", "__repr__", "__str__", "__len__"}
TOP_NAMES = {"__all__", "__version__", "__name__"}
# L17.
NEVER_NAMES = set("register mro elements open input version_info with_traceback add_note format format_map".split())
NEVER_WORDS = re.compile(
    r"\b(type|typing|typing_extensions|enum|Enum|IntEnum|StrEnum|Flag|IntFlag|Generic|Protocol|ABC|ABCMeta|namedtuple"
    r"|NamedTuple|TypedDict|TYPE_CHECKING|abstractmethod)\b|dataclass|overload|contextmanager")

# L23: what is walked where it stands, and in which calls it may stand first.
WALKED = {"zip", "enumerate", "reversed", "range", "items", "keys", "values"}
WALKERS = {"list", "tuple", "dict", "sorted", "sum", "any", "all", "enumerate", "zip", "min", "max", "join"}
# L22: the keywords of Python's own names.
KEYWORDS = {
    "sorted": {"key", "reverse"}, "min": {"key", "default"}, "max": {"key", "default"}, "sum": {"start"},
    "enumerate": {"start"}, "zip": {"strict"}}
# L25.
OWN_METHODS = set("""
    append clear copy count endswith extend find get index insert isalnum isalpha isdigit islower isspace isupper items
    join keys ljust lower lstrip partition pop remove replace reverse rfind rjust rpartition rsplit rstrip setdefault
    split splitlines startswith strip update upper values zfill bit_length
""".split())


# L23, L26: methods that change what they are called on.
CHANGES = set("append clear extend insert pop remove reverse setdefault update".split())
# L26: values of objects are called like no method or value of Python's own values, but for these.
PYTHON_VALUES = {
    name for kind in (str, int, list, tuple, dict, set, frozenset, bytes, bytearray) for name in dir(kind)}
FREE_VALUES = set("count index title find get join lower upper split strip copy add".split())
# L22: what may stand by isinstance, and Python's own that may be a key.
KINDS = {"int", "str", "bool", "list", "tuple", "dict"}
KEYS = {"len", "int", "str", "abs", "sum", "min", "max", "tuple"}


def files():
    return sorted(name for name in os.listdir(PACKAGE) if name != "__pycache__")


def text_of(name):
    with open(os.path.join(PACKAGE, name), encoding="ascii", newline="") as file:
        return file.read()


def faults_of_text(text):
    """L10, L14, L17 of a file's bare text."""
    lines = text.split("\n")
    found = ["signs" for sign in text if not (" " <= sign <= "~" or sign == "\n")]
    found += ["long line" for line in lines if len(line) > 120]
    if text.count("\n") > 400:
        found.append("long file")
    # L27: escapes.
    found += ["escape " + match.group() for match in re.finditer(r"""\\[^nt\\'"]""", text.replace("\\\\", ""))]
    found += ["word " + match.group() for match in NEVER_WORDS.finditer(text)]
    return found


def names_in(node):
    """The names that a node binds, reads or asks for."""
    if isinstance(node, ast.Name):
        return [node.id]
    if isinstance(node, (ast.FunctionDef, ast.ClassDef)):
        return [node.name]
    if isinstance(node, ast.arg):
        return [node.arg]
    if isinstance(node, ast.Attribute):
        return [node.attr]
    if isinstance(node, ast.ExceptHandler) and node.name:
        return [node.name]
    return []


def faults_of_names(node):
    found = []
    for name in names_in(node):
        plain = re.fullmatch(r"[A-Za-z][A-Za-z0-9_]*", name)
        if name in NEVER_NAMES or not (plain or name in METHODS or name in TOP_NAMES):
            found.append("name " + name)
    if isinstance(node, ast.Name) and node.id in PYTHON_NAMES - OWN_NAMES:
        found.append("name of Python's own " + node.id)
    if isinstance(node, ast.Name) and isinstance(node.ctx, ast.Store) and node.id in PYTHON_NAMES:
        found.append("another meaning for " + node.id)
    if isinstance(node, ast.arg) and node.arg in PYTHON_NAMES:
        found.append("another meaning for " + node.arg)
    return found


def faults_of_node(node):
    found = [] if type(node).__name__ in FORMS else ["form " + type(node).__name__]
    if isinstance(node, (ast.FunctionDef, ast.ClassDef)) and node.decorator_list:
        found.append("decorator")
    if isinstance(node, ast.FunctionDef) and node.end_lineno - node.lineno >= 40:
        found.append("long function " + node.name)
    if isinstance(node, ast.arguments) and (node.vararg or node.kwarg or node.kwonlyargs or node.posonlyargs):
        found.append("parameters")
    if isinstance(node, ast.Assign) and len(node.targets) > 1:
        found.append("targets")
    if isinstance(node, (ast.For, ast.While, ast.Try)) and (
            getattr(node, "finalbody", []) or not isinstance(node, ast.Try) and node.orelse):
        found.append("else behind a loop, or finally")
    if isinstance(node, ast.ListComp) and (len(node.generators) > 1 or len(node.generators[0].ifs) > 1):
        found.append("comprehension")
    if isinstance(node, ast.Constant) and not isinstance(node.value, (int, str, type(None))):
        found.append("value")
    if isinstance(node, ast.ClassDef) and (len(node.bases) > 1 or node.keywords):
        found.append("bases")
    if isinstance(node, ast.Compare) and has_free_is(node):
        found.append("is")
    return found + faults_of_names(node)


def has_free_is(node):
    """L20: whether an `is` stands beside something else than None, True and False."""
    for sign, value in zip(node.ops, node.comparators):
        plain = isinstance(value, ast.Constant) and any(value.value is one for one in (None, True, False))
        if isinstance(sign, (ast.Is, ast.IsNot)) and not plain:
            return True
    return False


def called(node):
    """The name of the function or method that a call calls; "" of what is no call."""
    if not isinstance(node, ast.Call):
        return ""
    return node.func.id if isinstance(node.func, ast.Name) else getattr(node.func, "attr", "")


def faults_of_calls(tree):
    """L22, L23, L25: keywords, what is kept instead of walked, and methods, of a whole file."""
    found = []
    own = {node.name for node in ast.walk(tree) if isinstance(node, ast.FunctionDef)}
    walked = []
    for node in ast.walk(tree):
        if isinstance(node, (ast.For, ast.comprehension)):
            walked.append(node.iter)
        if called(node) in WALKERS:
            walked += node.args[:1]
    for node in ast.walk(tree):
        name = called(node)
        if name in WALKED and not any(node is one for one in walked):
            found.append("kept " + name)
        if name in OWN_NAMES and {word.arg for word in node.keywords} - KEYWORDS.get(name, set()):
            found.append("keyword at " + name)
        if name and isinstance(node.func, ast.Attribute) and name not in OWN_METHODS | own | METHODS:
            found.append("method " + name)
    return found


def faults_of_locals(tree):
    """L15: parameters and locals called like an import or a class of their file."""
    taken = {alias.asname or alias.name for node in tree.body if isinstance(node, ast.ImportFrom)
             for alias in node.names}
    taken |= {node.name for node in tree.body if isinstance(node, ast.ClassDef)}
    bound_names = [node.arg for node in ast.walk(tree) if isinstance(node, ast.arg)]
    bound_names += [
        node.id for node in ast.walk(tree) if isinstance(node, ast.Name) and isinstance(node.ctx, ast.Store)]
    return ["local like an import " + name for name in bound_names if name in taken]


def is_plain(node, functions):
    """L3: whether a value at a file's top is made of numbers, texts and the like, and of functions above it."""
    if isinstance(node, ast.Constant):
        return True
    if isinstance(node, ast.Name):
        return node.id in functions
    if isinstance(node, (ast.List, ast.Tuple)):
        return all(is_plain(one, functions) for one in node.elts)
    return isinstance(node, ast.Dict) and all(is_plain(one, functions) for one in node.keys + node.values)


def faults_of_top(tree):
    """L3, L5, L15: what stands at a file's top and in a class."""
    found = []
    functions = set()
    for at, node in enumerate(tree.body):
        text = at == 0 and isinstance(node, ast.Expr) and isinstance(node.value, ast.Constant)
        value = isinstance(node, ast.Assign) and is_plain(node.value, functions)
        if not (text or value or isinstance(node, (ast.ImportFrom, ast.FunctionDef, ast.ClassDef))):
            found.append("top " + type(node).__name__)
        if isinstance(node, ast.FunctionDef):
            functions.add(node.name)
        if isinstance(node, ast.Assign) and isinstance(node.value, (ast.List, ast.Dict)):
            inner = [one for one in ast.walk(node.value) if isinstance(one, (ast.List, ast.Dict))]
            found += ["list within a list"] * (len(inner) > 1)
        if isinstance(node, ast.ClassDef):
            found += ["class body" for one in node.body if not isinstance(one, (ast.FunctionDef, ast.Pass))]
            names = [one.name for one in node.body if isinstance(one, ast.FunctionDef)]
            found += ["method twice"] * (len(set(names)) < len(names))
    return found


def faults_of_loops(tree):
    """L23: a loop that changes what it walks."""
    found = []
    for node in ast.walk(tree):
        if not isinstance(node, ast.For):
            continue
        walked = {one.id for one in ast.walk(node.iter) if isinstance(one, ast.Name)}
        for one in ast.walk(ast.Module(node.body, [])):
            changed = None
            if called(one) in CHANGES and isinstance(one.func, ast.Attribute):
                changed = one.func.value
            if isinstance(one, ast.Subscript) and isinstance(one.ctx, ast.Store):
                changed = one.value
            if isinstance(changed, ast.Name) and changed.id in walked:
                found.append("walked and changed " + changed.id)
    return found


def faults_of_values(tree):
    """L7, L18, L22, L26, L27: values of objects, f-strings, kinds, and Python's own that are kept as values."""
    found = []
    methods = {node.name for top in tree.body if isinstance(top, ast.ClassDef) for node in top.body
               if isinstance(node, ast.FunctionDef)}
    used = [node.func for node in ast.walk(tree) if isinstance(node, ast.Call)]
    used += [word.value for node in ast.walk(tree) if isinstance(node, ast.Call) for word in node.keywords
             if word.arg == "key" and isinstance(word.value, ast.Name) and word.value.id in KEYS]
    used += [one for node in ast.walk(tree) if called(node) == "isinstance" for one in ast.walk(node.args[1])]
    used += [one for node in ast.walk(tree) if isinstance(node, ast.ClassDef) for one in node.bases]
    used += [node.type for node in ast.walk(tree) if isinstance(node, ast.ExceptHandler)]
    for node in ast.walk(tree):
        if isinstance(node, ast.Attribute) and isinstance(node.ctx, ast.Store):
            taken = PYTHON_VALUES - FREE_VALUES | methods | {"args", "sort", "encode", "format"}
            found += ["value " + node.attr] * (node.attr in taken or not isinstance(node.value, ast.Name))
        if isinstance(node, ast.Name) and node.id in OWN_NAMES and not any(node is one for one in used):
            found.append("kept " + node.id)
        if isinstance(node, ast.FormattedValue) and (
                not isinstance(node.value, ast.Name) or node.format_spec or node.conversion not in (-1, ord("r"))):
            found.append("f-string")
        if isinstance(node, ast.Constant) and isinstance(node.value, str) and "%" in node.value:
            found.append("% within a text")
        if called(node) == "isinstance":
            kinds = {one.id for one in ast.walk(node.args[1]) if isinstance(one, ast.Name)}
            found += ["isinstance"] * (not kinds <= KINDS)
    return found


def faults_of_sets(tree):
    """L13, L24: a set stands beside `in`, `==` and `!=`, or straight within sorted or len."""
    allowed = []
    for node in ast.walk(tree):
        if isinstance(node, ast.Compare) and isinstance(node.ops[0], (ast.In, ast.NotIn, ast.Eq, ast.NotEq)):
            allowed += [node.left] + node.comparators
        if called(node) in ("sorted", "len") and not node.keywords:
            allowed += node.args
    allowed += [one for node in allowed if isinstance(node, ast.BinOp) for one in (node.left, node.right)]
    return ["kept set" for node in ast.walk(tree)
            if (isinstance(node, ast.Set) or called(node) in ("set", "frozenset"))
            and not any(node is one for one in allowed)]


def faults_of_tries(tree):
    """L19: errors of Python's own that are not taken, and errors that are not made on the spot."""
    found = []
    for node in ast.walk(tree):
        if isinstance(node, ast.ExceptHandler):
            name = node.type.id if isinstance(node.type, ast.Name) else None
            found += ["except"] * (name in (None, "Exception", "TypeError"))
        if isinstance(node, ast.Raise) and not isinstance(node.exc, ast.Call):
            found.append("raise")
    return found


def faults(text):
    tree = ast.parse(text)
    found = faults_of_text(text) + faults_of_calls(tree) + faults_of_locals(tree)
    found += faults_of_top(tree) + faults_of_loops(tree) + faults_of_values(tree) + faults_of_sets(tree)
    found += faults_of_tries(tree)
    for node in ast.walk(tree):
        found += faults_of_node(node)
    return found


def drawn(text):
    """The (module, name) pairs that a file imports."""
    pairs = []
    for node in ast.walk(ast.parse(text)):
        if isinstance(node, ast.ImportFrom):
            pairs += [("." * node.level + (node.module or ""), alias.name) for alias in node.names]
    return pairs


def bound(text):
    """The names that a file's top binds itself."""
    names = []
    for node in ast.parse(text).body:
        if isinstance(node, ast.Assign):
            names += [target.id for target in node.targets]
        names += names_in(node)
    return names


class Language(unittest.TestCase):
    def test_file_names(self):
        self.assertIn("__init__.py", files())
        for name in files():
            self.assertRegex(name, r"^([a-z][a-z0-9_]*|__init__|__main__)\.py$")
            self.assertNotRegex(name, r"^(test|tests|testing|test_.*|site|conftest)\.py$")
            self.assertNotIn(name[:-3], PYTHON_NAMES)

    def test_texts_and_forms(self):
        for name in files():
            if name != "__main__.py":
                self.assertEqual(faults(text_of(name)), [], name)

    def test_imports_are_the_package_s_own_from_where_they_are_defined(self):
        for name in files():
            for module, wanted in drawn(text_of(name)):
                if module == "__future__":
                    continue
                self.assertRegex(module, r"^tokenmoor\.[a-z]", name)
                self.assertIn(wanted, bound(text_of(module.partition(".")[2] + ".py")), name)

    def test_no_two_files_draw_from_one_another(self):
        left = {name: {m.partition(".")[2] + ".py" for m, n in drawn(text_of(name))} for name in files()}
        while left:
            free = [name for name, needs in left.items() if not needs & set(left)]
            self.assertTrue(free, left)
            left = {name: needs for name, needs in left.items() if name not in free}

    def test_each_name_is_bound_once(self):
        for name in files():
            names = bound(text_of(name))
            self.assertEqual(len(names), len(set(names)), name)
            self.assertFalse(set(names) & PYTHON_NAMES, name)

    def test_faults_are_seen(self):
        bad = (
            "import sys\n", "x = 1 / 2\n", "x = 1.5\n", "def f(*a):\n    pass\n", "def f(id):\n    pass\n",
            "x = y = 1\n", "x = [a for a in b for c in d]\n", "x = (a for a in b)\n", "def f():\n    print(1)\n",
            "def f():\n    assert 1\n", "_x = 1\n", "# a type\n", "x = 1\t\n", "x = a is b\n",
            "x = " + "1" * 120 + "\n", "for a in b:\n    pass\nelse:\n    pass\n",
            "try:\n    f()\nfinally:\n    pass\n", "x = a.mro\n",
            "def f():\n" + "    g()\n" * 40, "x = 1\n" * 401, "x = zip(a, b)\n", "x = list(a, zip(a, b))\n",
            "x = a.items()\n", "x = sorted(a, cmp=b)\n", "x = list(a, key=b)\n", "x = a.sort()\n",
            "from a import b\n\n\ndef f(b):\n    pass\n", "from a import b\n\n\ndef f():\n    b = 1\n")
        for text in bad:
            self.assertTrue(faults(text), text)
        # Each of these within a function, where only the rule that is asked is broken.
        within = (
            "return f\"{a.b}\"", "return f\"{a:3}\"", "return f\"{a!s}\"", "return \"5%\"", "return \"\\r\"",
            "return \"\\x41\"", "return set(a)", "b = {1, 2}", "return [b for b in set(a)]",
            "return sorted({1}, key=a)",
            "for b in a:\n        a.append(b)", "for b in a:\n        a[0] = b",
            "for b, c in zip(a, a):\n        a.pop()",
            "b = len", "return sorted(a, key=repr)", "return isinstance(a, object)", "return isinstance(a, Exception)",
            "a.items = 1", "a.update = 1", "a.b.c = 1", "raise a", "raise KeyError",
            "try:\n        a()\n    except TypeError:\n        pass", "try:\n        a()\n    except:\n        pass")
        for text in within:
            self.assertTrue(faults(f"def f(a):\n    {text}\n"), text)
        tops = (
            "f()\n", "x = f()\n", "x = [[1]]\n", "x = {1: [2]}\n", "x = f\n\n\ndef f():\n    pass\n",
            "if 1:\n    x = 1\n",
            "class A:\n    x = 1\n", "class A:\n    def f(self):\n        pass\n\n    def f(self):\n        pass\n",
            "class A:\n    def f(self):\n        self.f = 1\n")
        for text in tops:
            self.assertTrue(faults(text), text)

    def test_good_code_has_no_faults(self):
        within = (
            "return f\"{a} {a!r}\"", "return \"\\n\\t\\\\\"", "return a in set(a)", "return len(set(a) | set(a))",
            "return sorted(set(a))", "for b in list(a):\n        a = b", "for b in a:\n        b.append(a)",
            "return sorted(a, key=len)", "return isinstance(a, (int, str))", "a.count = 1", "raise ValueError(a)",
            "try:\n        a()\n    except KeyError:\n        pass")
        for text in within:
            self.assertEqual(faults(f"def f(a):\n    {text}\n"), [], text)
        tops = (
            "x = [1, (2, 3)]\n", "def f():\n    pass\n\n\nx = {\"a\": f}\n",
            "class A:\n    def f(self):\n        self.x = 1\n", "class A(ValueError):\n    pass\n")
        for text in tops:
            self.assertEqual(faults(text), [], text)
        good = "from a import b\n\n\ndef f(c):\n    return [b(d) for d in reversed(sorted(c, key=b, reverse=True))]\n"
        self.assertEqual(faults(good), [])
        self.assertEqual(faults('"""Words."""\n\n\ndef f(a):\n    return a is None or [b for b in a if b]\n'), [])


if __name__ == "__main__":
    unittest.main()
