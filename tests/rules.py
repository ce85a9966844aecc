"""The rules of LANGUAGE.md that a look at a file can see: what a file's text breaks, as a list of (rule, line)."""

import ast
import builtins
import io
import re
import tokenize

NAMES = set(
    "len range enumerate zip min max sum abs sorted reversed int str bool list tuple dict set frozenset isinstance "
    "ord repr any all divmod".split())
ERRORS = set(
    "Exception ValueError TypeError KeyError IndexError LookupError ZeroDivisionError ArithmeticError OverflowError "
    "RuntimeError NotImplementedError AttributeError StopIteration".split())
METHODS = set(
    "append clear copy count endswith extend find get index insert isalnum isalpha isdigit islower isspace isupper "
    "items join keys ljust lower lstrip partition pop remove replace reverse rfind rjust rpartition rsplit rstrip "
    "setdefault split splitlines startswith strip update upper values zfill bit_length".split())
FREE_VALUES = set("count index title find get join lower upper split strip copy add".split())
CHANGES = set("append clear extend insert pop remove reverse setdefault update add discard".split())
TAKEN_NAMES = {name for kind in (str, int, list, dict, set, bytes, tuple) for name in dir(kind)} | {"args"}
READS = set("get index count find copy items keys values".split())
UNDERSCORED = ("__init__", "__eq__", "__repr__", "__str__", "__len__")
WORDS = set(
    "type typing typing_extensions enum Enum IntEnum StrEnum Flag IntFlag Generic Protocol ABC ABCMeta namedtuple "
    "NamedTuple TypedDict TYPE_CHECKING abstractmethod".split())
NOWHERE = set("register mro elements open input version_info with_traceback add_note format format_map".split())
NO_NAMES = set(
    "attrgetter breakpoint builtins compile copyright credits delattr dir eval exec exit gc getattr globals hasattr "
    "help id importlib license locals methodcaller os quit setattr super type vars sys __name__".split())
STATEMENTS = (
    ast.FunctionDef, ast.ClassDef, ast.Assign, ast.AugAssign, ast.If, ast.While, ast.For, ast.Return, ast.Break,
    ast.Continue, ast.Pass, ast.Raise, ast.Try, ast.Expr, ast.ImportFrom,
)
EXPRESSIONS = (
    ast.Constant, ast.Name, ast.List, ast.Tuple, ast.Dict, ast.Set, ast.BinOp, ast.UnaryOp, ast.BoolOp, ast.Compare,
    ast.IfExp, ast.Call, ast.Attribute, ast.Subscript, ast.Slice, ast.ListComp, ast.JoinedStr, ast.FormattedValue,
    ast.Lambda,
)
WALKS = ("zip", "enumerate", "reversed", "range")
VIEWS = ("items", "keys", "values")
TAKE_WALKS = ("list", "tuple", "dict", "sorted", "sum", "any", "all", "enumerate", "zip", "min", "max")
KEYS = ("len", "int", "str", "abs", "sum", "min", "max", "tuple")
KEYWORDS = {
    "sorted": ("key", "reverse"), "min": ("key", "default"), "max": ("key", "default"), "sum": ("start",),
    "enumerate": ("start",), "zip": ("strict",),
}
KINDS = ("int", "str", "bool", "list", "tuple", "dict")


class File:
    def __init__(self, name, text):
        self.name = name
        self.text = text
        self.tree = ast.parse(text)
        self.nodes = list(ast.walk(self.tree))
        self.above = {}
        for node in self.nodes:
            for part in ast.iter_child_nodes(node):
                self.above[part] = node
        self.defs = [node for node in self.nodes if isinstance(node, ast.FunctionDef)]
        self.classes = [node.name for node in self.nodes if isinstance(node, ast.ClassDef)]
        self.imports = [node for node in self.nodes if isinstance(node, ast.ImportFrom)]
        self.drawn = [alias.asname or alias.name for node in self.imports for alias in node.names]
        self.own_methods = {node.name for node in self.defs if isinstance(self.above[node], ast.ClassDef)}


def called(node):
    return node.func.id if isinstance(node, ast.Call) and isinstance(node.func, ast.Name) else None


def method_called(node):
    return node.func.attr if isinstance(node, ast.Call) and isinstance(node.func, ast.Attribute) else None


def names_at_top(tree):
    told = []
    for node in tree.body:
        if isinstance(node, (ast.FunctionDef, ast.ClassDef)):
            told.append((node.name, node))
        if isinstance(node, ast.Assign):
            told += [(part.id, node) for part in ast.walk(node.targets[0]) if isinstance(part, ast.Name)]
        if isinstance(node, ast.ImportFrom):
            told += [(alias.asname or alias.name, node) for alias in node.names]
    return told


def names_bound(file):
    told = []
    for node in file.nodes:
        if isinstance(node, ast.Name) and isinstance(node.ctx, ast.Store):
            told.append((node.id, node))
        if isinstance(node, ast.arg):
            told.append((node.arg, node))
        if isinstance(node, (ast.FunctionDef, ast.ClassDef)):
            told.append((node.name, node))
        if isinstance(node, ast.ExceptHandler) and node.name:
            told.append((node.name, node))
    return told


def imports(file):
    for node in file.nodes:
        if isinstance(node, ast.Import):
            yield "L16", node
        if isinstance(node, ast.ImportFrom):
            if node not in file.tree.body or node.level or any(alias.name == "*" for alias in node.names):
                yield "L2", node
            elif not re.fullmatch(r"nestturn\.[a-z0-9_]+", node.module) or node.module == "nestturn.__main__":
                yield "L2", node


def top_of_file(file):
    if ast.get_docstring(file.tree) is None:
        yield "L3", file.tree
    for node in file.tree.body[1:]:
        if not isinstance(node, (ast.ImportFrom, ast.FunctionDef, ast.ClassDef, ast.Assign)):
            yield "L3", node
        if isinstance(node, ast.Assign):
            for part in ast.walk(node.value):
                if isinstance(part, (ast.Call, ast.BinOp, ast.Set, ast.ListComp, ast.Lambda, ast.Subscript)):
                    yield "L3", node
                if isinstance(part, (ast.List, ast.Dict)) and part is not node.value:
                    yield "L15", node


def functions_and_classes(file):
    for node in file.nodes:
        if isinstance(node, (ast.FunctionDef, ast.ClassDef)) and node.decorator_list:
            yield "L4" if isinstance(node, ast.FunctionDef) else "L5", node
        if isinstance(node, ast.arguments) and (node.vararg or node.kwarg or node.kwonlyargs or node.posonlyargs):
            yield "L4", node.vararg or node.kwarg or (node.kwonlyargs + node.posonlyargs)[0]
        if isinstance(node, ast.ClassDef):
            if len(node.bases) > 1 or node.keywords:
                yield "L5", node
            if node not in file.tree.body:
                yield "L15", node
            for part in node.body:
                docstring = isinstance(part, ast.Expr) and isinstance(part.value, ast.Constant)
                if not isinstance(part, (ast.FunctionDef, ast.Pass)) and not docstring:
                    yield "L5", part
            names = [part.name for part in node.body if isinstance(part, ast.FunctionDef)]
            if len(set(names)) < len(names):
                yield "L18", node
        if isinstance(node, ast.FunctionDef) and node.end_lineno - node.lineno + 1 > 40:
            yield "L10", node
        if isinstance(node, ast.arguments):
            for part in node.defaults:
                if any(isinstance(inner, (ast.Call, ast.List, ast.Dict, ast.Set)) for inner in ast.walk(part)):
                    yield "L4", part
        if isinstance(node, (ast.arg, ast.AnnAssign)) and node.annotation or getattr(node, "returns", None):
            yield "L21", node


def statements(file):
    for node in file.nodes:
        if isinstance(node, ast.stmt) and not isinstance(node, STATEMENTS + (ast.Import,)):
            yield "L6", node
        if isinstance(node, ast.Expr) and not isinstance(node.value, (ast.Call, ast.Constant)):
            yield "L6", node
        if isinstance(node, ast.Assign) and len(node.targets) > 1:
            yield "L6", node
        if isinstance(node, (ast.For, ast.While)) and node.orelse:
            yield "L6", node
        if isinstance(node, ast.Try) and node.finalbody:
            yield "L6", node


def expressions(file):
    for node in file.nodes:
        if isinstance(node, ast.expr) and not isinstance(node, EXPRESSIONS):
            yield "L7", node
        if isinstance(node, ast.ListComp) and (len(node.generators) > 1 or len(node.generators[0].ifs) > 1):
            yield "L7", node
        if isinstance(node, ast.Constant) and not isinstance(node.value, (int, str, type(None))):
            yield "L7", node
        if isinstance(node, (ast.BinOp, ast.AugAssign)) and isinstance(node.op, (ast.Div, ast.MatMult)):
            yield "L7", node
        if isinstance(node, ast.FormattedValue):
            if not isinstance(node.value, ast.Name) or node.format_spec or node.conversion not in (-1, ord("r")):
                yield "L7", node
        if isinstance(node, ast.Compare) and any(isinstance(sign, (ast.Is, ast.IsNot)) for sign in node.ops):
            sides = [node.left] + node.comparators
            if not any(isinstance(side, ast.Constant) and side.value in (None, True, False) for side in sides):
                yield "L20", node


def names(file):
    for node in file.nodes:
        if isinstance(node, ast.Name) and hasattr(builtins, node.id) and node.id not in NAMES | ERRORS | NO_NAMES:
            yield "L8", node
        if isinstance(node, ast.Name) and node.id in NO_NAMES:
            yield "L17", node
        if isinstance(node, ast.Name) and node.id in NOWHERE or isinstance(node, ast.Attribute) and node.attr in NOWHERE:
            yield "L17", node
    for name, node in names_bound(file):
        if name in UNDERSCORED and isinstance(file.above.get(node), ast.ClassDef):
            continue
        if not re.fullmatch(r"[A-Za-z][A-Za-z0-9_]*", name):
            yield "L12", node
        method = isinstance(node, ast.FunctionDef) and isinstance(file.above[node], ast.ClassDef)
        if hasattr(builtins, name) and not method:
            yield "L15", node
        at_top = file.above.get(node) is file.tree
        if name in file.drawn + file.classes and not at_top and not method:
            yield "L15", node
    seen = set()
    for name, node in names_at_top(file.tree):
        if name in seen:
            yield "L15", node
        seen.add(name)


def kept_at_top(file):
    tops = [node.targets[0].id for node in file.tree.body
            if isinstance(node, ast.Assign) and isinstance(node.value, (ast.List, ast.Dict))]
    for node in file.nodes:
        if not isinstance(node, ast.Name) or not isinstance(node.ctx, ast.Load) or node.id not in tops:
            continue
        above = file.above[node]
        fine = isinstance(above, ast.Subscript) and above.value is node and isinstance(above.ctx, ast.Load)
        fine = fine or isinstance(above, (ast.For, ast.comprehension)) and above.iter is node
        fine = fine or isinstance(above, ast.Compare) and not any(
            isinstance(sign, (ast.Is, ast.IsNot)) for sign in above.ops)
        fine = fine or isinstance(above, ast.Call) and called(above) in NAMES
        fine = fine or isinstance(above, ast.Attribute) and above.attr in READS
        if not fine:
            yield "L15", node


def classes(file):
    known = set(file.classes) | ERRORS | {name for name in file.drawn if name[:1].isupper() and not name.isupper()}
    for node in file.nodes:
        if isinstance(node, ast.ClassDef) and node.bases:
            if isinstance(node.bases[0], ast.Name) and node.bases[0].id in ("StopIteration", "AttributeError"):
                yield "L18", node
        if isinstance(node, ast.Name) and node.id in known and isinstance(node.ctx, ast.Load):
            above = file.above[node]
            fine = isinstance(above, (ast.ClassDef, ast.ExceptHandler, ast.Raise))
            fine = fine or isinstance(above, ast.Call) and (above.func is node or called(above) == "isinstance")
            fine = fine or isinstance(above, ast.Tuple) and isinstance(file.above[above], (ast.ExceptHandler, ast.Call))
            fine = fine or isinstance(above, ast.Attribute) and above.attr == "__init__"
            if not fine:
                yield "L18", node
        if isinstance(node, ast.Attribute) and isinstance(node.ctx, ast.Store):
            if node.attr in TAKEN_NAMES - FREE_VALUES:
                yield "L26", node
            tops = [name for name, where in names_at_top(file.tree)]
            if not isinstance(node.value, ast.Name) or node.value.id in known or node.value.id in tops:
                yield "L18", node
        if isinstance(node, ast.FunctionDef) and isinstance(file.above[node], ast.ClassDef):
            if node.name in TAKEN_NAMES - METHODS - {"add", "discard"} and node.name not in UNDERSCORED:
                yield "L26", node


def is_let_in_try(node, kinds):
    """Whether a part of a try that takes ValueError, LookupError or IndexError may stand there."""
    if isinstance(node, ast.Call):
        return "IndexError" not in kinds and (called(node) in ("int", "str") or method_called(node) in ("index", "remove"))
    if isinstance(node, (ast.BinOp, ast.AugAssign)):
        return not isinstance(node.op, (ast.Mult, ast.Pow, ast.Mod, ast.LShift, ast.RShift))
    return not isinstance(node, (ast.JoinedStr, ast.Slice, ast.Lambda))


def narrow_tries(file):
    for node in file.nodes:
        if isinstance(node, ast.Try):
            kinds = {part.id for handler in node.handlers if handler.type for part in ast.walk(handler.type)
                     if isinstance(part, ast.Name)}
            parts = [part for row in node.body for part in ast.walk(row)]
            if kinds & {"ValueError", "LookupError", "IndexError"}:
                if len(node.body) > 1 or not all(is_let_in_try(part, kinds) for part in parts):
                    yield "L19", node


def errors(file):
    for node in file.nodes:
        if isinstance(node, ast.ExceptHandler):
            kinds = node.type.elts if isinstance(node.type, ast.Tuple) else [node.type]
            for kind in kinds:
                if not isinstance(kind, ast.Name) or kind.id in ("Exception", "TypeError"):
                    yield "L19", node
        if isinstance(node, ast.Raise) and not isinstance(node.exc, ast.Call):
            yield "L19", node


def calls(file):
    for node in file.nodes:
        name = called(node)
        if name == "isinstance" and len(node.args) == 2:
            kinds = node.args[1].elts if isinstance(node.args[1], ast.Tuple) else [node.args[1]]
            for kind in kinds:
                if not isinstance(kind, ast.Name) or kind.id in (NAMES - set(KINDS)):
                    yield "L22", node
        if name in NAMES or name in ERRORS:
            for keyword in node.keywords:
                if keyword.arg not in KEYWORDS.get(name, ()):
                    yield "L22", node
                elif keyword.arg in ("reverse", "strict") and not isinstance(keyword.value, ast.Constant):
                    yield "L22", node
        if method_called(node) in METHODS and node.keywords:
            yield "L22", node
        if isinstance(node, ast.Name) and node.id in NAMES and isinstance(node.ctx, ast.Load):
            above = file.above[node]
            as_key = isinstance(above, ast.keyword) and above.arg == "key" and node.id in KEYS
            is_called = isinstance(above, ast.Call) and above.func is node
            of_kind = isinstance(above, ast.Call) and called(above) == "isinstance" and above.args[0] is not node
            of_kinds = isinstance(above, ast.Tuple) and called(file.above[above]) == "isinstance"
            if not (as_key or is_called or of_kind or of_kinds):
                yield "L22", node
        if name == "chr":
            yield "L27", node
        if isinstance(node, ast.Attribute) and isinstance(node.ctx, ast.Load):
            above = file.above[node]
            is_called = isinstance(above, ast.Call) and above.func is node
            if is_called and node.attr not in METHODS | file.own_methods | {"__init__"}:
                yield "L25", node
            if not is_called and node.attr in METHODS:
                yield "L25", node


def is_walk(node):
    return called(node) in WALKS or method_called(node) in VIEWS and not node.args


def walked_by(loop):
    """The names and the values of objects that a loop walks, as they are written."""
    if isinstance(loop.iter, (ast.Name, ast.Attribute)):
        return {ast.unparse(loop.iter)}
    if not is_walk(loop.iter) or called(loop.iter) == "range":
        return set()
    return {ast.unparse(part) for part in ast.walk(loop.iter) if isinstance(part, (ast.Name, ast.Attribute))}


def walks(file):
    for node in file.nodes:
        if is_walk(node):
            above = file.above[node]
            fine = isinstance(above, (ast.For, ast.comprehension)) and above.iter is node
            fine = fine or called(above) in TAKE_WALKS and above.args[0] is node
            fine = fine or called(above) == "zip"
            fine = fine or method_called(above) == "join" and isinstance(above.func.value, ast.Constant)
            if called(above) in ("min", "max") and (len(above.args) > 1):
                fine = False
            if not fine:
                yield "L23", node
        if isinstance(node, ast.For):
            walked = walked_by(node)
            for part in [part for row in node.body for part in ast.walk(row)]:
                changed = None
                if method_called(part) in CHANGES:
                    changed = part.func.value
                if isinstance(part, ast.Subscript) and isinstance(part.ctx, ast.Store):
                    changed = part.value
                if isinstance(part, ast.AugAssign):
                    changed = part.target
                if changed is not None and ast.unparse(changed) in walked:
                    yield "L23", part


def sets(file):
    for node in file.nodes:
        if not (called(node) in ("set", "frozenset") or isinstance(node, ast.Set)):
            continue
        above = file.above[node]
        while isinstance(above, ast.BinOp) and isinstance(above.op, (ast.Sub, ast.BitAnd, ast.BitOr, ast.BitXor)):
            above = file.above[above]
        fine = called(above) in ("sorted", "len") and not above.keywords
        fine = fine or isinstance(above, ast.Compare) and isinstance(above.ops[0], (ast.In, ast.NotIn, ast.Eq, ast.NotEq))
        if not fine:
            yield "L24", node
        if isinstance(node, ast.Set) and not isinstance(above, ast.Compare):
            if sum(isinstance(part, ast.Constant) and isinstance(part.value, int) for part in node.elts) > 2:
                yield "L13", node


def numbers_and_texts(file):
    lambdas = set()
    for node in file.nodes:
        if isinstance(node, ast.BinOp) and isinstance(node.op, ast.Pow):
            if not isinstance(node.right, ast.Constant) or node.right.value not in range(65):
                yield "L27", node
        if isinstance(node, ast.Constant) and isinstance(node.value, str) and "%" in node.value:
            yield "L27", node
        if isinstance(node, ast.Constant) and isinstance(node.value, int) and abs(node.value) >= 10 ** 900:
            yield "L27", node
        if isinstance(node, ast.Lambda):
            shape = (node.lineno, tuple(part.arg for part in node.args.args))
            if shape in lambdas:
                yield "L13", node
            lambdas.add(shape)


def escapes(file):
    for token in tokenize.generate_tokens(io.StringIO(file.text).readline):
        if token.type == tokenize.STRING and re.search(r"\\[^nt\\'\"\n]", token.string.replace("\\\\", "")):
            yield "L27", token.start[0]


def is_told_text(node):
    text = isinstance(node, ast.JoinedStr) or isinstance(node, ast.Constant) and isinstance(node.value, str)
    joined = method_called(node) == "join" and isinstance(node.func.value, ast.Constant)
    return text or joined or called(node) in ("str", "repr")


def is_told_length(node):
    return isinstance(node, ast.Constant) and isinstance(node.value, int) or called(node) == "len"


def underscored_returns(file):
    looks = {"__len__": is_told_length, "__repr__": is_told_text, "__str__": is_told_text}
    for node in file.defs:
        for part in ast.walk(node):
            if node.name in looks and isinstance(part, ast.Return) and not looks[node.name](part.value):
                yield "L28", part


def underscored(file):
    for node in file.defs:
        if node.name == "__init__" and any(isinstance(part, ast.Return) and part.value for part in ast.walk(node)):
            yield "L28", node
        if node.name in UNDERSCORED[1:]:
            for part in ast.walk(node):
                stores = isinstance(part, (ast.Attribute, ast.Subscript)) and isinstance(part.ctx, ast.Store)
                if stores or isinstance(part, ast.AugAssign) or method_called(part) in CHANGES:
                    yield "L28", part


def rows(file):
    told = file.text.split("\n")
    if len(told) > 401 or len(told) == 401 and told[-1]:
        yield "L10", 401
    for number, row in enumerate(told, start=1):
        if len(row) > 120 or "\t" in row:
            yield "L10", number
        if not re.fullmatch(r"[ -~]*", row.replace("\t", "")):
            yield "L14", number
        found = set(re.findall(r"\w+", row))
        if found & WORDS or re.search("dataclass|overload|contextmanager", row):
            yield "L17", number


LOOKS = (
    imports, top_of_file, functions_and_classes, statements, expressions, names, kept_at_top, classes, narrow_tries,
    errors, calls, walks, sets, numbers_and_texts, escapes, underscored_returns, underscored, rows,
)


def complaints(name, text):
    """What a file breaks: a list of (rule, line), by rule, then by line."""
    file = File(name, text)
    told = set()
    for look in LOOKS:
        for rule, where in look(file):
            told.add((rule, where if isinstance(where, int) else getattr(where, "lineno", 1)))
    return sorted(told)


def drawn_from(text):
    """The files that a file draws from, with the names."""
    told = []
    for node in ast.walk(ast.parse(text)):
        if isinstance(node, ast.ImportFrom):
            told.append((node.module.split(".")[-1] + ".py", [alias.name for alias in node.names]))
    return told


def defined_in(text):
    return [name for name, node in names_at_top(ast.parse(text)) if not isinstance(node, ast.ImportFrom)]


def methods_and_values(texts):
    """The names of all methods, and of all values of objects, in the files together."""
    methods, values = set(), set()
    for name, text in texts.items():
        file = File(name, text)
        methods |= file.own_methods
        values |= {node.attr for node in file.nodes if isinstance(node, ast.Attribute) and isinstance(node.ctx, ast.Store)}
    return methods, values


def named_twice(texts):
    """The names that are both a method and a value of an object somewhere in the files: L18 bars them."""
    methods, values = methods_and_values(texts)
    return sorted(methods & values)


def between_files(texts):
    """What files, a dict from names to texts, break together: a list of (rule, file)."""
    told = []
    drawn = {}
    for name, text in texts.items():
        drawn[name] = [source for source, taken in drawn_from(text)]
        for source, taken in drawn_from(text):
            if any(each not in defined_in(texts.get(source, "")) for each in taken):
                told.append(("L16", name))
    while drawn:
        ready = [name for name in drawn if not any(source in drawn for source in drawn[name])]
        if not ready:
            return sorted(told + [("L16", name) for name in drawn])
        for name in ready:
            drawn.pop(name)
    return sorted(told)
