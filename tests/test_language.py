"""The package keeps to the subset of Python that it is written in: what can be told from its syntax.

Where a rule lets something under conditions that are long to check, and the package does without it, it is barred.
"""

import ast
import builtins
import pathlib
import re
import unittest

FOLDER = pathlib.Path(__file__).resolve().parent.parent / 'loggedruns'
FILES = sorted(FOLDER.glob('*.py'))
TREES = {path.stem: ast.parse(path.read_text()) for path in FILES}
LIBRARY = {'heapq': ('heappush', 'heappop'), 'itertools': ('product', 'combinations', 'permutations'),
           'collections': ('deque', 'defaultdict')}
BUILTINS = set('len range enumerate zip min max sum abs sorted reversed int str bool list tuple dict set isinstance ord '
               'repr any all divmod Exception ValueError TypeError KeyError IndexError LookupError'.split())
METHODS = set('append clear copy count endswith extend find get index insert isalnum isalpha isdigit islower isspace '
              'isupper items join keys ljust lower lstrip partition pop remove replace reverse rfind rjust rpartition '
              'rsplit rstrip setdefault split splitlines startswith strip update upper values zfill bit_length'.split())
SPECIAL = {'__init__', '__eq__', '__repr__', '__str__', '__len__', '__enter__', '__exit__'}
NO_ATTRIBUTES = set('items keys values pop update append clear extend insert remove reverse setdefault sort args encode '
                    'decode hex fromhex format format_map mro as_integer_ratio bit_count conjugate from_bytes is_integer '
                    'to_bytes'.split())
NO_NAMES = set('register mro elements open input law version_info with_traceback add_note attrgetter breakpoint builtins '
               'compile copyright credits delattr dir eval exec exit gc getattr globals hasattr help id importlib license '
               'locals methodcaller os quit setattr super type vars sys'.split())
NO_WORDS = re.compile(r'\b(type|typing|typing_extensions|enum|Enum|IntEnum|StrEnum|Flag|IntFlag|Generic|Protocol|ABC|'
                      r'ABCMeta|namedtuple|NamedTuple|TypedDict|TYPE_CHECKING|abstractmethod|_wall|_WallAttr)\b|dataclass|'
                      r'overload|contextmanager')
NO_NODES = (ast.AsyncFunctionDef, ast.AsyncFor, ast.AsyncWith, ast.Await, ast.Global, ast.Nonlocal, ast.GeneratorExp,
            ast.Lambda, ast.AnnAssign, ast.Yield, ast.YieldFrom, ast.NamedExpr, ast.Div, ast.MatMult, ast.Import, ast.Match)
VIEWS = ('zip', 'enumerate', 'reversed', 'range', 'items', 'keys', 'values')
TAKERS = ('list', 'tuple', 'dict', 'sorted', 'sum', 'any', 'all', 'enumerate', 'zip', 'min', 'max', 'len', 'reversed')


def functions(tree):
    return [node for node in ast.walk(tree) if isinstance(node, ast.FunctionDef)]


def classes(tree):
    return [node for node in tree.body if isinstance(node, ast.ClassDef)]


def bound(tree):
    """The names that a module binds at its top, with the imported ones."""
    found = []
    for node in tree.body:
        if isinstance(node, (ast.FunctionDef, ast.ClassDef)):
            found.append(node.name)
        elif isinstance(node, ast.Assign):
            found.extend([target.id for target in node.targets])
        elif isinstance(node, ast.ImportFrom):
            found.extend([alias.asname or alias.name for alias in node.names])
    return found


def local_names(tree):
    """Parameters, variables and nested functions."""
    found = []
    for function in functions(tree):
        arguments = function.args
        found.extend([one.arg for one in arguments.posonlyargs + arguments.args + arguments.kwonlyargs])
        for node in ast.walk(function):
            if isinstance(node, ast.Name) and isinstance(node.ctx, ast.Store):
                found.append(node.id)
            if isinstance(node, ast.FunctionDef) and node is not function:
                found.append(node.name)
    return found


def called(node):
    """The name of what a call calls."""
    return node.func.id if isinstance(node.func, ast.Name) else getattr(node.func, 'attr', None)


OWN_METHODS = {node.name for tree in TREES.values() for one in classes(tree) for node in one.body
               if isinstance(node, ast.FunctionDef)}
ATTRIBUTES = {node.attr for tree in TREES.values() for node in ast.walk(tree)
              if isinstance(node, ast.Attribute) and isinstance(node.ctx, ast.Store)}


class TestFiles(unittest.TestCase):
    def test_folder(self):
        self.assertTrue(FILES)
        for path in FOLDER.iterdir():
            if path.name != '__pycache__':
                self.assertRegex(path.name, r'^[a-z_0-9]+\.py$')

    def test_text(self):
        for path in FILES:
            text = path.read_text()
            self.assertTrue(all(sign == '\n' or ' ' <= sign <= '~' for sign in text), path)
            lines = text.split('\n')
            self.assertLessEqual(len(lines), 399, path)
            self.assertLessEqual(max(map(len, lines)), 120, path)
            code = '\n'.join([line.partition('#')[0] for line in re.sub(r'"""(.|\n)*?"""', '', text).split('\n')])
            self.assertIsNone(NO_WORDS.search(code), path)

    def test_size_of_functions(self):
        for name, tree in TREES.items():
            for function in functions(tree):
                self.assertLessEqual(function.end_lineno - function.lineno + 1, 40, (name, function.name))


class TestModules(unittest.TestCase):
    def test_module_level(self):
        for name, tree in TREES.items():
            for at, node in enumerate(tree.body):
                if isinstance(node, ast.Expr):
                    self.assertTrue(at == 0 and isinstance(node.value, ast.Constant), name)
                else:
                    self.assertIsInstance(node, (ast.ImportFrom, ast.FunctionDef, ast.ClassDef, ast.Assign), name)
                if isinstance(node, ast.Assign):
                    self.assertTrue(len(node.targets) == 1 and isinstance(node.targets[0], ast.Name), name)
            names = bound(tree)
            self.assertEqual(len(names), len(set(names)), name)

    def test_tables(self):
        """A list, dict or tuple holds no list or dict; a function in it is one of the same file."""
        for name, tree in TREES.items():
            own = [node.name for node in tree.body if isinstance(node, ast.FunctionDef)]
            for node in tree.body:
                if isinstance(node, ast.Assign):
                    inner = list(ast.walk(node.value))[1:]
                    self.assertFalse([one for one in inner if isinstance(one, (ast.List, ast.Dict, ast.Set))], name)
                    for one in ast.walk(node.value):
                        if isinstance(one, ast.Name):
                            self.assertIn(one.id, own, name)

    def test_imports(self):
        edges = {}
        for name, tree in TREES.items():
            edges[name] = []
            for node in ast.walk(tree):
                if isinstance(node, ast.ImportFrom):
                    self.assertIn(node, tree.body)
                    self.assertEqual(node.level, 0)
                    self.assertFalse([alias for alias in node.names if alias.asname or alias.name == '*'])
                    if node.module in LIBRARY:
                        self.assertTrue(all(alias.name in LIBRARY[node.module] for alias in node.names))
                        continue
                    package, _, other = node.module.partition('.')
                    self.assertEqual(package, 'loggedruns')
                    defined = [one.name if hasattr(one, 'name') else one.targets[0].id for one in TREES[other].body
                               if isinstance(one, (ast.FunctionDef, ast.ClassDef, ast.Assign))]
                    self.assertFalse([alias.name for alias in node.names if alias.name not in defined], (name, other))
                    edges[name].append(other)
        while edges:
            free = [name for name in edges if not [other for other in edges[name] if other in edges]]
            self.assertTrue(free, edges)
            edges = {name: others for name, others in edges.items() if name not in free}

    def test_all_imports_are_used(self):
        for name, tree in TREES.items():
            used = {node.id for node in ast.walk(tree) if isinstance(node, ast.Name)}
            for node in tree.body:
                if isinstance(node, ast.ImportFrom):
                    self.assertFalse([alias.name for alias in node.names if alias.name not in used], name)


class TestNames(unittest.TestCase):
    def test_locals_hide_nothing(self):
        for name, tree in TREES.items():
            barred = {node.name for node in classes(tree)}
            for node in tree.body:
                if isinstance(node, ast.ImportFrom):
                    barred.update([alias.name for alias in node.names])
            found = set(local_names(tree))
            self.assertFalse(found & barred, name)
            for one in found | set(bound(tree)):
                self.assertFalse(hasattr(builtins, one) or one in NO_NAMES, (name, one))
                self.assertRegex(one, r'^(_|_?[A-Za-z][A-Za-z0-9_]*)$')
                self.assertIsNone(re.match(r'_(wall|pe_|dcw_|enum_|cm_|twin_re_|lay_|law_|stub_|sre)', one))

    def test_builtins(self):
        for name, tree in TREES.items():
            for node in ast.walk(tree):
                if isinstance(node, ast.Name) and hasattr(builtins, node.id):
                    self.assertIn(node.id, BUILTINS, name)
                if isinstance(node, ast.Name) and node.id == '_':
                    self.assertIsInstance(node.ctx, ast.Store, name)

    def test_methods_and_attributes(self):
        for name, tree in TREES.items():
            for node in ast.walk(tree):
                if isinstance(node, ast.Call) and isinstance(node.func, ast.Attribute):
                    self.assertIn(node.func.attr, METHODS | OWN_METHODS | {'__init__'}, name)
                elif isinstance(node, ast.Attribute) and node.attr not in METHODS | OWN_METHODS:
                    self.assertIn(node.attr, ATTRIBUTES, name)
                if isinstance(node, ast.Attribute):
                    self.assertNotIn(node.attr, {'format', 'format_map', 'mro'}, name)
        self.assertFalse(ATTRIBUTES & NO_ATTRIBUTES)

    def test_classes(self):
        for name, tree in TREES.items():
            for one in classes(tree):
                self.assertFalse(one.decorator_list)
                methods = [node.name for node in one.body if isinstance(node, ast.FunctionDef)]
                self.assertEqual(len(methods), len(set(methods)))
                self.assertFalse([word for word in methods if word.startswith('__') and word not in SPECIAL])
                stored = {node.attr for node in ast.walk(one) if isinstance(node, ast.Attribute)
                          and isinstance(node.ctx, ast.Store) and getattr(node.value, 'id', '') == 'self'}
                self.assertFalse(stored & set(methods), (name, one.name))
                for node in one.body:
                    self.assertIsInstance(node, (ast.FunctionDef, ast.Expr), (name, one.name))


class TestCode(unittest.TestCase):
    def each(self, *kinds):
        for name, tree in TREES.items():
            parents = {child: node for node in ast.walk(tree) for child in ast.iter_child_nodes(node)}
            for node in ast.walk(tree):
                if isinstance(node, kinds):
                    yield f'{name}:{getattr(node, "lineno", "")}', node, parents

    def test_no_other_nodes(self):
        self.assertFalse([place for place, _, _ in self.each(*NO_NODES)])

    def test_functions(self):
        for place, node, _ in self.each(ast.FunctionDef):
            self.assertFalse(node.decorator_list or node.returns, place)
            arguments = node.args
            self.assertFalse([one for one in arguments.args + arguments.kwonlyargs if one.annotation], place)
            for default in [*arguments.defaults, *[one for one in arguments.kw_defaults if one is not None]]:
                self.assertIsInstance(default, (ast.Constant, ast.Tuple), place)

    def test_is(self):
        for place, node, _ in self.each(ast.Compare):
            for sign, other in zip(node.ops, node.comparators):
                if isinstance(sign, (ast.Is, ast.IsNot)):
                    self.assertTrue(isinstance(other, ast.Constant) and other.value in (None, True, False), place)

    def test_errors(self):
        own = [node.name for node in classes(TREES['errors'])]
        for place, node, _ in self.each(ast.ExceptHandler):
            named = node.type.elts if isinstance(node.type, ast.Tuple) else [node.type]
            self.assertFalse([one for one in named if getattr(one, 'id', '') not in [*own, 'KeyError']], place)
        for place, node, _ in self.each(ast.Raise):
            self.assertTrue(node.exc is None or isinstance(node.exc, ast.Call) and called(node.exc) in own, place)

    def test_views_are_iterated_at_once(self):
        for place, node, parents in self.each(ast.Call):
            if called(node) in VIEWS and not (isinstance(node.func, ast.Attribute) and called(node) in OWN_METHODS):
                above = parents[node]
                fine = isinstance(above, (ast.For, ast.comprehension)) and above.iter is node
                fine = fine or isinstance(above, ast.Call) and called(above) in TAKERS and above.args[0] is node
                fine = fine or isinstance(above, ast.Call) and called(above) in ('zip', 'enumerate')
                self.assertTrue(fine, place)

    def test_sets(self):
        for place, node, parents in self.each(ast.Call, ast.SetComp, ast.Set):
            if not isinstance(node, ast.Call) or called(node) == 'set':
                above = parents[node]
                fine = isinstance(above, ast.Call) and called(above) in ('sorted', 'len') and len(above.keywords) == 0
                fine = fine or isinstance(above, ast.Compare)
                self.assertTrue(fine, place)

    def test_calls(self):
        words = {'sorted': ('key', 'reverse'), 'min': ('key', 'default'), 'max': ('key', 'default'), 'sum': ('start',),
                 'enumerate': ('start',), 'zip': ('strict',)}
        for place, node, _ in self.each(ast.Call):
            name = called(node)
            if isinstance(node.func, ast.Name) and name in BUILTINS:
                self.assertFalse([one.arg for one in node.keywords if one.arg not in words.get(name, ())], place)
            if isinstance(node.func, ast.Attribute) and name in METHODS:
                self.assertFalse(node.keywords, place)

    def test_stars(self):
        """Behind a star in a call stand only names and attributes; there are no double stars."""
        for place, node, _ in self.each(ast.Call):
            for one in node.args:
                self.assertTrue(not isinstance(one, ast.Starred) or isinstance(one.value, ast.Name), place)
            self.assertNotIn(None, [one.arg for one in node.keywords], place)

    def test_exits(self):
        """An __exit__ only assigns attributes, below tests for None."""
        for place, node, _ in self.each(ast.FunctionDef):
            if node.name == '__exit__':
                for inner in ast.walk(node):
                    self.assertNotIsInstance(inner, (ast.Call, ast.Subscript, ast.For, ast.While, ast.Try, ast.Raise), place)
                    if isinstance(inner, ast.Compare):
                        self.assertIsInstance(inner.ops[0], (ast.Is, ast.IsNot), place)

    def test_no_loop_changes_what_it_goes_over(self):
        changing = ('append', 'clear', 'extend', 'insert', 'pop', 'remove', 'reverse', 'setdefault', 'update')
        for place, node, _ in self.each(ast.For):
            over = {ast.unparse(one) for one in ast.walk(node.iter) if isinstance(one, (ast.Name, ast.Attribute))}
            if isinstance(node.iter, ast.Call) and called(node.iter) in ('list', 'tuple', 'sorted'):
                continue
            for inner in [one for row in node.body for one in ast.walk(row)]:
                if isinstance(inner, ast.Call) and isinstance(inner.func, ast.Attribute) and inner.func.attr in changing:
                    self.assertNotIn(ast.unparse(inner.func.value), over, place)
                if isinstance(inner, ast.Subscript) and not isinstance(inner.ctx, ast.Load):
                    self.assertNotIn(ast.unparse(inner.value), over, place)

    def test_strings(self):
        docs = {id(node.body[0].value) for tree in TREES.values() for node in ast.walk(tree)
                if isinstance(node, (ast.Module, ast.ClassDef, ast.FunctionDef)) and isinstance(node.body[0], ast.Expr)}
        for place, node, _ in self.each(ast.Constant):
            self.assertNotIsInstance(node.value, (float, complex, bytes), place)
            if isinstance(node.value, str) and id(node) not in docs:
                self.assertNotIn('%', node.value, place)

    def test_powers(self):
        for place, node, _ in self.each(ast.BinOp):
            if isinstance(node.op, ast.Pow):
                self.assertIsInstance(node.right, ast.Constant, place)


class TestInterface(unittest.TestCase):
    """Each function and class is defined in the file under which the interface lists it."""

    names = {
        'errors': 'LogError', 'programs': 'Program', 'makers': 'Recorder Maker',
        'stands': 'first_stand steps after is_stand led state', 'entries': 'log_of entries', 'sheets': 'is_sheet fits',
        'covers': 'cover shows_cover',
        'fitting': 'fitting shows_none shortest shows_shortest stands_at fillings',
        'often': 'fewest most shows_fewest shows_most shows_endless', 'questions': 'is_question facts judge',
        'answers': 'answer shows_answer', 'grounds': 'grounds shows_grounds', 'cases': 'tests shows_tests',
        'lateness': 'late shows_late', 'settling': 'settled shows_settled', 'changes': 'changed',
        'choices': 'cheapest shows_cheapest', 'front': 'front shows_front', 'watchers': 'watcher shows_watcher',
        'books': 'Book', 'findings': 'shows_asked shows_reasons shows_until', 'journals': 'read_journal course',
        'desk': 'Desk', 'texts': 'show_item show_items show_question show_run read_item read_items read_question read_run',
        'crowds': 'woven fits_woven whose why shows_why answer_of shows_answer_of', 'sames': 'same_logs shows_same',
    }

    def test_defined_there(self):
        for module, names in self.names.items():
            defined = [node.name for node in TREES[module].body if isinstance(node, (ast.FunctionDef, ast.ClassDef))]
            for name in names.split():
                self.assertIn(name, defined)

    def test_parameters(self):
        words = {
            'first_stand': 'maker', 'steps': 'maker stand', 'after': 'maker stand step', 'is_stand': 'maker value',
            'led': 'maker run', 'state': 'maker stand', 'log_of': 'maker run', 'entries': 'maker', 'is_sheet': 'value',
            'fits': 'maker sheet run *end', 'cover': 'maker sheet *end', 'shows_cover': 'maker sheet value *end',
            'fitting': 'maker sheet *end', 'shows_none': 'maker sheet value *end', 'shortest': 'maker sheet *end',
            'shows_shortest': 'maker sheet length value *end', 'stands_at': 'maker sheet copy index *end',
            'fillings': 'maker sheet copy index *end', 'fewest': 'maker sheet label *end', 'most': 'maker sheet label *end',
            'shows_fewest': 'maker sheet label number value *end', 'shows_most': 'maker sheet label number value *end',
            'shows_endless': 'maker sheet label value *end', 'is_question': 'program value', 'facts': 'question',
            'judge': 'maker question run', 'answer': 'maker sheet question *end',
            'shows_answer': 'maker sheet question value *end', 'grounds': 'maker sheet question *end',
            'shows_grounds': 'maker sheet question value *end', 'tests': 'maker sheet question others *end',
            'shows_tests': 'maker sheet question others value *end', 'late': 'maker question *sheet',
            'shows_late': 'maker question value *sheet', 'settled': 'maker question',
            'shows_settled': 'maker question value', 'changed': 'maker changes', 'cheapest': 'maker question offers',
            'shows_cheapest': 'maker question offers value', 'front': 'maker question offers',
            'shows_front': 'maker question offers value', 'watcher': 'maker question',
            'shows_watcher': 'maker question value', 'woven': 'crowd sheet *end', 'fits_woven': 'crowd sheet value *end',
            'whose': 'crowd sheet copy index *end', 'why': 'crowd sheet copy index number *end',
            'shows_why': 'crowd sheet copy index number value *end', 'answer_of': 'crowd sheet number question *end',
            'shows_answer_of': 'crowd sheet number question value *end', 'same_logs': 'one other',
            'shows_same': 'one other value', 'shows_asked': 'book log seat question value',
            'shows_reasons': 'book log seat question value', 'shows_until': 'book log question value',
            'show_item': 'item', 'show_items': 'items', 'show_question': 'question', 'show_run': 'run', 'read_item': 'text',
            'read_items': 'text', 'read_question': 'text', 'read_run': 'text', 'read_journal': 'lines',
            'course': 'lines log seat question',
        }
        found = {node.name: node.args for module in self.names for node in TREES[module].body
                 if isinstance(node, ast.FunctionDef)}
        for name, told in words.items():
            arguments = [one.arg for one in found[name].args] + ['*' + one.arg for one in found[name].kwonlyargs]
            self.assertEqual(' '.join(arguments), told)

    def test_methods(self):
        """Each method that is listed for a class stands in its body, with the parameters as they are told."""
        words = {
            ('programs', 'Program'): '__init__:text line:label', ('makers', 'Recorder'): '__init__:*level,*every,*names',
            ('makers', 'Maker'): '__init__:program,recorder', ('desk', 'Desk'): '__init__:lines say:line',
            ('books', 'Book'): '__init__:maker revise:first,last,lines,*recorder begin_log:seats sheet_of:log end_of:log '
                               'seats_of:log add:log,item,*second beside:log,items fill:log,copy,index,items '
                               'mend:log,copy,index,entry finish:log,end tie:log,other,items '
                               'note:log,seat,copy,index,question,truth drop:number findings_of:log '
                               'ask:log,seat,question makers_of:log,seat writers:log,copy,index '
                               'reasons:log,seat,question until:log,question suspects:question undo: redo: trial: '
                               'tried:deed,*hold',
        }
        for (module, name), told in words.items():
            found = {one.name: one for one in classes(TREES[module])}[name]
            methods = {node.name: node.args for node in found.body if isinstance(node, ast.FunctionDef)}
            for word in told.split():
                method, _, parameters = word.partition(':')
                arguments = [one.arg for one in methods[method].args] + ['*' + one.arg for one in methods[method].kwonlyargs]
                self.assertEqual(','.join(arguments), ','.join(['self', *[one for one in parameters.split(',') if one]]))


if __name__ == '__main__':
    unittest.main()
