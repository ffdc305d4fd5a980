import random
import unittest

from loggedruns.errors import BadShown
from loggedruns.questions import is_question
from loggedruns.stands import first_stand, after, steps
from loggedruns.texts import read_item, read_items, read_question, read_run, show_item, show_items, show_question, show_run
from tests import generate
from tests.common import AGAIN, ODD, Case, do, strict, write

ITEMS = ((('h', 'go', ()), 'h go -'), (('one', 'went', (2,)), 'one went 2'), ((None, 'u', (0, 3)), '- u 0,3'), (('h', None, None), 'h ? *'),
         ((None, None, None), '- ? *'), ((None, None, ()), '- ? -'), (('h', 'u', (None,)), 'h u ?'), (('h', 'u', (None, 1)), 'h u ?,1'),
         (('gap', 'gap', (None, None)), 'gap gap ?,?'), (('gap', None, ()), 'gap ? -'), (('abcdefgh', 'zzzzzzzz', ()), 'abcdefgh zzzzzzzz -'),
         (1, 'gap 1'), (9, 'gap 9'), (None, 'gap ?'))
FACTS = ((('did', 'a', 1), 'did a 1'), (('ahead', 'a', 'bb'), 'ahead a bb'), (('asked', 'a', 0), 'asked a 0'), (('was', 'x', 3), 'was x 3'),
         (('is', 'x', 2), 'is x 2'), (('by', 'x', 'a'), 'by x a'), (('by', 'x', None), 'by x -'), (('at', 'one', 'c'), 'at one c'),
         (('at', 'one', None), 'at one -'), (('fell', 1), 'fell 1'), (('spilt', 'u', 2), 'spilt u 2'), (('ended', 'done'), 'ended done'),
         (('did', 'did', 1), 'did did 1'), (('at', 'and', 'not'), 'at and not'), (('ended', 'fallen'), 'ended fallen'))
QUESTIONS = (*FACTS, (('not', ('fell', 1)), 'not fell 1'), (('and', ('fell', 1), ('fell', 2)), 'and 2 fell 1 fell 2'),
             (('or', ('at', 'h', None), ('not', ('by', 'x', None)), ('did', 'a', 3)), 'or 3 at h - not by x - did a 3'),
             (('not', ('not', ('not', ('not', ('fell', 1))))), 'not not not not fell 1'),
             (('and', ('or', ('is', 'x', 0), ('is', 'x', 1)), ('and', ('fell', 1), ('fell', 1))), 'and 2 or 2 is x 0 is x 1 and 2 fell 1 fell 1'),
             (('or', ('fell', 1), ('fell', 1), ('fell', 1), ('fell', 1)), 'or 4 fell 1 fell 1 fell 1 fell 1'),
             (('not', ('and', ('fell', 1), ('or', ('fell', 2), ('not', ('fell', 3))))), 'not and 2 fell 1 or 2 fell 2 not fell 3'))
RUNS = (((), '-'), ((do(0),), 'do 0'), ((do(1, 2),), 'do 1 2'), ((write(0), AGAIN), 'write 0; again'),
        ((do(0, 0), do(0), write(1), AGAIN, do(0, 3)), 'do 0 0; do 0; write 1; again; do 0 3'))
SIGNS = 'ahz09 -?*,;/|:A\n.'
PAIRS = ((read_item, show_item), (read_items, show_items), (read_question, show_question), (read_run, show_run))


class TextCase(Case):
    def no(self, read, value):
        self.told(BadShown, value, read, value)
        self.told(BadShown, value, read, text=value)

    def wrong(self, rng, read, show, text):
        """Texts near to this one: what is read of them is just so written."""
        for _ in range(40):
            changed = self.changed(rng, text)
            try:
                value = read(changed)
            except BadShown as error:
                self.same(error.value, changed)
            else:
                self.same(show(value), changed)
                self.same(read(show(value)), value)

    def changed(self, rng, text):
        words = text.split(' ')
        kind, at = rng.randrange(8), rng.randint(0, len(text))
        if kind == 0:
            return text[:at] + rng.choice(SIGNS) + text[at:]
        if kind == 1:
            return text[:at] + text[at + 1:]
        if kind == 2:
            return text[:at] + ' ' + text[at:]
        place = rng.randrange(len(words))
        if kind == 3:
            words[place] = '0' + words[place]
        elif kind == 4:
            words[place] = rng.choice(['-', '?', '*', 'gap', 'and', '2', '10', '999', '1000', 'not', 'a', '/', 'do', 'abcdefghi', ''])
        elif kind == 5:
            del words[place]
        elif kind == 6:
            words.insert(place, rng.choice(words))
        else:
            other = rng.randrange(len(words))
            words[place], words[other] = words[other], words[place]
        return ' '.join(words)


class TestItems(TextCase):
    def test_forms(self):
        for item, text in ITEMS:
            self.same((show_item(item), read_item(text)), (text, item))
            self.same((show_item(item=item), read_item(text=text)), (text, item))
            self.same((show_items((item,)), read_items(text)), (text, (item,)))
        everything = tuple(item for item, _ in ITEMS)
        self.same(show_items(everything), ' / '.join(text for _, text in ITEMS))
        self.same(read_items(show_items(everything)), everything)
        self.same((show_items(()), read_items('-')), ('-', ()))
        self.same(read_items(' / '.join(['gap ?'] * 40)), (None,) * 40)
        self.same(show_items(items=(1, None)), 'gap 1 / gap ?')

    def test_no_items(self):
        for value in (*ODD, '-', '?', 'gap', 'gap 0', 'gap 10', 'gap -', 'gap *', 'gap 01', 'gap -1', 'gap  1', ' gap 1', 'gap 1 ', 'Gap 1', 'gap a',
                      'h go', 'h go ', 'h go - ', ' h go -', 'h  go -', 'h go  -', 'h go - -', '? go -', 'h - -', '* go -', 'h * -', 'h go 4', 'h go 0,',
                      'h go ,0', 'h go 0,0,0', 'h go 0, 0', 'h go 00', 'h go 01', 'h go -1', 'h go ?,-', 'h go *,*', 'h go ,', 'h go ??', 'H go -',
                      'h Go -', 'abcdefghi go -', 'h abcdefghi -', 'h1 go -', 'h go -\n', '\nh go -', 'h\tgo\t-', 'h go None', 'h go ()', 'h go 10',
                      ['h go -'], ('h go -',), ('h', 'go', ()), 'h go \u0661', 'gap \u0661', '\u00e4 go -'):
            self.no(read_item, value)
            if value != '-':
                self.no(read_items, value)
        for value in ('- / h go -', 'h go - / -', 'h go - /', '/ h go -', 'h go -/h go -', 'h go -  /  h go -', 'h go - // h go -', 'h go - / ', ' / ',
                      '/', '- ', ' -', 'h go - / / h go -', 'h go -, gap 1', '-\n', 'h go - / gap 10'):
            self.no(read_items, value)
            self.no(read_item, value)
        self.no(read_item, 'gap 1 / gap 1')

    def test_near(self):
        rng = random.Random(111)
        for _ in range(60):
            items = tuple(rng.choice(ITEMS)[0] for _ in range(rng.randint(0, 4)))
            self.wrong(rng, read_items, show_items, show_items(items))
            self.wrong(rng, read_item, show_item, rng.choice(ITEMS)[1])


class TestQuestions(TextCase):
    def test_forms(self):
        for question, text in QUESTIONS:
            self.same((show_question(question), read_question(text)), (text, question))
            self.same((show_question(question=question), read_question(text=text)), (text, question))
        # Whatever names and numbers there are.
        for text in ('did abcdefgh 0', 'did a 999', 'fell 0', 'fell 999', 'was zzzzzzzz 100', 'ended ever', 'spilt a 10', 'is fell 0', 'ended and'):
            self.same(show_question(read_question(text)), text)

    def test_no_questions(self):
        for value in (*ODD, 'did', 'did a', 'did a 1 ', ' did a 1', 'did  a 1', 'did a 01', 'did a 1000', 'did a -1', 'did a -', 'did - 1', 'did A 1',
                      'did abcdefghi 1', 'did a b', 'did a 1 1', 'Did a 1', 'ahead a', 'ahead a 1', 'ahead a -', 'ahead - a', 'asked a', 'was x -',
                      'is - 1', 'by - a', 'by x', 'by x 1', 'by x ?', 'at - a', 'at h', 'fell', 'fell a', 'fell -', 'fell 1 1', 'spilt u', 'spilt - 1',
                      'ended', 'ended 1', 'ended -', 'ended done done', 'not', 'not not', 'not a', 'not did a', 'not fell 1 fell 1', 'and', 'and 2', 'and fell 1 fell 1',
                      'and 1 fell 1', 'and 0', 'and 2 fell 1', 'and 3 fell 1 fell 1', 'and 2 fell 1 fell 1 fell 1', 'and 02 fell 1 fell 1', 'or 1 fell 1',
                      'or 5 fell 1 fell 1 fell 1 fell 1 fell 1', 'and 2 or 3 fell 1 fell 1 fell 1 or 2 fell 1 fell 1', 'not not not not not fell 1',
                      'not not not not and 2 fell 1 fell 1', 'and 2 fell 1 not not not not fell 1', 'and 999 fell 1', 'xor 2 fell 1 fell 1', 'did a 1\n',
                      'did\na 1', 'fell \u0661', ['fell 1'], ('fell', 1), 'none', 'fell 1 / fell 1'):
            self.no(read_question, value)

    def test_near(self):
        rng = random.Random(112)
        for _ in range(80):
            made = generate.labelled(rng, generate.made(rng))
            question = generate.question(rng, made.program)
            if is_question(made.program, question):
                text = show_question(question)
                self.same(read_question(text), question)
                self.wrong(rng, read_question, show_question, text)

    def test_deep_texts(self):
        for many in (5, 100, 5000):
            self.no(read_question, 'not ' * many + 'fell 1')
            self.no(read_question, 'and 2 ' * many + 'fell 1 ' * many + 'fell 1')
            self.no(read_question, 'and 4 ' * many)


class TestRuns(TextCase):
    def test_forms(self):
        for run, text in RUNS:
            self.same((show_run(run), read_run(text)), (text, run))
            self.same((show_run(run=run), read_run(text=text)), (text, run))
        self.same(read_run('do 999 999; write 999; do 0 0'), (do(999, 999), write(999), do(0, 0)))

    def test_no_runs(self):
        for value in (*ODD, 'do', 'do ', 'do 0 ', ' do 0', 'do  0', 'do 00', 'do 01', 'do 0 00', 'do -', 'do a', 'do 0 0 0', 'do 1000', 'do 0 -', 'do 0 None',
                      'write', 'write 0 0', 'write a', 'again 0', 'again ', 'Again', 'do 0;do 1', 'do 0 ; do 1', 'do 0;  do 1', 'do 0; ', '; do 0', ';', 'do 0;',
                      'do 0; -', '-; do 0', '- ', 'do 0\n', 'do 0, do 1', '0', 'again; again again', ['do 0'], ('do 0',), (do(0),), 'do \u0661'):
            self.no(read_run, value)

    def test_near(self):
        rng = random.Random(113)
        for _ in range(60):
            made = generate.made(rng)
            stand, run = first_stand(made), []
            for _ in range(rng.randint(0, 6)):
                able = steps(made, stand)
                if able:
                    run.append(rng.choice(able))
                    stand, _ = after(made, stand, run[-1])
            text = show_run(tuple(run))
            self.same(read_run(text), tuple(run))
            self.wrong(rng, read_run, show_run, text)


class TestAll(TextCase):
    def test_signs(self):
        """All texts of few signs: what is read is just so written, and nothing else is read."""
        rng = random.Random(114)
        found = {True: 0, False: 0}
        for _ in range(30000):
            text = ''.join([rng.choice(SIGNS) for _ in range(rng.randint(0, 6))])
            for read, show in PAIRS:
                try:
                    value = read(text)
                except BadShown as error:
                    self.assertEqual(strict(error.value), strict(text))
                    found[False] += 1
                else:
                    self.same(show(value), text)
                    found[True] += 1
        self.assertGreater(min(found.values()), 5, found)


if __name__ == '__main__':
    unittest.main()
