"""A fact that stands twice in a question has an integer for each of its places, and the two may differ in a table."""

import unittest

from loggedruns.answers import answer, shows_answer
from loggedruns.cases import shows_tests, tests
from loggedruns.grounds import grounds, shows_grounds
from loggedruns.lateness import late, shows_late
from loggedruns.settling import settled, shows_settled
from tests.common import Case, maker

MADE = maker('cell x 1\nhand h\n  a: ask x')
SHEET = ((),)
SPOT = ((0, 0),)
FELL = ('fell', 1)
OR, AND, APART = ('or', FELL, FELL), ('and', FELL, FELL), ('or', ('not', FELL), ('and', FELL, FELL))
DEEP = ('and', ('or', FELL, ('not', FELL)), ('or', FELL, FELL))
DONE = (((),), (1,), (), ((),), 0, 0, False)
FIRST = (((2,),), (0,), (), ((),), 0, 0, False)


def with_member(table, member):
    return tuple(sorted({*table, member}))


class TestDoubledFacts(Case):
    def test_answer(self):
        for question, word, memories in (
                (OR, 'never', {(0, 0): True, (1, 0): False, (0, 1): False, (1, 1): False}),
                (AND, 'never', {(1, 0): True, (0, 1): True, (1, 1): False}),
                (APART, 'always', {(0, 0, 0): True, (1, 0, 0): False, (0, 1, 0): True, (1, 1, 1): True, (1, 0, 1): False}),
                (DEEP, 'never', {(0, 0, 0, 0): True, (1, 1, 0, 0): True, (1, 0, 1, 0): False, (0, 1, 0, 1): True,
                                 (0, 1, 1, 0): True, (1, 1, 1, 0): False, (0, 0, 0, 1): False, (1, 1, 0, 1): False}),
                (('and', FELL, ('not', FELL)), 'never', {(1, 0): False, (0, 1): True, (1, 1): True})):
            told, table = answer(MADE, SHEET, question)
            self.same(told, word)
            for memory, expected in memories.items():
                value = (word, with_member(table, (DONE, SPOT, memory)))
                self.assertIs(shows_answer(MADE, SHEET, question, value), expected, (question, memory))

    def test_grounds(self):
        left, word, table = grounds(MADE, SHEET, OR)
        for memory, expected in (((0, 0), True), ((1, 0), False), ((0, 1), False)):
            value = (left, word, with_member(table, (DONE, SPOT, memory)))
            self.assertIs(shows_grounds(MADE, SHEET, OR, value), expected)

    def test_tests(self):
        others = ((AND, 1),)
        numbers, cases, table = tests(MADE, SHEET, OR, others)
        for memory, expected in ((((0, 0), (0, 0)), True), (((1, 0), (0, 0)), True), (((1, 1), (0, 0)), False),
                                 (((0, 0), (1, 0)), False), (((0, 0), (0, 1)), False)):
            value = (numbers, cases, with_member(table, (DONE, SPOT, memory)))
            self.assertIs(shows_tests(MADE, SHEET, OR, others, value), expected)

    def test_late(self):
        word, most, table, pair = late(MADE, OR)
        self.same((word, most, pair), ('held', 0, None))
        for memory, other, expected in (((0, 0), (0, 0), True), ((1, 0), (0, 0), False), ((0, 1), (0, 0), False),
                                        ((1, 0), (0, 1), True), ((0, 0), (1, 0), True)):
            value = (word, most, with_member(table, (DONE, memory, DONE, other, 0)), pair)
            self.assertIs(shows_late(MADE, OR, value), expected)

    def test_settled(self):
        word, table = settled(MADE, OR)
        for memory, other, expected in (((0, 0), (0, 0), True), ((1, 0), (0, 0), False), ((0, 1), (0, 0), False),
                                        ((1, 0), (0, 1), True), ((0, 0), (0, 1), False), ((1, 1), (1, 0), True)):
            value = (word, with_member(table, (DONE, memory, DONE, other)))
            self.assertIs(shows_settled(MADE, OR, value), expected)


if __name__ == '__main__':
    unittest.main()
