"""The examples of the document, each in a session of its own."""

import doctest
import pathlib
import subprocess
import sys
import unittest

ROOT = pathlib.Path(__file__).resolve().parent.parent

# A line of signs parts one session from the next one.
SESSIONS = r"""
>>> from fillbooks.unifying import unified
>>> unified([(('f', ('X', 'Y')), ('f', ('Y', ('g', ('Z',)))))])
{'X': ('g', ('Z',)), 'Y': ('g', ('Z',)), 'Z': 'Z'}
----
>>> from fillbooks.filling import fill
>>> from fillbooks.texts import read_rule
>>> a, b = ('a', ()), ('b', ())
>>> rule = read_rule('works(X, Y) -> desk(X, no(X)), at(no(X), Y)')
>>> fill((rule,), [('works', (a, b))])
[('at', (('no', (('a', ()),)), ('b', ()))), ('desk', (('a', ()), ('no', (('a', ()),))))]
----
>>> from fillbooks.comparing import never_more, parting
>>> from fillbooks.texts import read_rule
>>> one = (read_rule('p(X, Y) -> q(X)'),)
>>> other = (read_rule('p(X, X) -> q(X)'),)
>>> [never_more(other, one), never_more(one, other), len(parting(one, other))]
[True, False, 1]
----
>>> from fillbooks.forms import least_form
>>> from fillbooks.texts import book_text, read_rule
>>> book = (read_rule('p(X, Y), p(Z, Y), p(X, U) -> q(X), q(f(X))'), read_rule('p(b, X) -> q(b)'))
>>> book_text(least_form(book))
'p(A, B) -> q(A)\np(A, B) -> q(f(A))\n'
----
>>> from fillbooks.told import clash, surely
>>> a, b, c = ('a', ()), ('b', ()), ('c', ())
>>> pairs = [([('p', (a, b)), ('p', (b, c))], [('t', (a, c))])]
>>> [clash(pairs), surely(pairs, [('p', (a, a)), ('p', (a, b))])]
[None, [('t', (('a', ()), ('a', ()))), ('t', (('a', ()), ('b', ())))]]
----
>>> from fillbooks.joining import joined
>>> from fillbooks.texts import book_text, read_rule
>>> one = (read_rule('works(X, Y) -> desk(X, no(X)), at(no(X), Y)'),)
>>> other = (read_rule('desk(X, N), at(N, Y) -> finds(X, Y)'),)
>>> book_text(joined(one, other))
'works(A, B) -> finds(A, B)\n'
----
>>> from fillbooks.plain import is_plain, lead_both_ways, leads_into
>>> from fillbooks.texts import read_rule
>>> one = (read_rule('p(X) -> q(X, f(X))'),)
>>> other = (read_rule('p(X) -> q(X, g(X)), q(X, h(X))'),)
>>> [is_plain(other), leads_into(one, other), lead_both_ways(one, other)]
[True, True, True]
----
>>> from fillbooks.behind import had_again
>>> from fillbooks.questions import asked, sure
>>> from fillbooks.texts import book_text, read_rule
>>> give = (read_rule('q(X) -> p(f(X))'),)
>>> ask = (read_rule('p(f(X)) -> ans(X)'),)
>>> [book_text(asked(ask, [give])), sure(give, [('q', (('a', ()),))]), book_text(had_again(give, ('q', 1)))]
['q(A) -> ans(A)\n', [], 'p(f(A)) -> q(A)\n']
----
>>> from fillbooks.reasons import reasons
>>> from fillbooks.texts import read_rule
>>> a, b, c = ('a', ()), ('b', ()), ('c', ())
>>> rule = read_rule('p(X, Y), p(Y, Z) -> q(X)')
>>> [len(some) for some in reasons((rule,), [('p', (a, a)), ('p', (a, b)), ('p', (b, c))], ('q', (a,)))]
[1, 2]
----
>>> from fillbooks.papers import paper_text
>>> from fillbooks.texts import read_rule
>>> paper_text([('p', (('a', ()),))], [(read_rule('p(X) -> q(X)'),)])
'fact p(a)\nbook\nrule p(X) -> q(X)\n'
----
>>> from fillbooks.desk import Desk, try_all
>>> from fillbooks.texts import read_rule
>>> desk = Desk([], [(read_rule('p(X) -> q(X, f(X)), r(X)'),)])
>>> try_all(desk, [('put', ('p', (('a', ()),)))])
>>> [len(desk.told()), desk.sure(), len(desk)]
[2, [('r', (('a', ()),))], 1]
"""


class TestExamples(unittest.TestCase):
    def test_each_session(self):
        sessions = SESSIONS.split("----\n")
        self.assertEqual(len(sessions), 11)
        for session in sessions:
            with self.subTest(session=session):
                rows = doctest.DocTestParser().get_examples(session)
                self.assertGreater(len(rows), 1)
                code = "import doctest, sys\n" \
                       "test = doctest.DocTestParser().get_doctest(sys.stdin.read(), {}, 'session', None, 0)\n" \
                       "told = doctest.DocTestRunner().run(test)\nsys.exit(told.failed or told.attempted == 0)"
                done = subprocess.run([sys.executable, "-c", code], input=session, text=True, cwd=ROOT, capture_output=True)
                self.assertEqual(done.returncode, 0, done.stdout + done.stderr)


if __name__ == "__main__":
    unittest.main()
