"""The examples of README.md, and those of the document."""

import doctest
import pathlib
import unittest

README = pathlib.Path(__file__).resolve().parent.parent / "README.md"
DOCUMENT = r'''
>>> from amidread.formats import Format
>>> CODE = Format.book("ab", ("aab", "abb"))
>>> SWAP = Format.book("ab", ("ab", "ba"))
>>> ITEMS = Format("ab", 2, ((0, "a", 0, "stop"), (0, "b", 1, ""), (1, "a", 1, ""), (1, "b", 0, "item")))
>>> [ITEMS.kinds, ITEMS.kinds_of("bab"), ("bb", "item") in ITEMS, ("bb", "stop") in ITEMS, CODE == SWAP]
[('item', 'stop'), ('item',), True, False, False]
>>> ITEMS.text
'letters ab\nstates 2\n0 a 0 stop\n0 b 1\n1 a 1\n1 b 0 item'
>>> from amidread.texts import answers_of, read, two_readings
>>> [read(ITEMS, "aba" + "b"), answers_of((("a", "stop"), ("bab", "item"))), two_readings(SWAP)]
[(('a', 'stop'), ('bab', 'item')), ('stop', '', '', 'item'), None]
>>> from amidread.pairs import corners, is_enough, reach_in, witnesses
>>> from amidread.stretches import answers
>>> [corners(CODE), corners(SWAP), is_enough(CODE, 2, 0), answers(CODE, "ab", ""), answers(CODE, "b", "a")]
[((0, 3), (1, 1), (3, 0)), (), False, ('', 'word'), ('word',)]
>>> [corners(Format.book("ab", ("a", "ba"))), corners(Format.book("ab", ("a", "b"))),
...  reach_in(CODE, ((0, "word"), (0, "word")))]
[((1, 0),), ((0, 0),), None]
>>> from amidread.pieces import told_by, told_in_pieces
>>> [told_by(CODE, "", "ba", "a"), told_in_pieces(CODE, 0, 1, "aababb", (1, 2, 3, 4, 5))]
[('word', ''), ('', '', 'word', '', '', 'word')]
>>> from amidread.rings import barred_at, letter_rings, record_rings, room
>>> [letter_rings(2, 4), record_rings((1, 1)), barred_at(2, (0, 2)), barred_at(2, (0, 0, 2)), room(2, (0, 0, 1), 3)]
[3, (1, 1), 2, None, 1]
'''


class Examples(unittest.TestCase):
    def check(self, words, name):
        test = doctest.DocTestParser().get_doctest(words, {}, name, name, 0)
        self.assertGreater(len(test.examples), 8)
        shown = []
        result = doctest.DocTestRunner(verbose=False).run(test, out=shown.append)
        self.assertEqual(result.failed, 0, "".join(shown))

    def test_readme(self):
        # Each example ends with its block.
        self.check(README.read_text().replace("```", ""), "README.md")

    def test_document(self):
        self.check(DOCUMENT, "the document")
