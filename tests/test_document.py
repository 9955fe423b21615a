"""The examples that stand in the document, from samples on."""

import unittest

from cases import Case
from holdhouse.books import Book
from holdhouse.certificates import certify_can, certify_kept, certify_never
from holdhouse.checker import accepts
from holdhouse.errors import Broken, InvalidStands, InvalidWeaving
from holdhouse.hearings import hears, parting_hearing
from holdhouse.houses import House
from holdhouse.moments import begin, hearing, play
from holdhouse.questions import called_away, first, most, shapes, stuck, unused
from holdhouse.samples import joining_house, lost_house, sample_house


class Document(Case):
    def test_samples(self):
        house = sample_house()
        self.assertEqual(
            [house.lines, house.key_words, len(house), house.stands[3], repr(house), house.rows[5],
             House.read(str(house)) == house, house.without(0) == house],
            [1, ("hold", "take"), 6, ("held", "music"), "House of 6 rows", "gone: stand free", True, False])
        self.assertEqual([lost_house().rows[2], joining_house().lines, len(joining_house().without(4))],
                         ["key hold if in talk and me a: deaf, a none, stand held", 2, 4])
        self.raises(InvalidStands, "index", 1, House, 1, (("free", "quiet"), ("talk", "voice")))

    def test_moments(self):
        house = sample_house()
        ring = begin(house, 2).after(("call", 0, (1,)))
        self.assertEqual(
            repr([ring.stands, ring.callers, ring.places, ring.ears, ring.heard(0), ring.shape,
                  ring.shows(0, "a and not ear a")]),
            repr([("ring",), (True,), ((1, None),), (None, None), "tone",
                  ((("ring", True, 0, None, None),), (None,)), True]))
        self.assertEqual(
            begin(house, 2).events(),
            (("call", 0, (0,)), ("call", 0, (1,)), ("key", "hold", 0, 0, ()), ("key", "hold", 1, 0, ()),
             ("key", "take", 0, 0, ()), ("key", "take", 1, 0, ())))

    def test_weavings(self):
        house = sample_house()
        talk = (2, (("call", 0, (1,)), ("key", "take", 1, 0, ()), ("key", "hold", 1, 0, ()),
                    ("key", "take", 0, 0, ())))
        self.assertEqual(
            [play(house, talk).places, play(house, talk).ears, hearing(house, talk, 0),
             hearing(house, (2, talk[1] + (("lay", 0, ()),)), 0)],
            [((0, None),), (0, None), ("tone", "voice", "music", "voice"),
             ("tone", "voice", "music", "voice", "over")])
        self.raises(InvalidWeaving, "index", 0, play, house, (1, (("gone", 0, ()),)))

    def test_questions(self):
        house = sample_house()
        self.assertEqual(
            [len(shapes(house, 1)), len(shapes(house, 4)), first(house, "voice and not caller"),
             most(house, "caller"), unused(house), called_away(house)],
            [4, 4, None, 1, (), None])
        self.assertEqual(first(house, "in held"),
                         (1, (("call", 0, (0,)), ("key", "take", 0, 0, ()), ("key", "hold", 0, 0, ()))))
        self.assertEqual(
            [stuck(house, "caller and not voice", "voice"),
             stuck(lost_house(), "caller and not voice", "voice") == first(house, "in held"), unused(lost_house())],
            [None, True, (3,)])

    def test_questions_of_two_lines_and_of_two_phones(self):
        found = first(joining_house(), "stranger and not voice")
        self.assertEqual([found[0], len(found[1]), most(joining_house(), "stranger")], [1, 5, 2])
        taken = called_away(sample_house().changed(3, "key take if not in free: a me, hear, stand talk"))
        self.assertEqual([taken[0], len(taken[1])], [2, 3])

    def test_hearings(self):
        self.assertEqual(
            repr([hears(sample_house(), ("tone", "voice", "over")), hears(sample_house(), ("voice",)),
                  hears(sample_house(), ())]),
            repr([True, False, False]))
        self.assertEqual(
            repr([parting_hearing(lost_house(), sample_house()), parting_hearing(sample_house(), lost_house())]),
            repr([None, ("tone", "voice", "music", "voice")]))

    def test_books(self):
        book = Book()
        book["a"] = sample_house()
        book.wish(("can", "a", "in held", "voice"))
        self.assertEqual(repr([book.names, len(book.wishes), book.changes, "a" in book, len(book["a"])]),
                         repr([("a",), 1, 2, True, 6]))
        with self.assertRaises(Broken) as caught:
            book.put("a", sample_house().without(3))
        self.assertEqual(
            vars(caught.exception),
            {"index": 0, "shown": (1, (("call", 0, (0,)), ("key", "take", 0, 0, ()), ("key", "hold", 0, 0, ())))})

    def test_certificates(self):
        some = [certify_never(sample_house(), "voice and not caller"), certify_kept(sample_house()),
                certify_can(lost_house(), "in held", "voice")]
        self.assertEqual(
            repr([some[0][0][0], some[1][0][0], some[2][0][0], accepts(some[0][0], some[0][1]),
                  accepts(some[1][0], some[1][1]), accepts(some[2][0], some[2][1]), accepts(some[0][0], ())]),
            repr(["never", "kept", "stuck", True, True, True, False]))
        self.assertIs(accepts(("comes", str(sample_house()), "in ring"), (3, (("call", 0, (2,)),))), True)


if __name__ == "__main__":
    unittest.main()
