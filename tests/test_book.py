import random
import unittest
from fractions import Fraction

from fairmasks.book import Book
from fairmasks.errors import MaskError, NeverShown, NoBox, NoName, NoNumber, NoQuestion, NothingDone, NotTold
from fairmasks.habits import habit_of
from fairmasks.questions import weights_for
from makers import ROOT, SIZES, all_boxes, pair, random_fair, random_habit, whole
from samples import deep_dict, deep_list, deep_tuple, small_habit, strangers
from test_questions import EACH, NO_QUESTIONS, ONE, UNFAIR, integers, random_question, shares_of

ZERO = ((0,), (0,))
OTHER = ((0,), (1,))
ONES = integers(0, 0, 1, 1)
WRONG_NAMES = ["", "abcdefghi", "A", "aB", "a1", "a b", " a", "a\n", "_", None, 0, True, b"a", ("a",), ["a"], {"a": 1}]


class Words:
    """A book by the words of the document: all its states are kept, to be gone back to."""

    def __init__(self, habit):
        self.habit = habit
        self.states = [([], {})]

    def do(self, boxes, asked):
        self.states.append((boxes, asked))

    def state(self):
        boxes, asked = self.states[-1]
        return list(boxes), dict(asked)

    def answer(self, name):
        boxes, asked = self.state()
        weights = weights_for(self.habit, asked[name])
        return pair(sum([Fraction(*weights.get(box, (0, 1))) for box in boxes], Fraction(0)))


class Ordinary(unittest.TestCase):
    def test_a_new_book(self):
        book = Book(ONE)
        self.assertEqual((book.names(), book.boxes(), book.counts(), book.deeds()), ((), [], {}, 0))

    def test_putting_and_asking(self):
        book = Book(ONE)
        book.ask("ones", ONES)
        self.assertEqual(book.answer("ones"), (0, 1))
        for box in (ZERO, OTHER, OTHER):
            book.put(box)
        self.assertEqual(book.answer("ones"), (2, 1))
        self.assertEqual(book.boxes(), [ZERO, OTHER, OTHER])
        self.assertEqual(book.counts(), {(0,): 3})
        # What is asked later counts the rows that are there, too.
        book.ask("all", integers(1, 1, 1, 1))
        self.assertEqual((book.answer("all"), book.names(), book.deeds()), ((3, 1), ("all", "ones"), 5))

    def test_taking_and_exchanging(self):
        book = Book(EACH)
        for box in (ZERO, OTHER, ((1,), (1,))):
            book.put(box)
        book.take(0)
        self.assertEqual(book.boxes(), [OTHER, ((1,), (1,))])
        book.exchange(1, ZERO)
        self.assertEqual(book.boxes(), [OTHER, ZERO])
        self.assertEqual(book.counts(), {(0,): 2})
        book.back()
        self.assertEqual(book.counts(), {(0,): 1, (1,): 1})
        book.back()
        self.assertEqual(book.boxes(), [ZERO, OTHER, ((1,), (1,))])

    def test_a_row_that_was_taken_comes_back_to_its_place(self):
        for index in range(3):
            book = Book(EACH)
            for box in (ZERO, OTHER, ((1,), (1,))):
                book.put(box)
            book.take(index)
            book.back()
            self.assertEqual(book.boxes(), [ZERO, OTHER, ((1,), (1,))])

    def test_a_name_takes_the_place_of_an_elder_one(self):
        book = Book(ONE)
        book.put(OTHER)
        book.ask("a", ONES)
        book.ask("a", integers(7, 7, 9, 9))
        self.assertEqual((book.answer("a"), book.names(), book.deeds()), ((9, 1), ("a",), 3))
        book.back()
        self.assertEqual((book.answer("a"), book.names()), ((1, 1), ("a",)))
        book.back()
        self.assertEqual(book.names(), ())
        with self.assertRaises(NoName):
            book.answer("a")

    def test_dropping(self):
        book = Book(ONE)
        book.put(OTHER)
        book.ask("a", ONES)
        book.drop("a")
        for call in (book.answer, book.drop):
            with self.assertRaises(NoName):
                call("a")
        book.back()
        self.assertEqual((book.answer("a"), book.names()), ((1, 1), ("a",)))

    def test_a_question_that_is_0_stays_asked(self):
        # Its weights may be none at all.
        book = Book(ONE)
        for question in (integers(0, 0, 0, 0), integers(0, 0, 0, 0)):
            book.ask("a", question)
        book.back()
        self.assertEqual(book.names(), ("a",))
        self.assertEqual(book.answer("a"), (0, 1))
        book.drop("a")
        book.back()
        self.assertEqual(book.names(), ("a",))

    def test_methods_return_none(self):
        book = Book(ONE)
        self.assertEqual([book.put(ZERO), book.exchange(0, OTHER), book.ask("a", ONES), book.drop("a"), book.take(0),
                          book.back()], [None] * 6)

    def test_habits_that_are_not_fair(self):
        book = Book(UNFAIR)
        book.put(((1,), (0,)))
        book.ask("a", integers(2, 2, 1, 3))
        self.assertEqual(book.answer("a"), (1, 1))

    def test_what_is_returned_is_new(self):
        book = Book(ONE)
        book.put(ZERO)
        book.boxes().append(OTHER)
        book.counts().clear()
        self.assertEqual((book.boxes(), book.counts()), ([ZERO], {(0,): 1}))

    def test_names_ascend(self):
        book = Book(ONE)
        for name in ("z", "b", "abcdefgh", "a", "zz"):
            book.ask(name, ONES)
        self.assertEqual(book.names(), ("a", "abcdefgh", "b", "z", "zz"))


class Back(unittest.TestCase):
    def test_nothing_done(self):
        book = Book(ONE)
        with self.assertRaises(NothingDone):
            book.back()
        book.put(ZERO)
        book.back()
        self.assertEqual(book.deeds(), 0)
        with self.assertRaises(NothingDone):
            book.back()

    def test_what_is_refused_is_no_deed(self):
        book = Book(ONE)
        book.put(ZERO)
        book.ask("a", ONES)
        before = (book.names(), book.boxes(), book.counts(), book.deeds(), book.answer("a"))
        for call in (lambda: book.put(None), lambda: book.put(((1,), (0,))), lambda: book.take(1),
                     lambda: book.exchange(0, ((1,), (0,))), lambda: book.exchange(2, ZERO),
                     lambda: book.ask("a", integers(0, 1, 0, 1)), lambda: book.ask("a", None),
                     lambda: book.ask("A", ONES), lambda: book.drop("b"), lambda: book.answer("b")):
            with self.assertRaises(MaskError):
                call()
            self.assertEqual((book.names(), book.boxes(), book.counts(), book.deeds(), book.answer("a")), before)
        book.back()
        book.back()
        self.assertEqual((book.names(), book.boxes(), book.deeds()), ((), [], 0))

    def test_hundreds_of_deeds(self):
        book = Book(EACH)
        told = []
        for k in range(700):
            told.append((book.boxes(), book.names()))
            if k % 7 == 3:
                book.take(k % len(book.boxes()))
            elif k % 7 == 5:
                book.exchange(k % len(book.boxes()), OTHER)
            elif k % 7 == 6:
                book.ask("abcdefg"[k % 5], integers(k, k, k, k))
            else:
                book.put((ZERO, OTHER)[k % 2])
        self.assertEqual(book.deeds(), 700)
        for k in reversed(range(700)):
            book.back()
            self.assertEqual((book.boxes(), book.names(), book.deeds()), told[k] + (k,))
        with self.assertRaises(NothingDone):
            book.back()


class ByChance(unittest.TestCase):
    def deed(self, book, words, chance, questions):
        boxes, asked = words.state()
        known = sorted(shares_of(words.habit))
        kind = chance.choice(["put", "put", "put", "take", "exchange", "ask", "drop", "back", "back", "copy"])
        if kind == "put":
            box = chance.choice(known)
            book.put(box)
            words.do(boxes + [box], asked)
        elif kind == "take" and boxes:
            at = chance.randrange(len(boxes))
            book.take(at)
            words.do(boxes[:at] + boxes[at + 1:], asked)
        elif kind == "exchange" and boxes:
            at, box = chance.randrange(len(boxes)), chance.choice(known)
            book.exchange(at, box)
            words.do(boxes[:at] + [box] + boxes[at + 1:], asked)
        elif kind == "ask" and questions:
            name, question = chance.choice("abc"), chance.choice(questions)
            book.ask(name, question)
            words.do(boxes, {**asked, name: question})
        elif kind == "drop" and asked:
            name = chance.choice(sorted(asked))
            book.drop(name)
            words.do(boxes, {other: asked[other] for other in asked if other != name})
        elif kind == "back" and len(words.states) > 1:
            book.back()
            words.states.pop()

    def assert_same(self, book, words):
        boxes, asked = words.state()
        self.assertEqual(book.boxes(), boxes)
        self.assertEqual(book.names(), tuple(sorted(asked)))
        self.assertEqual(book.deeds(), len(words.states) - 1)
        self.assertEqual(book.counts(), {p: sum(box[0] == p for box in boxes) for p in {box[0] for box in boxes}})
        for name in asked:
            self.assertEqual(book.answer(name), words.answer(name))

    def test_by_the_words_of_the_document(self):
        chance = random.Random(1)
        for _ in range(25):
            habit = chance.choice([random_habit, random_fair])(chance.choice(SIZES), chance)
            questions = [random_question(habit, chance) for _ in range(4)]
            questions = [question for question in questions if weights_for(habit, question) is not None]
            book, words = Book(habit), Words(habit)
            for _ in range(25):
                self.deed(book, words, chance, questions)
                self.assert_same(book, words)

    def test_copies_go_on_apart(self):
        chance = random.Random(2)
        for _ in range(15):
            book, words = Book(EACH), Words(EACH)
            questions = [integers(0, 1, 1, 2), integers(0, 0, 1, 1)]
            for _ in range(15):
                self.deed(book, words, chance, questions)
            other, others = book.copy(), Words(EACH)
            others.states = list(words.states)
            self.assertIs(type(other), Book)
            for _ in range(20):
                self.deed(book, words, chance, questions)
                self.deed(other, others, chance, questions)
                self.assert_same(book, words)
                self.assert_same(other, others)
            # Both go back all the way.
            for one in (book, other):
                while one.deeds():
                    one.back()
                self.assertEqual((one.boxes(), one.names()), ([], ()))


class Wrong(unittest.TestCase):
    def book(self):
        book = Book(ONE)
        book.put(ZERO)
        book.ask("a", ONES)
        return book

    def test_wrong_boxes(self):
        book = self.book()
        for thing in strangers() + [(), ((0,), (2,)), ((2,), (0,)), [(0,), (0,)], ((0,), [0]), ((0,), (True,)),
                                    ((0, 1), (0,)), ((1, 0), (0, 0)), None, deep_list(40), deep_tuple(40)]:
            for call in (lambda: book.put(thing), lambda: book.exchange(0, thing)):
                with self.assertRaises(NoBox):
                    call()
        for box in all_boxes((2, 2)):
            if box[0] != (0,):
                for call in (lambda: book.put(box), lambda: book.exchange(0, box)):
                    with self.assertRaises(NeverShown):
                        call()
        with self.assertRaises(NeverShown):
            Book(habit_of((2, 2), {ZERO: (1, 1)})).put(((0, 1), (0, 0)))
        with self.assertRaises(NeverShown):
            Book(whole((2,))).put(ROOT)

    def test_wrong_indices(self):
        book = self.book()
        for index in [1, 2, -1, True, False, None, "0", (0,), [0], b"0", {}, 10 ** 59, -(10 ** 59), small_habit(), int,
                      deep_list(40), deep_tuple(40), deep_dict(40), range(1), ZERO]:
            for call in (lambda: book.take(index), lambda: book.exchange(index, ZERO), lambda: book.exchange(index, None)):
                with self.assertRaises(NoNumber):
                    call()
        book.take(0)
        for call in (lambda: book.take(0), lambda: book.exchange(0, ZERO)):
            with self.assertRaises(NoNumber):
                call()

    def test_wrong_names(self):
        book = self.book()
        wrong = [thing for thing in strangers() if thing not in ("a", "ab")] + WRONG_NAMES
        for name in wrong:
            for question in (ONES, integers(0, 1, 0, 1), None):
                with self.assertRaises(NoName):
                    book.ask(name, question)
        for name in wrong + ["b", "ab", "abcdefgh"]:
            for call in (book.drop, book.answer):
                with self.assertRaises(NoName):
                    call(name)

    def test_wrong_questions(self):
        book = self.book()
        for question in strangers() + NO_QUESTIONS:
            for name in ("a", "b"):
                with self.assertRaises(NoQuestion):
                    book.ask(name, question)
        for name in ("a", "b"):
            with self.assertRaises(NotTold):
                book.ask(name, integers(0, 1, 0, 1))
        self.assertEqual((book.names(), book.answer("a"), book.deeds()), (("a",), (0, 1), 2))


if __name__ == "__main__":
    unittest.main()
