import itertools
import random
import unittest

from holeslides.errors import NotAlike
from holeslides.insertion import pair_of
from holeslides.words import a_pick, are_alike, chain, exchanges, longest, longest_falling, straight_of
from tests.things import (
    great_words, put_back, random_words, ranked, small_words, straight_by_words, unsorted_rows,
)

THE_WORD = [1, 3, 5, 1, 4, 2]


def exchanges_by_words(word):
    """The words that come of the rules of the document as they are written."""
    found = set()
    for at in range(len(word) - 2):
        a, b, c = word[at:at + 3]
        if b < a <= c or c < a <= b:
            found.add(tuple(word[:at] + [a, c, b] + word[at + 3:]))
        if a <= c < b or b <= c < a:
            found.add(tuple(word[:at] + [b, a, c] + word[at + 3:]))
    return [list(other) for other in sorted(found)]


def classes_by_exchanges(words):
    """The words that exchanges lead to from one another, as sets of tuples."""
    left, classes = {tuple(word) for word in words}, set()
    while left:
        found, new = set(), {left.pop()}
        while new:
            found |= new
            new = {tuple(other) for word in new for other in exchanges_by_words(list(word))} - found
        left -= found
        classes.add(frozenset(found))
    return classes


def classes_by(told, words):
    """The words of which the same is told, as sets of tuples."""
    classes = {}
    for word in words:
        classes.setdefault(told(word), set()).add(tuple(word))
    return {frozenset(found) for found in classes.values()}


def most_picked(word, many, follows):
    """The greatest number of letters of so many picks: each letter goes to one of them or to none."""
    most = {(None,) * many: 0}
    for letter in word:
        for lasts, count in list(most.items()):
            for pick in range(many):
                if lasts[pick] is None or follows(lasts[pick], letter):
                    state = lasts[:pick] + (letter,) + lasts[pick + 1:]
                    # Which pick ends with which letter does not matter.
                    state = tuple(sorted(state, key=lambda last: (last is None, last or 0)))
                    most[state] = max(most.get(state, 0), count + 1)
    return max(most.values())


def ascends(before, letter):
    return letter >= before


def falls(before, letter):
    return letter < before


def as_key(rows):
    return tuple(tuple(row) for row in rows)


def cut(word, low, high):
    return [letter for letter in word if low <= letter <= high]


class TestExamples(unittest.TestCase):

    def test_the_examples_of_the_document(self):
        self.assertEqual(straight_of(THE_WORD), [[1, 1, 2], [3, 4], [5]])
        self.assertEqual(exchanges([2, 1, 3]), [[2, 3, 1]])
        self.assertEqual(exchanges([1, 1, 2]), [])
        self.assertEqual(exchanges([2, 1, 1]), [[1, 2, 1]])
        self.assertIs(are_alike([2, 1, 3], [2, 3, 1]), True)
        self.assertEqual(chain([2, 1, 3], [2, 3, 1]), [[2, 1, 3], [2, 3, 1]])
        self.assertEqual(chain([5, 5], [5, 5]), [[5, 5]])
        self.assertEqual(longest(THE_WORD, 1), 3)
        self.assertEqual(longest(THE_WORD, 2), 5)
        self.assertEqual(longest_falling(THE_WORD, 1), 3)
        self.assertIn(a_pick([2, 1, 2]), [[0, 2], [1, 2]])


class TestStraightRows(unittest.TestCase):

    def test_words_of_one_letter(self):
        self.assertEqual(straight_of([7]), [[7]])
        self.assertEqual(straight_of([0]), [[0]])
        self.assertEqual(straight_of([-10 ** 59]), [[-10 ** 59]])

    def test_equal_letters_stand_in_one_row(self):
        self.assertEqual(straight_of([3, 3, 3]), [[3, 3, 3]])
        self.assertEqual(straight_of([3, 3, 2]), [[2, 3], [3]])
        self.assertEqual(straight_of([2, 3, 3, 2]), [[2, 2, 3], [3]])

    def test_the_first_greater_number_is_put_into_the_next_row(self):
        self.assertEqual(straight_of([1, 2, 4, 4, 3]), [[1, 2, 3, 4], [4]])

    def test_rows_can_be_longer_and_more_than_8(self):
        self.assertEqual(straight_of(list(range(40))), [list(range(40))])
        self.assertEqual(straight_of([6] * 40), [[6] * 40])
        self.assertEqual(straight_of(list(range(40, 0, -1))), [[letter] for letter in range(1, 41)])
        self.assertEqual(
            straight_of(list(range(20, 0, -1)) + list(range(21, 41))),
            [[1] + list(range(21, 41))] + [[letter] for letter in range(2, 21)],
        )

    def test_all_small_words_and_many_long_ones(self):
        for word in itertools.chain(small_words(6, 3), random_words(300, 1, 40, 12), great_words()):
            found = straight_of(word)
            self.assertEqual(found, straight_by_words(word)[0], word)
            self.assertEqual(unsorted_rows([0] * len(found), found), [])
            lengths = [len(row) for row in found]
            self.assertEqual(lengths, sorted(lengths, reverse=True))
            self.assertEqual(sorted(sum(found, [])), sorted(word))

    def test_the_word_of_straight_rows_has_these_straight_rows(self):
        for word in random_words(200, 1, 40, 12):
            found = straight_of(word)
            self.assertEqual(straight_of(sum(found[::-1], [])), found)


class TestExchanges(unittest.TestCase):

    def test_words_of_one_and_two_letters_have_none(self):
        self.assertEqual(exchanges([1]), [])
        self.assertEqual(exchanges([2, 1]), [])
        self.assertEqual(exchanges([1, 2]), [])

    def test_all_three_letters(self):
        expected = {
            (2, 1, 3): [[2, 3, 1]], (2, 3, 1): [[2, 1, 3]], (1, 3, 2): [[3, 1, 2]], (3, 1, 2): [[1, 3, 2]],
            (1, 2, 1): [[2, 1, 1]], (2, 1, 1): [[1, 2, 1]], (2, 1, 2): [[2, 2, 1]], (2, 2, 1): [[2, 1, 2]],
        }
        for word in itertools.product([1, 2, 3], repeat=3):
            numbers = sorted(set(word))
            same = tuple(numbers.index(letter) + 1 for letter in word)
            found = [[numbers[letter - 1] for letter in other] for other in expected.get(same, [])]
            self.assertEqual(exchanges(list(word)), found)

    def test_a_place_with_a_letter_between_on_both_sides_counts_once(self):
        self.assertEqual(exchanges([2, 1, 3, 2]), [[2, 3, 1, 2]])
        self.assertEqual(exchanges([2, 2, 1, 1]), [[2, 1, 2, 1]])

    def test_they_are_ascending(self):
        self.assertEqual(exchanges([2, 1, 3, 5, 4]), [[2, 1, 5, 3, 4], [2, 3, 1, 5, 4]])
        self.assertEqual(exchanges([3, 5, 4, 1, 2]), [[3, 5, 1, 4, 2], [5, 3, 4, 1, 2]])

    def test_words_without_exchanges(self):
        for word in [[5] * 40, list(range(40)), list(range(40, 0, -1))]:
            self.assertEqual(exchanges(word), [])

    def test_all_small_words_and_many_long_ones(self):
        for word in itertools.chain(small_words(6, 3), random_words(300, 1, 40, 12), great_words()):
            self.assertEqual(exchanges(word), exchanges_by_words(word), word)


class TestAlikeWords(unittest.TestCase):

    def test_edges(self):
        self.assertIs(are_alike([1], [1]), True)
        self.assertIs(are_alike([1], [2]), False)
        self.assertIs(are_alike([1, 2], [2, 1]), False)
        self.assertIs(are_alike([1, 1], [1]), False)
        self.assertIs(are_alike([2, 1, 2], [2, 1, 1]), False)
        self.assertIs(are_alike([2, 1, 2], [2, 2, 1]), True)
        self.assertIs(are_alike([5] * 40, [5] * 40), True)
        self.assertIs(are_alike([5] * 40, [5] * 39), False)

    def test_exactly_if_exchanges_lead_from_one_to_the_other(self):
        for words in [list(small_words(5, 3)), [list(word) for word in itertools.permutations(range(1, 7))]]:
            classes = classes_by_exchanges(words)
            self.assertEqual(classes, classes_by(lambda word: as_key(straight_of(word)), words))
            for found in sorted(classes, key=sorted)[:40]:
                first = list(min(found))
                for word in words[::7]:
                    self.assertIs(are_alike(first, word), tuple(word) in found)

    def test_each_exchange_leads_to_an_alike_word(self):
        for word in itertools.chain(random_words(100, 30, 40, 15), great_words()):
            for other in exchanges(word):
                self.assertIs(are_alike(word, other), True)
                self.assertNotEqual(word, other)


class TestChain(unittest.TestCase):

    def check(self, word, other):
        found = chain(word, other)
        self.assertEqual(found[0], word)
        self.assertEqual(found[-1], other)
        for before, after in zip(found, found[1:]):
            self.assertIn(after, exchanges_by_words(before))
        if word == other:
            self.assertEqual(found, [word])
        return found

    def test_between_all_small_words(self):
        words = list(small_words(4, 3)) + [list(word) for word in itertools.permutations([1, 2, 3, 4])]
        for word in words:
            for other in words:
                if straight_of(word) == straight_of(other):
                    self.check(word, other)
                else:
                    with self.assertRaises(NotAlike):
                        chain(word, other)

    def test_between_great_words(self):
        numbers = random.Random(6)
        for word in itertools.chain(random_words(40, 30, 40, 12), great_words()):
            other = word
            for _ in range(300):
                other = numbers.choice(exchanges_by_words(other) or [other])
            self.check(word, other)
            self.check(other, word)
            self.check(word, sum(straight_of(word)[::-1], []))
            self.check(word, word)

    def test_words_that_are_not_alike(self):
        for word, other in [([1], [2]), ([1, 2], [2, 1]), ([1], [1, 1]), ([5] * 40, [5] * 39 + [4])]:
            with self.assertRaises(NotAlike):
                chain(word, other)


class TestPicks(unittest.TestCase):

    def test_edges(self):
        self.assertEqual(longest([3], 0), 0)
        self.assertEqual(longest([3], 1), 1)
        self.assertEqual(longest_falling([3], 0), 0)
        self.assertEqual(longest_falling([3], 1), 1)
        self.assertEqual(longest([2, 2, 2], 1), 3)
        self.assertEqual(longest_falling([2, 2, 2], 1), 1)
        self.assertEqual(longest_falling([2, 2, 2], 2), 2)
        self.assertEqual(longest([3, 2, 1], 1), 1)
        self.assertEqual(longest([3, 2, 1], 2), 2)
        self.assertEqual(longest_falling([3, 2, 1], 1), 3)
        self.assertEqual(a_pick([3]), [0])
        self.assertEqual(a_pick([2, 2, 2]), [0, 1, 2])
        self.assertEqual(a_pick([3, 1, 2]), [1, 2])
        self.assertEqual(len(a_pick([3, 2, 1])), 1)

    def test_picks_of_no_number_and_of_more_than_there_are_rows(self):
        for word in [[3], THE_WORD] + great_words():
            for function in [longest, longest_falling]:
                self.assertEqual(function(word, 0), 0)
                for many in [40, 41, 1000, 10 ** 59, 10 ** 5000]:
                    self.assertEqual(function(word, many), len(word))

    def test_small_words_letter_by_letter(self):
        for word in itertools.chain(small_words(5, 3), random_words(60, 6, 9, 6)):
            for many in range(len(word) + 2):
                self.assertEqual(longest(word, many), most_picked(word, many, ascends), (word, many))
                self.assertEqual(longest_falling(word, many), most_picked(word, many, falls), (word, many))

    def test_great_words_letter_by_letter(self):
        for word in itertools.chain(random_words(20, 30, 40, 9), great_words()):
            for many in [1, 2]:
                self.assertEqual(longest(word, many), most_picked(word, many, ascends), (word, many))
                self.assertEqual(longest_falling(word, many), most_picked(word, many, falls), (word, many))

    def test_a_pick_is_a_longest_ascending_one(self):
        for word in itertools.chain(small_words(6, 3), random_words(200, 1, 40, 20), great_words()):
            found = a_pick(word)
            self.assertIs(type(found), list)
            self.assertTrue(all(type(at) is int for at in found))
            self.assertTrue(all(before < after for before, after in zip(found, found[1:])))
            self.assertTrue(0 <= found[0] and found[-1] < len(word))
            letters = [word[at] for at in found]
            self.assertEqual(letters, sorted(letters))
            self.assertEqual(len(found), most_picked(word, 1, ascends))


class TestCutWords(unittest.TestCase):

    def test_what_is_left_of_alike_words_is_alike(self):
        words = list(small_words(5, 4))
        for found in classes_by(lambda word: as_key(straight_of(word)), words):
            first, *others = sorted(found)
            for low, high in [(2, 9), (1, 2), (2, 2), (2, 3), (3, 9), (1, 3), (9, 9)]:
                rest = cut(list(first), low, high)
                for other in others:
                    other_rest = cut(list(other), low, high)
                    if rest and other_rest:
                        self.assertIs(are_alike(rest, other_rest), True)
                    else:
                        self.assertEqual(rest, other_rest)

    def test_what_is_left_of_great_alike_words_is_alike(self):
        numbers = random.Random(7)
        for word in random_words(30, 30, 40, 9):
            other = word
            for _ in range(100):
                other = numbers.choice(exchanges_by_words(other))
            for low in range(1, 6):
                for high in range(low + 1, 10):
                    if cut(word, low, high):
                        self.assertIs(are_alike(cut(word, low, high), cut(other, low, high)), True)

    def test_words_are_alike_exactly_if_the_picks_of_their_lesser_letters_are_as_great(self):
        def told(word):
            lesser = [[letter for letter in word if letter <= most] for most in range(1, 5)]
            return len(word), str([[longest(rest, many) for many in range(6)] if rest else [] for rest in lesser])

        for words in [list(small_words(5, 3)), [list(word) for word in itertools.product(range(1, 5), repeat=4)]]:
            self.assertEqual(classes_by(told, words), classes_by(lambda word: as_key(straight_of(word)), words))


class TestEqualNumbers(unittest.TestCase):

    def check(self, word):
        numbers = ranked(word)
        self.assertEqual(straight_of(word), put_back(straight_of(numbers), word))
        self.assertEqual(pair_of(word)[1], pair_of(numbers)[1])
        self.assertEqual(exchanges(word), sorted(put_back(exchanges(numbers), word)))
        for many in range(4):
            self.assertEqual(longest(word, many), longest(numbers, many))
            self.assertEqual(longest_falling(word, many), longest_falling(numbers, many))
        for pick in [a_pick(word), a_pick(numbers)]:
            for letters in [word, numbers]:
                chosen = [letters[at] for at in pick]
                self.assertEqual(chosen, sorted(chosen))
                self.assertEqual(len(chosen), longest(word, 1))

    def test_equal_letters_are_as_unlike_ones_the_earlier_ones_lesser(self):
        for word in itertools.chain(small_words(5, 3), random_words(100, 20, 40, 6), great_words()):
            self.check(word)

    def test_words_are_alike_if_the_numbered_ones_are(self):
        words = list(small_words(5, 2))
        for word in words:
            for other in words:
                alike = sorted(word) == sorted(other) and are_alike(ranked(word), ranked(other))
                self.assertIs(are_alike(word, other), alike)


if __name__ == "__main__":
    unittest.main()
