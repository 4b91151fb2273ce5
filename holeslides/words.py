"""Words: their straight rows, the exchanges between alike ones, and their longest picks."""

from holeslides.checks import check_word, is_whole
from holeslides.errors import InvalidNumber, NotAlike
from holeslides.insertion import pair_of


def straight_of(word):
    """The list of the straight rows of a word."""
    return pair_of(word)[0]


def exchanges(word):
    """The list of the words that come of a word by one exchange, each once, ascending."""
    check_word(word)
    return sorted([exchanged(word, at) for at in range(len(word) - 1) if can_exchange(word, at)])


def are_alike(word, other):
    """Whether two words have the same straight rows."""
    return straight_of(word) == straight_of(other)


def chain(word, other):
    """A list of words from a word to another one, each an exchange away from the one before."""
    if not are_alike(word, other):
        raise NotAlike()
    there = way_to_straight(word)
    back = way_to_straight(other)
    # Both ways end at the same word; where they meet before, the rest is a detour.
    while len(there) > 1 and len(back) > 1 and there[-2] == back[-2]:
        there.pop()
        back.pop()
    back.pop()
    back.reverse()
    return there + back


def longest(word, many):
    """The greatest number of letters in so many ascending picks without a common place."""
    check_word(word)
    check_many(many)
    return sum(len(row) for row in straight_of(word)[:many])


def longest_falling(word, many):
    """The greatest number of letters in so many falling picks without a common place."""
    check_word(word)
    check_many(many)
    return sum(min(len(row), many) for row in straight_of(word))


def a_pick(word):
    """The list of the indexes, ascending, of the letters of a longest ascending pick."""
    check_word(word)
    # For each letter a longest pick that ends with it.
    picks = []
    for at, letter in enumerate(word):
        shorter = [pick for pick in picks if word[pick[-1]] <= letter]
        picks.append(max(shorter, key=len, default=[]) + [at])
    return max(picks, key=len)


def check_many(many):
    """Raise InvalidNumber if this is not a whole number from 0 on."""
    if not is_whole(many) or many < 0:
        raise InvalidNumber(many)


def can_exchange(word, at):
    """Whether the letter at a place and the next one can change their places."""
    lesser = min(word[at], word[at + 1])
    greater = max(word[at], word[at + 1])
    if at > 0 and lesser < word[at - 1] <= greater:
        return True
    return at + 2 < len(word) and lesser <= word[at + 2] < greater


def exchanged(word, at):
    """A new word in which the letter at a place and the next one have changed their places."""
    return word[:at] + [word[at + 1], word[at]] + word[at + 2:]


def way_to_straight(word):
    """The words from a word to that of its straight rows, each an exchange away from the one before."""
    way = [list(word)]
    lengths = []
    for at in range(len(word)):
        index = put_by_exchanges(way, lengths, at)
        if index == len(lengths):
            lengths.append(0)
        lengths[index] += 1
    return way


def put_by_exchanges(way, lengths, at):
    """Go on with a way whose last word begins with the word of straight rows of
    these lengths, until the letter behind these rows is put in; the index of
    the row that is longer then.
    """
    index = 0
    while index < len(lengths) and way[-1][at - 1] > way[-1][at]:
        first = at - lengths[index]
        pass_through_row(way, first, at)
        at = first
        index += 1
    return index


def pass_through_row(way, first, at):
    """Go on with a way until the letter behind a row, from `first` to before
    `at`, has the place of the first greater letter, which is in front of the row then.
    """
    letter = way[-1][at]
    # Each greater letter but the first one comes behind the letter that is put in.
    while at - 2 >= first and way[-1][at - 2] > letter:
        at -= 1
        way.append(exchanged(way[-1], at))
    for place in range(at - 2, first - 1, -1):
        way.append(exchanged(way[-1], place))
