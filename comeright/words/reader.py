"""A reader: it goes along the words of a text, and refuses the first one with which no such text begins."""

from comeright.errors import NoText
from comeright.plans.terms import OPS, is_worth
from comeright.words.figures import number_of

MOST_SIGNS = 4000


class Reader:
    """The words of a text, and how many of them are read: what is no text, or is too long, has none."""

    def __init__(self, text):
        well = type(text) is str and len(text) <= MOST_SIGNS
        self.words = text.split(" ") if well else []
        self.at = 0

    def refuse(self):
        """Refuse the next word; where there is none, all of them could go on."""
        raise NoText(self.at)

    def sees(self, word):
        """Whether this is the next word."""
        return self.at < len(self.words) and self.words[self.at] == word

    def skips(self, word):
        """Whether this is the next word; it is read then."""
        if not self.sees(word):
            return False
        self.at += 1
        return True

    def next_word(self):
        """The next word, which isn't read by this."""
        if self.at == len(self.words):
            self.refuse()
        return self.words[self.at]

    def takes(self, part):
        """What was made of the next word, which is read by this; refuse it where that is None."""
        if part is None:
            self.refuse()
        self.at += 1
        return part

    def next_of(self, words):
        """The next word, one of these."""
        word = self.next_word()
        return self.takes(word if word in words else None)

    def next_number(self, least, top):
        """The number that the next word is, from least on, below top."""
        told = number_of(self.next_word())
        return self.takes(told if told is not None and least <= told < top else None)

    def ended(self, told):
        """What is told of all words; refuse one more."""
        if self.at < len(self.words):
            self.refuse()
        return told

    def next_leaf(self, words):
        """The leaf, or the worth, that the next words are; words have None, or below what the number with it is."""
        word = self.next_word()
        if is_worth(number_of(word)):
            return self.takes(number_of(word))
        # Where no number is below what it has to be, the word begins no leaf.
        self.takes(word if word in words and words[word] != 0 else None)
        return (word,) if words[word] is None else (word, self.next_number(0, words[word]))

    def next_term(self, words, deep, room):
        """(term, how many terms are in it) of the next words: so many at most, so many ops within one another."""
        head = self.next_word()
        parts = 3 if head == "if" else 2
        if head != "if" and head not in OPS:
            return (self.next_leaf(words), 1)
        # Each part has one term at least.
        self.takes(head if deep > 0 and parts < room else None)
        told = [head]
        many = 1
        for left in range(parts - 1, -1, -1):
            part, more = self.next_term(words, deep - 1, room - many - left)
            told.append(part)
            many += more
        return (tuple(told), many)
