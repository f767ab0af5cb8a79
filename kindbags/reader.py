"""A program read from its text."""

from kindbags.errors import NoName, NoText
from kindbags.programs import INNER_COUNTS
from kindbags.words import is_figures, is_name, words_of


def read(text):
    words = words_of(text)
    reading = Reading()
    for at, word in enumerate(words):
        if not reading.take(word):
            raise NoText(at)
    if reading.awaited != "nothing":
        raise NoText(len(words))
    # Unbound names are told only of what is a program's text to its end.
    if reading.unbound is not None:
        raise NoName(reading.unbound)
    return reading.result


class Reading:
    # Keeps what a text has said so far, and what it may say next. Brackets that aren't closed yet are kept in
    # a list of tuples (word, name, inner ones), outermost first, a name being there only of a way.

    def __init__(self):
        self.awaited = "program"
        self.brackets = []
        self.ways_around = 0
        self.bound = {}
        self.unbound = None
        self.result = None

    def take(self, word):
        # Whether some text of a program goes on with this word; if so, it is taken up.
        if self.awaited == "program":
            return self.take_program(word)
        if self.awaited == "word":
            return self.take_word(word)
        if self.awaited == "name":
            return self.take_name(word)
        if self.awaited == "bracket":
            return self.take_bracket(word)
        return False

    def take_program(self, word):
        if word == "(":
            self.awaited = "word"
        elif is_figures(word):
            self.finish(("whole", int(word)))
        elif is_name(word):
            self.finish(("name", self.number_of(word)))
        else:
            return False
        return True

    def take_word(self, word):
        if word not in INNER_COUNTS:
            return False
        if word == "way":
            self.awaited = "name"
        else:
            self.brackets.append((word, None, []))
            self.awaited = "program"
        return True

    def take_name(self, word):
        if not is_name(word):
            return False
        self.brackets.append(("way", word, []))
        # A name may be had by several ways within one another; the nearest is the last one here.
        self.bound.setdefault(word, []).append(self.ways_around)
        self.ways_around += 1
        self.awaited = "program"
        return True

    def take_bracket(self, word):
        if word != ")":
            return False
        closed = self.brackets.pop()
        if closed[0] == "way":
            self.ways_around -= 1
            self.bound[closed[1]].pop()
        self.finish((closed[0],) + tuple(closed[2]))
        return True

    def number_of(self, name):
        levels = self.bound.get(name, [])
        if len(levels) > 0:
            return self.ways_around - 1 - levels[-1]
        if self.unbound is None:
            self.unbound = name
        return 0

    def finish(self, program):
        if len(self.brackets) == 0:
            self.result = program
            self.awaited = "nothing"
            return
        around = self.brackets[-1]
        around[2].append(program)
        self.awaited = "bracket" if len(around[2]) == INNER_COUNTS[around[0]] else "program"
