"""A paper looked at beside its program, line by line."""

from kindbags.bags import bag_of, book_of
from kindbags.errors import NoPaper
from kindbags.kinds import is_bag, is_kind, of_answer
from kindbags.papers import INNER_PAPERS, inner_papers
from kindbags.programs import inner, is_whole_number
from kindbags.walks import flat, path_of

# The words of a paper of a program of this word.
PAPER_WORDS = {"name": ("name",), "way": ("some", "way"), "give": ("give",), "pair": ("left", "right", "both"),
               "first": ("first",), "second": ("second",), "whole": ("whole",), "plus": ("plus",), "look": ("look",)}
# The inner ones of the program at which a paper's inner papers stand. Of a give and a look it hangs on more.
STANDS_AT = {"name": (), "hole": (), "some": (), "whole": (), "way": (0,), "left": (0,), "right": (1,), "first": (0,),
             "second": (0,), "both": (0, 1), "plus": (0, 1)}


def looked(program, paper):
    return looked_through(program, paper).told_in_all()


def stands(program, paper):
    return [path_of(line.place) for line in looked_through(program, paper).found]


def looked_through(program, paper):
    looking = Looking()
    looking.go_through(program, paper)
    return looking


def around_looked_through(program, place, around):
    looking = Looking()
    looking.hole = looking.spot_for(place)
    looking.go_through(program, around)
    return looking


def spot_of(spots, place):
    # None where no line stands at the place.
    spot = 0
    for k in place:
        spot = spots.get((spot, k))
    return spot


class Line:
    # A line, the part of the program of which it is a paper, and what is known of it so far. Its path and its
    # place are kept as trails; its spot is a number that all lines at one place have in common.

    def __init__(self, part, paper, path, place, spot):
        self.part = part
        self.paper = paper
        self.path = path
        self.place = place
        self.spot = spot
        self.inners = []
        self.kind = None


class Looking:
    # Keeps the lines that were found so far, in order, and what is still to be done, the next one last: a line
    # beside "form", "choice" or "kind". The kinds of bound names are gathered in a list for each way's line
    # around, those of open names in outer. In spots stands, by the spot of a place and a number, the spot of the
    # place's inner one of this number. At the spot hole, if there is one, stand holes and nothing else.

    def __init__(self):
        self.pending = []
        self.found = []
        self.scopes = []
        self.outer = {}
        self.spots = {}
        self.hole = None

    def go_through(self, program, paper):
        self.pending.append((Line(program, paper, None, None, 0), "form"))
        while self.pending:
            entry = self.pending.pop()
            if entry[1] == "form":
                self.look_at_form(entry[0])
            elif entry[1] == "choice":
                self.choose(entry[0])
            else:
                self.tell_kind(entry[0])

    def told_in_all(self):
        return (self.found[0].kind, book_of(self.outer))

    def spot_for(self, place):
        spot = 0
        for k in place:
            spot = self.spot_within(spot, k)
        return spot

    def spot_within(self, spot, number):
        return self.spots.setdefault((spot, number), len(self.spots) + 1)

    def look_at_form(self, line):
        if not self.has_form_for(line):
            raise NoPaper(path_of(line.path))
        self.found.append(line)
        word = line.paper[0]
        if word == "look":
            # Which inner one its Q belongs to is known only behind its P.
            self.look_within(line, (0,), "choice")
            return
        if word == "way":
            self.scopes.append([])
        numbers = (0,) + (1,) * len(line.paper[2]) if word == "give" else STANDS_AT[word]
        self.look_within(line, numbers, "kind")

    def has_form_for(self, line):
        if line.spot == self.hole:
            return is_hole(line.paper)
        return has_paper_form(line.part, line.paper)

    def look_within(self, line, numbers, then):
        # On with the line's next inner papers, which stand at these inner ones, and then with the line itself.
        papers = inner_papers(line.paper)
        parts = inner(line.part)
        start = len(line.inners)
        for k, number in enumerate(numbers, start=start):
            spot = self.spot_within(line.spot, number)
            line.inners.append(Line(parts[number], papers[k], (line.path, k), (line.place, number), spot))
        self.pending.append((line, then))
        self.pending.extend([(one, "form") for one in reversed(line.inners[start:])])

    def choose(self, line):
        kind = line.inners[0].kind
        if kind[0] != "is":
            raise NoPaper(path_of(line.path))
        self.look_within(line, (1 if kind[1] == 0 else 2,), "kind")

    def tell_kind(self, line):
        kinds = [one.kind for one in line.inners]
        if line.paper[0] == "name":
            line.kind = line.paper[1]
            self.gather(line.part[1], (line.kind,))
        elif line.paper[0] == "hole":
            line.kind = line.paper[1]
            for number, bag in line.paper[2]:
                self.gather(number, bag)
        elif line.paper[0] == "way":
            line.kind = ("way", bag_of(self.scopes.pop()), kinds[0])
        else:
            line.kind = kind_from(line.part, line.paper, kinds)
        if line.kind is None:
            raise NoPaper(path_of(line.path))

    def gather(self, number, kinds):
        ways = len(self.scopes)
        if number < ways:
            self.scopes[ways - 1 - number].extend(kinds)
        else:
            self.outer.setdefault(number - ways, []).extend(kinds)


def has_paper_form(program, thing):
    if not isinstance(thing, tuple) or len(thing) == 0 or thing[0] not in PAPER_WORDS[program[0]]:
        return False
    if thing[0] == "name":
        return len(thing) == 2 and is_kind(thing[1])
    if thing[0] == "give":
        return len(thing) == 3 and isinstance(thing[2], tuple)
    return len(thing) - 1 == INNER_PAPERS[thing[0]]


def is_hole(thing):
    if not isinstance(thing, tuple) or len(thing) != 3 or thing[0] != "hole":
        return False
    return is_kind(thing[1]) and is_row_of_bags(thing[2])


def is_row_of_bags(thing):
    # Whether it is a book as a hole has it, a row of pairs (number, bag), each number above the one ahead of it.
    if not isinstance(thing, tuple) or not all([is_named_bag(one) for one in thing]):
        return False
    numbers = [number for number, bag in thing]
    return numbers == sorted(set(numbers))


def is_named_bag(thing):
    if not isinstance(thing, tuple) or len(thing) != 2 or not is_whole_number(thing[0]) or thing[0] < 0:
        return False
    return is_bag(thing[1]) and len(thing[1]) > 0


def kind_from(program, paper, kinds):
    # The kind of a line whose inner papers tell these kinds; None where they aren't as they must be.
    word = paper[0]
    if word == "some":
        return ("some",)
    if word == "whole":
        return ("is", program[1])
    if word == "give":
        return kind_of_give(kinds[0], kinds[1:])
    if word == "left" or word == "right":
        return (word, kinds[0])
    if word == "both":
        return ("both", kinds[0], kinds[1]) if of_answer(kinds[0]) and of_answer(kinds[1]) else None
    if word == "first":
        return kinds[0][1] if kinds[0][0] == "left" else None
    if word == "second":
        return kinds[0][1] if kinds[0][0] == "right" else None
    if word == "plus":
        return kind_of_plus(kinds[0], kinds[1])
    return kinds[1]


def kind_of_give(kind, given):
    if kind[0] != "way":
        return None
    # By their flat lists, as Python doesn't compare what nests very deep.
    return kind[2] if flat(kind[1]) == flat(bag_of(given)) else None


def kind_of_plus(kind, other):
    if kind[0] != "is" or other[0] != "is":
        return None
    return ("is", kind[1] + other[1])
