"""Plain readings of the document, for things that aren't deep, beside which the program is looked at."""

import random

from kindbags.places import places
from kindbags.rules import behind, can_go
from kindbags.running import next_place, run


class Wrong(Exception):
    """No paper: the path of the line that is found wrong first."""


def plain_looked(program, paper, path=(), hole=None):
    """The kind, the book and the places of the lines of a paper, looked at as the document lists its forms.

    Where a place hole is told, holes stand there."""
    def ask(fits):
        if not fits:
            raise Wrong(path)

    def inside(k, number, one):
        below = hole[1:] if hole and hole[0] == number else None
        kind, book, stood = plain_looked(program[1 + number], one, path + (k,), below)
        return kind, book, [(number,) + place for place in stood]

    if hole == ():
        ask(plain_hole(paper))
        return paper[1], dict(paper[2]), [()]
    words = {"way": ("some", "way"), "pair": ("left", "right", "both")}.get(program[0], (program[0],))
    ask(type(paper) is tuple and len(paper) > 0 and any(paper[0] == word for word in words))
    word = paper[0]
    if word == "name":
        ask(len(paper) == 2 and plain_kind(paper[1]))
        return paper[1], {program[1]: (paper[1],)}, [()]
    if word == "give":
        ask(len(paper) == 3 and type(paper[2]) is tuple)
        told = [inside(0, 0, paper[1])] + [inside(k, 1, one) for k, one in enumerate(paper[2], 1)]
        kind = told[0][0]
        ask(kind[0] == "way" and list(kind[1]) == sorted(one[0] for one in told[1:]))
        return plain_together(kind[2], told)
    if word == "look":
        ask(len(paper) == 3)
        told = [inside(0, 0, paper[1])]
        ask(told[0][0][0] == "is")
        told.append(inside(1, 1 if told[0][0][1] == 0 else 2, paper[2]))
        return plain_together(told[1][0], told)
    stand = {"some": (), "whole": (), "right": (1,), "both": (0, 1), "plus": (0, 1)}.get(word, (0,))
    ask(len(paper) == 1 + len(stand))
    told = [inside(k, number, paper[1 + k]) for k, number in enumerate(stand)]
    kinds = [one[0] for one in told]
    if word == "some":
        return plain_together(("some",), told)
    if word == "whole":
        return plain_together(("is", program[1]), told)
    if word == "way":
        book = told[0][1]
        below = {number - 1: bag for number, bag in book.items() if number > 0}
        return plain_together(("way", book.get(0, ()), kinds[0]), [(None, below, told[0][2])])
    if word == "both":
        ask(all(kind[0] in ("is", "some", "both") for kind in kinds))
        return plain_together(("both",) + tuple(kinds), told)
    if word == "plus":
        ask(all(kind[0] == "is" for kind in kinds))
        return plain_together(("is", kinds[0][1] + kinds[1][1]), told)
    if word in ("first", "second"):
        ask(kinds[0][0] == {"first": "left", "second": "right"}[word])
        return plain_together(kinds[0][1], told)
    return plain_together((word, kinds[0]), told)


def plain_together(kind, told):
    """This kind, the books added, the places of all lines behind the line's own."""
    book = {}
    for one in told:
        for number, bag in one[1].items():
            book[number] = tuple(sorted(book.get(number, ()) + bag))
    return kind, book, [()] + [place for one in told for place in one[2]]


def plain_hole(thing):
    """Whether it is a hole, with a kind and a row of pairs of numbers and bags with things."""
    if type(thing) is not tuple or len(thing) != 3 or thing[0] != "hole" or not plain_kind(thing[1]):
        return False
    if type(thing[2]) is not tuple or not all(type(one) is tuple and len(one) == 2 for one in thing[2]):
        return False
    numbers = [number for number, bag in thing[2]]
    if not all(type(number) is int and number >= 0 for number in numbers):
        return False
    bags = [bag for number, bag in thing[2]]
    return (all(a < b for a, b in zip(numbers, numbers[1:]))
            and all(type(bag) is tuple and len(bag) > 0 and all(plain_kind(k) for k in bag) for bag in bags)
            and all(list(bag) == sorted(bag) for bag in bags))


def plain_kind(thing):
    """Whether it is a kind, as the document says it, of things that aren't deep."""
    if not isinstance(thing, tuple) or not thing or not isinstance(thing[0], str):
        return False
    if thing[0] == "is":
        return len(thing) == 2 and type(thing[1]) is int
    if thing[0] == "some":
        return thing == ("some",)
    if thing[0] == "way":
        return (len(thing) == 3 and isinstance(thing[1], tuple) and all(plain_kind(k) for k in thing[1])
                and tuple(sorted(thing[1])) == thing[1] and plain_kind(thing[2]))
    if thing[0] in ("left", "right"):
        return len(thing) == 2 and plain_kind(thing[1])
    if thing[0] == "both":
        return len(thing) == 3 and all(plain_kind(k) and k[0] in ("is", "some", "both") for k in thing[1:])
    return False


def plain_inners(paper):
    if paper[0] == "name":
        return ()
    return (paper[1],) + paper[2] if paper[0] == "give" else paper[1:]


def plain_lines(paper, path=()):
    found = [(path, paper)]
    for k, one in enumerate(plain_inners(paper)):
        found += plain_lines(one, path + (k,))
    return found


def plain_in_order(paper):
    if paper[0] == "name":
        return paper
    if paper[0] == "give":
        return ("give", plain_in_order(paper[1]), tuple(sorted(plain_in_order(one) for one in paper[2])))
    return (paper[0],) + tuple(plain_in_order(one) for one in paper[1:])


def plain_backward(program, place, later, paper):
    """Backward as the document says it, of a paper of later, which is the program behind the rule."""
    def at(one, where):
        for k in where:
            one = one[1 + k]
        return one

    def put_places(one, ways, where):
        if one == ("name", ways):
            return [where]
        if one[0] in ("name", "whole"):
            return []
        below = ways + 1 if one[0] == "way" else ways
        return [found for k, part in enumerate(one[1:]) for found in put_places(part, below, where + (k,))]

    stood = at(program, place)
    put = put_places(stood[1][1], 0, place) if stood[0] == "give" else []
    at_path = {path: where for (path, line), where in zip(plain_lines(paper), plain_looked(later, paper)[2])}

    def taken_out(line, path, given):
        if at_path[path] in put:
            given.append(line)
            return ("name", plain_looked(at(later, at_path[path]), line)[0])
        return rebuilt(line, [taken_out(one, path + (k,), given) for k, one in enumerate(plain_inners(line))])

    def went(line, path):
        if at_path[path] != place:
            return rebuilt(line, [went(one, path + (k,)) for k, one in enumerate(plain_inners(line))])
        if stood[0] == "give":
            given = []
            inner_one = taken_out(line, path, given)
            return ("give", ("way", inner_one), tuple(given))
        return {"first": ("first", ("left", line)), "second": ("second", ("right", line)),
                "plus": ("plus", ("whole",), ("whole",)), "look": ("look", ("whole",), line)}[stood[0]]

    return plain_in_order(went(paper, ()))


def plain_forward(program, place, paper):
    """Forward as the document says it, of a paper of the program."""
    def at(one, where):
        for k in where:
            one = one[1 + k]
        return one

    at_path = {path: where for (path, line), where in zip(plain_lines(paper), plain_looked(program, paper)[2])}

    def name_lines(line, path):
        """The paths of the lines of the way's own name within the way's P, in order."""
        where = at_path[path]
        ways = sum(at(program, where[:k])[0] == "way" for k in range(len(place) + 2, len(where)))
        found = [path] if line[0] == "name" and at(program, where)[1] == ways else []
        for k, one in enumerate(plain_inners(line)):
            found += name_lines(one, path + (k,))
        return found

    def went(line, path, instead):
        if path in instead:
            return instead[path]
        if at_path[path] != place:
            return rebuilt(line, [went(one, path + (k,), instead) for k, one in enumerate(plain_inners(line))])
        if line[0] in ("first", "second"):
            return line[1][1]
        if line[0] == "plus":
            return ("whole",)
        if line[0] == "look":
            return line[2]
        rest = [(plain_looked(program_given, one)[0], one) for one in line[2]]
        for found in name_lines(line[1][1], path + (0, 0)):
            kind = dict(plain_lines(paper))[found][1]
            k = [one[0] for one in rest].index(kind)
            instead[found] = rest.pop(k)[1]
        return went(line[1][1], path + (0, 0), instead)

    stood = at(program, place)
    program_given = stood[2] if stood[0] == "give" else None
    return plain_in_order(went(paper, (), {}))


def plain_parted(program, paper, place):
    """The paper parted at the place, each line's own place told by where it stands."""
    stood = plain_looked(program, paper)[2]
    at_path = {path: where for (path, line), where in zip(plain_lines(paper), stood)}
    taken = []

    def went(line, path):
        if at_path[path] == place:
            part = program
            for k in place:
                part = part[1 + k]
            kind, book, _ = plain_looked(part, line)
            taken.append(line)
            return ("hole", kind, tuple(sorted(book.items())))
        return rebuilt(line, [went(one, path + (k,)) for k, one in enumerate(plain_inners(line))])

    return went(paper, ()), taken


def shuffled(paper, draw):
    """The paper with the papers of each give in an order drawn by chance."""
    if paper[0] == "name":
        return paper
    inners = [shuffled(one, draw) for one in plain_inners(paper)]
    if paper[0] == "give":
        given = inners[1:]
        draw.shuffle(given)
        inners[1:] = given
    return rebuilt(paper, inners)


def rebuilt(paper, inners):
    if paper[0] == "name":
        return paper
    if paper[0] == "give":
        return ("give", inners[0], tuple(inners[1:]))
    return (paper[0],) + tuple(inners)


def answers_paper(answer):
    if answer[0] == "pair":
        return ("both", answers_paper(answer[1]), answers_paper(answer[2]))
    return ("whole",) if answer[0] == "whole" else ("some",)


def plain_run(program):
    """The program, those to which its run comes, and the places of the rules."""
    programs, ruled = [program], []
    place = next_place(program)
    while place is not None:
        ruled.append(place)
        programs.append(behind(programs[-1], place))
        place = next_place(programs[-1])
    return programs, ruled


def plain_paper(program):
    """The paper of a closed program that comes to an answer, written from the run, last rule first."""
    programs, ruled = plain_run(program)
    paper = answers_paper(programs[-1])
    for k in range(len(ruled) - 1, -1, -1):
        paper = plain_backward(programs[k], ruled[k], programs[k + 1], paper)
    return paper


def plain_rule_places(program):
    return [place for place in places(program) if can_go(program, place)]


def drawn_programs(many, seed):
    """So many closed programs, drawn by chance but the same for each seed, that come to an answer by some rules."""
    draw = random.Random(seed)

    def drawn(size, ways):
        if size <= 1:
            return ("name", draw.randrange(ways)) if ways and draw.random() < 0.7 else ("whole", draw.randrange(-1, 3))
        word = draw.choice(["way", "give", "give", "given", "given", "pair", "first", "second", "plus", "look"])
        if word == "way":
            return ("way", drawn(size - 1, ways + 1))
        if word in ("first", "second"):
            return (word, ("pair", drawn(size // 2, ways), drawn(size // 2, ways)))
        if word == "given":
            return ("give", ("way", drawn(size * 2 // 3, ways + 1)), drawn(size // 3, ways))
        if word == "look":
            return ("look", drawn(size // 3, ways), drawn(size // 3, ways), drawn(size // 3, ways))
        return (word, drawn(size // 2, ways), drawn(size // 2, ways))

    found = []
    while len(found) < many:
        program = drawn(draw.randrange(4, 40), 0)
        told = run(program, 60)
        if told[0] == "answer" and told[2] > 1:
            found.append(program)
    return found
