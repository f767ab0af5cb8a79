"""The paper of a program that comes to an answer.

There is but one such paper, put in order, so it need not be taken back rule by rule: a machine (13) comes to each of
its lines just once, and a line's kind hangs on lines alone to which the machine comes later. The lines are noted down
as the machine goes, and then written, the last one first.
"""

from kindbags.bags import bag_of
from kindbags.checker import kind_from
from kindbags.errors import NoRoom
from kindbags.kinds import inner_kinds
from kindbags.papers import with_inner_papers
from kindbags.papertexts import in_order
from kindbags.running import run
from kindbags.walks import is_over

MOST_LINES = 2000
MOST_KINDS = 300
MOST_DEEP = 60


def paper_of(program, most):
    if run(program, most)[0] != "answer":
        return None
    noting = Noting()
    noting.go_along(program)
    for note in reversed(noting.notes):
        write(note)
    return in_order(noting.notes[0].paper)


class Note:
    # A line to be written: the part of the program, and for its open names the notes of the gives that gave them.
    # Its form is the word of the paper. Linked is, to a name, the note of what was looked up, and to a way that
    # was given something the note of the give.

    def __init__(self, part, row):
        self.part = part
        self.row = row
        self.form = "some" if part[0] == "way" else part[0]
        self.inners = []
        self.linked = None
        self.number = None
        self.kind = None
        self.paper = None


class Noting:
    # The machine of 13, with notes in the stead of slips and of marks; of a program that comes to an answer.

    def __init__(self):
        self.notes = []
        self.stack = []

    def go_along(self, program):
        note = self.noted(program, ())
        while note is not None:
            note = self.note_behind(note)

    def noted(self, part, row):
        if len(self.notes) == MOST_LINES:
            raise NoRoom()
        note = Note(part, row)
        self.notes.append(note)
        return note

    def on_with(self, note, k, row):
        one = self.noted(note.part[k], row)
        note.inners.append(one)
        return one

    def note_behind(self, note):
        # The note to which the machine goes on, None where it has ended.
        word = note.part[0]
        if word == "name":
            given = note.row[note.part[1]]
            note.linked = self.on_with(given, 2, given.row)
            return note.linked
        if word == "way":
            return self.behind_way(note)
        if word == "pair":
            return self.behind_pair(note)
        if word == "whole":
            return self.behind_answer(note.part[1])
        self.stack.append(note)
        return self.on_with(note, 1, note.row)

    def form_around(self):
        return self.stack[-1].form if self.stack else None

    def behind_way(self, note):
        if self.form_around() != "give":
            return self.behind_answer(None)
        note.form = "way"
        note.linked = self.stack.pop()
        return self.on_with(note, 1, (note.linked,) + note.row)

    def behind_pair(self, note):
        word = self.form_around()
        if word == "first" or word == "second":
            self.stack.pop()
            note.form = "left" if word == "first" else "right"
            return self.on_with(note, 1 if word == "first" else 2, note.row)
        note.form = "both"
        self.stack.append(note)
        return self.on_with(note, 1, note.row)

    def behind_answer(self, number):
        # The number is that of a whole; what else an answer is isn't asked for.
        now = number
        while self.stack:
            around = self.stack[-1]
            if around.form != "look" and len(around.inners) == 1:
                around.number = now
                return self.on_with(around, 2, around.row)
            self.stack.pop()
            if around.form == "look":
                return self.on_with(around, 2 if now == 0 else 3, around.row)
            now = around.number + now if around.form == "plus" else None
        return None


def write(note):
    kinds = [one.kind for one in note.inners]
    note.paper = with_inner_papers((note.form,), [one.paper for one in note.inners])
    if note.form == "name":
        note.kind = note.linked.kind
        note.paper = ("name", note.kind)
    elif note.form == "way":
        note.kind = ("way", bag_of([one.kind for one in note.linked.inners[1:]]), kinds[0])
    else:
        note.kind = kind_from(note.part, note.paper, kinds)
    # Kinds grow many times over from give to give, so what is over is refused ahead of all that is made of it.
    if is_over(note.kind, inner_kinds, MOST_KINDS, MOST_DEEP):
        raise NoRoom()
