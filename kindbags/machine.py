"""The machine: a program, slips for its open names, and a stack of marks.

What stands is kept as a slip, and so are the programs in marks. A mark is a tuple of its word and what it holds:
("slip", U), ("first",), ("second",), ("plus", U), ("had", N), ("look", U, V), ("both", U), ("beside", A).
"""

from kindbags.slips import Slip

# The mark that is put on for a program of this word, with the program's inner ones but the first.
MARK_FOR = {"give": "slip", "first": "first", "second": "second", "plus": "plus", "look": "look", "pair": "both"}
# The word of the program that such a mark is, read back.
WORD_FOR = {"slip": "give", "first": "first", "second": "second", "plus": "plus", "look": "look", "both": "pair"}
# The marks that a program of this word may meet on top of the stack.
MEETS = {"way": ("slip", "both", "beside"), "pair": ("first", "second"),
         "whole": ("plus", "had", "look", "both", "beside")}
# The marks that are met by a rule.
RULE_MARKS = ("slip", "first", "second", "had", "look")
# The pair of two answers, these being its slips.
PAIR_OF_SLIPS = ("pair", ("name", 0), ("name", 1))


class Machine:
    def __init__(self, program):
        self.here = Slip(program, ())
        # Whether what stands is a pair that came of beside.
        self.paired = False
        self.stack = []
        self.steps_done = 0
        self.rules_done = 0
        self.slips_made = 0
        self.looked_up = 0

    def step(self):
        if self.word() != "going":
            return False
        self.steps_done += 1
        if self.here.part[0] == "name":
            self.look_up()
        elif self.meets():
            self.meet()
        else:
            self.enter()
        return True

    def word(self):
        if self.meets() or self.enters() or self.here.part[0] == "name":
            return "going"
        return "stuck" if self.stack else "answer"

    def top(self):
        return self.stack[-1][0] if self.stack else None

    def meets(self):
        if self.paired:
            return self.top() in ("both", "beside")
        return self.top() in MEETS.get(self.here.part[0], ())

    def enters(self):
        word = self.here.part[0]
        if word == "pair":
            return not self.paired and self.top() in (None, "both", "beside")
        return word in MARK_FOR

    def look_up(self):
        self.here = self.here.row[self.here.part[1]]
        self.looked_up += 1

    def enter(self):
        part = self.here.part
        held = [self.within(k) for k in range(2, len(part))]
        self.stack.append((MARK_FOR[part[0]],) + tuple(held))
        self.here = self.within(1)
        if part[0] == "give":
            self.slips_made += 1

    def within(self, k):
        return Slip(self.here.part[k], self.here.row)

    def meet(self):
        mark = self.stack.pop()
        if mark[0] in RULE_MARKS:
            self.rules_done += 1
        if mark[0] == "plus":
            self.stack.append(("had", self.here.part[1]))
        elif mark[0] == "both":
            self.stack.append(("beside", self.here))
        self.here = self.behind(mark)
        self.paired = mark[0] == "beside"

    def behind(self, mark):
        # What stands behind the meeting with this mark.
        here = self.here
        if mark[0] == "slip":
            return Slip(here.part[1], (mark[1],) + here.row)
        if mark[0] == "first":
            return self.within(1)
        if mark[0] == "second":
            return self.within(2)
        if mark[0] == "had":
            return Slip(("whole", mark[1] + here.part[1]), ())
        if mark[0] == "look":
            return mark[1] if here.part[1] == 0 else mark[2]
        if mark[0] == "beside":
            return Slip(PAIR_OF_SLIPS, (mark[1], here))
        return mark[1]

    def program(self):
        now = self.here.back()
        for mark in reversed(self.stack):
            now = around(mark, now)
        return now

    def steps(self):
        return self.steps_done

    def rules(self):
        return self.rules_done

    def slips(self):
        return self.slips_made

    def look_ups(self):
        return self.looked_up


def around(mark, program):
    if mark[0] == "had":
        return ("plus", ("whole", mark[1]), program)
    if mark[0] == "beside":
        return ("pair", mark[1].back(), program)
    return (WORD_FOR[mark[0]], program) + tuple([slip.back() for slip in mark[1:]])
