"""A paper of a program played: the run, with the paper of each program to which it comes."""

from kindbags.forward import forward
from kindbags.papertexts import in_order
from kindbags.rules import behind
from kindbags.running import next_place


def played(program, paper):
    now = (program, in_order(paper))
    gone = [now]
    place = next_place(program)
    while place is not None:
        now = (behind(now[0], place), forward(now[0], place, now[1]))
        gone.append(now)
        place = next_place(now[0])
    return gone
