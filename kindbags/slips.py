"""Slips: a program, and what its open names are."""

from kindbags.names import names_in, with_names


class Slip:
    # A slip stays as it was made, so what it is read back is found once and kept in told.

    def __init__(self, program, slips):
        self.part = program
        self.row = tuple(slips)
        self.told = None

    def back(self):
        # A row of slips, each of the one ahead, may be longer than calls may go within one another.
        pending = [self]
        while pending:
            slip = pending[-1]
            missing = slip.unread()
            if len(missing) == 0:
                slip.read()
                pending.pop()
            else:
                pending.extend(missing)
        return self.told

    def unread(self):
        # The slips that must be read back ahead of this one: only of names that are there.
        if self.told is not None:
            return []
        used = [self.row[number - ways] for number, ways in names_in(self.part) if number >= ways]
        return [slip for slip in used if slip.told is None]

    def read(self):
        row = self.row

        def filled(number, ways):
            # What is read back is closed, so it needs no lifting.
            return row[number - ways].told if number >= ways else ("name", number)

        if self.told is None:
            self.told = with_names(self.part, filled)
