import unittest

from kindbags.answers import is_answer
from kindbags.machine import Machine
from kindbags.names import open_names, put_in
from kindbags.programs import parts
from kindbags.reader import read
from kindbags.rules import behind
from kindbags.running import next_place, run
from kindbags.writer import shown

from plain import drawn_programs, plain_lines, plain_paper
from samples import ANSWERING, OF_EACH_WORD, chain, give, name, pair, plus, same, second, small_programs, way, whole

CLOSED = [program for program in small_programs(2, [name(0), whole(0)]) if not open_names(program)]

STUCK_TEXTS = [
    "(first 1)",
    "(second (way x x))",
    "(give 1 (plus 1 2))",
    "(give (pair 1 2) 3)",
    "(plus (way x x) 1)",
    "(plus (pair 1 2) 1)",
    "(plus 1 (way x x))",
    "(plus (plus 1 2) (pair 1 2))",
    "(look (pair 1 2) 3 4)",
    "(look (give (way x (way y x)) 1) 2 3)",
    "(pair (plus 1 2) (pair (first 3) (plus 1 2)))",
    "(pair (give (way x (plus 1 x)) (way x x)) 1)",
    "(first (give (way x (look x 1 2)) 0))",
]

LOOP = "(give (way x (give x x)) (way x (give x x)))"


def to_the_end(program, most=20000):
    machine = Machine(program)
    for _ in range(most):
        if not machine.step():
            break
    return machine


def counts(machine):
    return (machine.steps(), machine.rules(), machine.slips(), machine.look_ups())


class PlainMachine:
    """The machine as the document lists its steps, each answer as it stands."""

    def __init__(self, program):
        self.stands = (program, ())
        self.marks = []
        self.count = [0, 0, 0, 0]

    def step(self):
        # An answer that a beside put together is a list of two answers.
        if isinstance(self.stands, list):
            return self.answer_stands()
        program, slips = self.stands
        top = self.marks[-1][0] if self.marks else None
        word = program[0]
        if word == "name":
            self.count[3] += 1
            return self.go(slips[program[1]])
        if word == "give":
            self.count[2] += 1
            return self.put("slip", (program[2], slips), (program[1], slips))
        if word == "way" and top == "slip":
            slip = self.marks.pop()[1]
            self.count[1] += 1
            return self.go((program[1], (slip,) + slips))
        if word in ("first", "second"):
            return self.put(word, None, (program[1], slips))
        if word == "pair" and top in ("first", "second"):
            self.marks.pop()
            self.count[1] += 1
            return self.go((program[1 if top == "first" else 2], slips))
        if word == "pair" and top in (None, "both", "beside"):
            return self.put("both", (program[2], slips), (program[1], slips))
        if word == "plus":
            return self.put("plus", (program[2], slips), (program[1], slips))
        if word == "look":
            return self.put("look", ((program[2], slips), (program[3], slips)), (program[1], slips))
        if word in ("whole", "way"):
            return self.answer_stands()
        return False

    def answer_stands(self):
        if not self.marks:
            return False
        top, held = self.marks[-1]
        number = None
        if isinstance(self.stands, tuple) and self.stands[0][0] == "whole":
            number = self.stands[0][1]
        if top == "plus" and number is not None:
            self.marks[-1] = ("had", number)
            return self.go(held)
        if top == "had" and number is not None:
            self.marks.pop()
            self.count[1] += 1
            return self.go((whole(held + number), ()))
        if top == "look" and number is not None:
            self.marks.pop()
            self.count[1] += 1
            return self.go(held[0 if number == 0 else 1])
        if top == "both":
            self.marks[-1] = ("beside", self.stands)
            return self.go(held)
        if top == "beside":
            self.marks.pop()
            return self.go([held, self.stands])
        return False

    def put(self, word, held, later):
        self.marks.append((word, held))
        return self.go(later)

    def go(self, later):
        self.stands = later
        self.count[0] += 1
        return True

    def ended(self):
        return not self.marks and (isinstance(self.stands, list) or self.stands[0][0] in ("whole", "way"))


class StepsTest(unittest.TestCase):
    """Each step of the document by itself: the program read back and the counts behind each step."""

    def walk(self, text, rows):
        machine = Machine(read(text))
        for program, count in rows:
            self.assertEqual(machine.word(), "going")
            self.assertIs(machine.step(), True)
            self.assertEqual(shown(machine.program()), program)
            self.assertEqual(counts(machine), count)
        return machine

    def test_give_way_name(self):
        machine = self.walk("(give (way x x) 3)", [
            ("(give (way a a) 3)", (1, 0, 1, 0)),
            ("3", (2, 1, 1, 0)),
            ("3", (3, 1, 1, 1))])
        self.assertEqual(machine.word(), "answer")

    def test_the_slip_stands_ahead_of_the_slips_here(self):
        machine = self.walk("(give (give (way x (way y x)) 1) 2)", [
            ("(give (give (way a (way b a)) 1) 2)", (1, 0, 1, 0)),
            ("(give (give (way a (way b a)) 1) 2)", (2, 0, 2, 0)),
            ("(give (way a 1) 2)", (3, 1, 2, 0)),
            ("1", (4, 2, 2, 0)),
            ("1", (5, 2, 2, 1))])
        self.assertEqual(machine.word(), "answer")

    def test_first_second_and_pair_in_use(self):
        self.walk("(first (pair 1 2))", [("(first (pair 1 2))", (1, 0, 0, 0)), ("1", (2, 1, 0, 0))])
        self.walk("(second (pair 1 2))", [("(second (pair 1 2))", (1, 0, 0, 0)), ("2", (2, 1, 0, 0))])

    def test_a_pair_in_the_place_of_an_answer(self):
        rows = [("(pair 1 2)", (k, 0, 0, 0)) for k in (1, 2, 3)]
        self.assertEqual(self.walk("(pair 1 2)", rows).word(), "answer")
        rows = [("(pair (pair 1 2) (pair 3 4))", (k, 0, 0, 0)) for k in range(1, 10)]
        self.assertEqual(self.walk("(pair (pair 1 2) (pair 3 4))", rows).word(), "answer")
        rows = [("(pair (way a a) (way a 2))", (k, 0, 0, 0)) for k in (1, 2, 3)]
        self.assertEqual(self.walk("(pair (way a a) (way a 2))", rows).word(), "answer")

    def test_plus(self):
        rows = [("(plus 1 2)", (1, 0, 0, 0)), ("(plus 1 2)", (2, 0, 0, 0)), ("3", (3, 1, 0, 0))]
        self.assertEqual(self.walk("(plus 1 2)", rows).word(), "answer")

    def test_a_plus_whose_first_inner_one_is_no_whole(self):
        self.walk("(plus (plus 1 2) (plus 3 4))", [
            ("(plus (plus 1 2) (plus 3 4))", (1, 0, 0, 0)),
            ("(plus (plus 1 2) (plus 3 4))", (2, 0, 0, 0)),
            ("(plus (plus 1 2) (plus 3 4))", (3, 0, 0, 0)),
            ("(plus 3 (plus 3 4))", (4, 1, 0, 0)),
            ("(plus 3 (plus 3 4))", (5, 1, 0, 0)),
            ("(plus 3 (plus 3 4))", (6, 1, 0, 0)),
            ("(plus 3 (plus 3 4))", (7, 1, 0, 0)),
            ("(plus 3 7)", (8, 2, 0, 0)),
            ("10", (9, 3, 0, 0))])

    def test_look(self):
        for number, told in ((0, "10"), (1, "20"), (-1, "20"), (999999999, "20")):
            text = f"(look {number} 10 20)"
            self.walk(text, [(text, (1, 0, 0, 0)), (told, (2, 1, 0, 0))])

    def test_what_a_mark_holds_keeps_its_slips(self):
        machine = self.walk("(give (way x (plus 1 x)) 2)", [
            ("(give (way a (plus 1 a)) 2)", (1, 0, 1, 0)),
            ("(plus 1 2)", (2, 1, 1, 0)),
            ("(plus 1 2)", (3, 1, 1, 0)),
            ("(plus 1 2)", (4, 1, 1, 0)),
            ("(plus 1 2)", (5, 1, 1, 1)),
            ("3", (6, 2, 1, 1))])
        self.assertEqual(machine.word(), "answer")
        self.walk("(give (way x (look 0 (pair 7 x) x)) 2)", [
            ("(give (way a (look 0 (pair 7 a) a)) 2)", (1, 0, 1, 0)),
            ("(look 0 (pair 7 2) 2)", (2, 1, 1, 0)),
            ("(look 0 (pair 7 2) 2)", (3, 1, 1, 0)),
            ("(pair 7 2)", (4, 2, 1, 0)),
            ("(pair 7 2)", (5, 2, 1, 0)),
            ("(pair 7 2)", (6, 2, 1, 0)),
            ("(pair 7 2)", (7, 2, 1, 1)),
            ("(pair 7 2)", (8, 2, 1, 1))])


class MachineTest(unittest.TestCase):
    def test_begins(self):
        for program in OF_EACH_WORD[1:]:
            machine = Machine(program)
            self.assertEqual(machine.program(), program)
            self.assertEqual(counts(machine), (0, 0, 0, 0))

    def test_ends_at_once(self):
        for program in (whole(0), whole(-7), way(name(0)), way(give(whole(1), whole(2)))):
            machine = Machine(program)
            for _ in range(3):
                self.assertEqual(machine.word(), "answer")
                self.assertIs(machine.step(), False)
                self.assertEqual(machine.program(), program)
                self.assertEqual(counts(machine), (0, 0, 0, 0))

    def test_a_pair_doesnt_end_at_once(self):
        machine = Machine(pair(whole(1), whole(2)))
        self.assertEqual(machine.word(), "going")
        self.assertIs(machine.step(), True)
        self.assertEqual(machine.word(), "going")

    def test_to_the_same_answer_as_the_run(self):
        for text in ANSWERING:
            program = read(text)
            word, answer, rules = run(program, 400)
            machine = to_the_end(program)
            self.assertEqual((machine.word(), machine.program(), machine.rules()), (word, answer, rules), text)
            self.assertEqual(word, "answer")

    def test_stuck(self):
        for text in STUCK_TEXTS:
            program = read(text)
            word, left, rules = run(program, 400)
            machine = to_the_end(program)
            self.assertEqual((machine.word(), machine.program(), machine.rules()), (word, left, rules), text)
            self.assertEqual(word, "stuck")

    def test_a_step_behind_the_end_changes_nothing(self):
        for text in ANSWERING + STUCK_TEXTS:
            machine = to_the_end(read(text))
            before = (machine.word(), machine.program(), counts(machine))
            for _ in range(3):
                self.assertIs(machine.step(), False)
                self.assertEqual((machine.word(), machine.program(), counts(machine)), before)

    def test_runs_on(self):
        machine = to_the_end(read(LOOP))
        self.assertEqual(machine.word(), "going")
        self.assertEqual(machine.steps(), 20000)
        # Round r is a give, r look-ups and a way: 198 rounds are 19,899 steps; then come a give and 100 look-ups.
        self.assertEqual(counts(machine), (20000, 198, 199, 198 * 197 // 2 + 100))
        machine = to_the_end(read("(give (way x (plus 1 (give x x))) (way x (plus 1 (give x x))))"))
        self.assertEqual(machine.word(), "going")
        self.assertEqual(machine.steps(), 20000)

    def test_what_grows_great(self):
        # The run grows great, the machine comes to an answer all the same.
        five = pair(name(0), pair(name(0), pair(name(0), pair(name(0), name(0)))))
        program = second(pair(five, whole(7)))
        for _ in range(4):
            program = give(way(program), five)
        program = give(way(program), whole(1))
        self.assertLessEqual(parts(program), 66)
        self.assertEqual(run(program, 400)[0], "great")
        machine = to_the_end(program)
        self.assertEqual((machine.word(), machine.program(), counts(machine)), ("answer", whole(7), (12, 6, 5, 0)))
        deep = read("(give (way x (pair 1 (give x x))) (way x (pair 1 (give x x))))")
        self.assertEqual(run(deep, 400)[0], "great")
        self.assertEqual(to_the_end(deep).word(), "going")

    def test_read_back_at_each_step(self):
        for text in ANSWERING + STUCK_TEXTS + [LOOP]:
            self.beside_the_run(read(text), 300)

    def test_read_back_at_each_step_of_small_ones(self):
        for program in CLOSED:
            self.beside_the_run(program, 12)

    def test_read_back_at_each_step_of_drawn_ones(self):
        for program in drawn_programs(200, 3):
            self.beside_the_run(program, 300)

    def test_counts_read_off_the_paper(self):
        for program in drawn_programs(150, 4) + [read(text) for text in ANSWERING]:
            words = [line[0] for path, line in plain_lines(plain_paper(program))]
            steps = len(words) + words.count("plus") + words.count("both") - 1
            rules = sum(word in ("give", "first", "second", "plus", "look") for word in words)
            self.assertEqual(counts(to_the_end(program)), (steps, rules, words.count("give"), words.count("name")))

    def beside_the_run(self, program, most):
        machine = Machine(program)
        now, rules = program, 0
        for _ in range(most):
            self.assertEqual(machine.program(), now)
            if not machine.step():
                break
            if machine.rules() != rules:
                self.assertEqual(machine.rules(), rules + 1)
                rules += 1
                now = behind(now, next_place(now))
        place = next_place(now)
        if machine.word() == "going":
            self.assertEqual(machine.steps(), most)
        else:
            self.assertIsNone(place)
            self.assertEqual(machine.word(), "answer" if is_answer(now) else "stuck")

    def test_beside_a_plain_machine(self):
        programs = CLOSED + [read(text) for text in ANSWERING + STUCK_TEXTS + [LOOP]]
        for program in programs:
            machine, plain = Machine(program), PlainMachine(program)
            for _ in range(60):
                went = plain.step()
                self.assertIs(machine.step(), went)
                self.assertEqual(counts(machine), tuple(plain.count))
                if not went:
                    self.assertEqual(machine.word(), "answer" if plain.ended() else "stuck")
                    break

    def test_in_turn_beside_one_another(self):
        programs = [read(text) for text in ANSWERING]
        alone = [to_the_end(program) for program in programs]
        beside = [Machine(program) for program in programs] + [Machine(program) for program in programs]
        going = True
        while going:
            going = any([machine.step() for machine in beside])
        for machine, other in zip(beside, alone + alone):
            self.assertEqual((machine.word(), machine.program(), counts(machine)),
                             (other.word(), other.program(), counts(other)))

    def test_asking_changes_nothing(self):
        for text in ANSWERING + STUCK_TEXTS:
            asked, other = Machine(read(text)), Machine(read(text))
            while other.step():
                for _ in range(2):
                    asked.word()
                    asked.program()
                    counts(asked)
                self.assertIs(asked.step(), True)
                self.assertEqual((asked.word(), asked.program(), counts(asked)),
                                 (other.word(), other.program(), counts(other)))

    def test_steps_as_they_are_counted(self):
        # Counted by hand: one for each part that is come to, pluses and pairs once more, less one.
        for text, count in (("(plus 1 (plus 2 3))", (6, 2, 0, 0)),
                            ("(give (way x (plus x x)) (plus 1 2))", (13, 4, 1, 2)),
                            ("(give (way x 1) (first 2))", (2, 1, 1, 0)),
                            ("(give (way x (pair x x)) 3)", (7, 1, 1, 2))):
            self.assertEqual(counts(to_the_end(read(text))), count, text)

    def test_kinds(self):
        machine = to_the_end(read(ANSWERING[-1]))
        self.assertIs(type(machine.word()), str)
        self.assertIs(type(machine.program()), tuple)
        for number in counts(machine):
            self.assertIs(type(number), int)

    def test_what_was_told_whatever_its_size(self):
        deep = pair(pair(name(0), whole(1)), whole(2))
        for _ in range(10):
            deep = put_in(deep, deep)
        machine = to_the_end(put_in(deep, plus(whole(1), whole(2))))
        self.assertEqual((machine.word(), machine.rules()), ("answer", 1))
        self.assertTrue(same(machine.program(), put_in(deep, whole(3))))
        ways = chain(["way"] * 40, name(40))
        for _ in range(5):
            ways = put_in(ways, ways)
        program = ways
        for k in range(1, 40 * 2 ** 5 + 1):
            program = give(program, whole(k))
        machine = to_the_end(put_in(program, pair(whole(1), whole(2))))
        self.assertEqual((machine.word(), machine.program()), ("answer", pair(whole(1), whole(2))))


if __name__ == "__main__":
    unittest.main()
