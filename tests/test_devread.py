"""The drawing machine and the ink of a device file: [49] and [50]."""

import unittest

from galleywork.devread import Machine, draw_device
from galleywork.errors import BadDevice, GalleyError
from helper import Case, book_of, fields_of, told_font

BOOK = book_of(told_font("f", {"a": 3, "fi": 5}), told_font("bold", {"a": 7, "b": 8}))


def machine_with(*lines):
    machine = Machine(BOOK)
    for line in lines:
        machine(line)
    return machine


class MachineCase(Case):

    def bad(self, machine, line, number):
        """The line raises BadDevice with this number, twice, and changes nothing."""
        before = machine.ink()
        for _ in range(2):
            with self.assertRaises(GalleyError) as caught:
                machine(line)
            self.assertEqual(fields_of(caught.exception), ("BadDevice", number))
        self.assertEqual(machine.ink(), before)

    def bad_behind(self, lines, line):
        """The line does not fit behind these lines, which makes no difference to what follows."""
        machine, other = machine_with(*lines), machine_with(*lines)
        self.bad(machine, line, len(lines) + 1)
        for follow in ("push", "bar 1 1 1", "font f", "put a", "pop", "bar 2 2 2", "put a", "pop"):
            answers = []
            for one in (machine, other):
                try:
                    answers.append(one(follow))
                except BadDevice as error:
                    answers.append(error.line)
            self.assertEqual(answers[0], answers[1])
            self.assertEqual(machine.ink(), other.ink())

    def test_example(self):
        machine = Machine(BOOK)
        self.assertIs(machine("page 1"), True)
        self.bad(machine, "put a", 2)
        for line in ("font f", "right 5", "put a", "put a"):
            self.assertIs(machine(line), True)
        self.assertEqual(machine.ink(), [("sign", 1, 5, 0, "f", "a"), ("sign", 1, 8, 0, "f", "a")])
        self.bad(machine, "nonsense", 6)

    def test_the_depth(self):
        self.assertEqual(Machine.DEPTH, 60)
        self.assertEqual(Machine(BOOK).DEPTH, 60)


class LineTest(MachineCase):

    def ink(self, *lines):
        return self.answer(machine_with("page 1", *lines).ink)

    def test_pens(self):
        for lines, x, y in (
            ((), 0, 0), (("right 5",), 5, 0), (("right -5",), -5, 0), (("down 7",), 0, 7), (("down -7",), 0, -7), (("right 0", "down 0"), 0, 0),
            (("at 3 4",), 3, 4), (("right 9", "at -3 0"), -3, 0), (("at 1 2", "right 3", "down 4", "right 5"), 9, 6),
            (("right 999999999",) * 20, 20 * 999999999, 0), (("down -999999999",) * 20, 0, -20 * 999999999),
        ):
            self.assertEqual(self.ink(*lines, "bar 1 2 3"), [("bar", 1, x, y, 1, 2, 3)])

    def test_pages(self):
        self.assertEqual(self.ink("at 3 4", "font f", "put a", "page 2", "bar 1 1 1", "page 3", "bar 1 1 1"),
                         [("sign", 1, 3, 4, "f", "a"), ("bar", 2, 0, 0, 1, 1, 1), ("bar", 3, 0, 0, 1, 1, 1)])
        # No font is in force on a new page.
        self.bad_behind(["page 1", "font f", "page 2"], "put a")

    def test_stack(self):
        self.assertEqual(self.ink("at 3 4", "push", "right 5", "bar 0 0 0", "push", "at 9 9", "pop", "bar 0 0 0", "pop", "bar 0 0 0"),
                         [("bar", 1, 8, 4, 0, 0, 0), ("bar", 1, 8, 4, 0, 0, 0), ("bar", 1, 3, 4, 0, 0, 0)])
        self.assertEqual(self.ink("font f", "push", "font bold", "put a", "pop", "put a"), [("sign", 1, 0, 0, "bold", "a"), ("sign", 1, 0, 0, "f", "a")])
        # No font was in force at the push.
        self.bad_behind(["page 1", "push", "font f", "pop"], "put a")
        self.assertEqual(self.ink("push", "font f", "put a", "pop", "font f", "put a"), [("sign", 1, 0, 0, "f", "a")] * 2)

    def test_put(self):
        self.assertEqual(self.ink("font f", "put a", "put fi", "put -", "font bold", "put b", "put a"), [
            ("sign", 1, 0, 0, "f", "a"), ("sign", 1, 3, 0, "f", "fi"), ("sign", 1, 8, 0, "f", "-"), ("sign", 1, 10, 0, "bold", "b"), ("sign", 1, 18, 0, "bold", "a")])

    def test_bars_and_brackets(self):
        self.assertEqual(self.ink("bar 0 0 0", "bar 1 22 999999999", "grow ( 1 2 3", "grow ) 0 0 0", "grow [ 1 2 3", "grow ] 1 2 3", "grow root 4 5 6"), [
            ("bar", 1, 0, 0, 0, 0, 0), ("bar", 1, 0, 0, 1, 22, 999999999), ("grow", 1, 0, 0, "(", 1, 2, 3), ("grow", 1, 0, 0, ")", 0, 0, 0),
            ("grow", 1, 0, 0, "[", 1, 2, 3), ("grow", 1, 0, 0, "]", 1, 2, 3), ("grow", 1, 0, 0, "root", 4, 5, 6)])

    def test_ink_is_new(self):
        machine = machine_with("page 1", "bar 1 1 1")
        machine.ink().clear()
        self.assertEqual(self.answer(machine.ink), [("bar", 1, 0, 0, 1, 1, 1)])
        self.assertEqual(Machine(BOOK).ink(), [])


class RefusalTest(MachineCase):

    def test_commands_and_numbers_of_words(self):
        good = ("page 2", "font f", "at 1 2", "right 1", "down 1", "push", "pop", "put a", "bar 1 2 3", "grow ( 1 2 3")
        ahead = ["page 1", "font f", "right 2"]
        for line in good:
            lines = ahead + (["push"] if line == "pop" else [])
            self.assertIs(machine_with(*lines)(line), True)
            self.bad_behind(lines, line + " 1")
            self.bad_behind(lines, line + " a")
            self.bad_behind(lines, line + " ")
            self.bad_behind(lines, " " + line)
            self.bad_behind(lines, line.replace(" ", "  ", 1) if " " in line else line + "  ")
            self.bad_behind(lines, line.replace(" ", "\t", 1) if " " in line else line + "\t")
            self.bad_behind(lines, line + "\n")
            self.bad_behind(lines, line.upper())
            if " " in line:
                self.bad_behind(lines, line.rsplit(" ", 1)[0])
                self.bad_behind(lines, line.split(" ")[0])
                self.bad_behind(lines, line.rsplit(" ", 1)[0] + " ")
        for line in ("", " ", "  ", "\t", "\n", "line", "pages 1", "page1", "PUSH", "a", "1", "put", "put  a", "font  f", "\\push", "None", "push pop"):
            self.bad_behind(ahead, line)
            self.bad_behind([], line)

    def test_numbers(self):
        for word in ("-0", "+1", "01", "00", "-01", "--1", "-", "+", "1.0", "1e3", "1_0", "a", "", " ", "1 ", "0x1", "1000000000", "-1000000000", "0000000001",
                     "\u0661", "\u00b2", "1\t", "\t1", "1\n", "None", "1-", "9999999999"):
            for line in ("right {}", "down {}", "at {} 1", "at 1 {}", "bar {} 1 1", "bar 1 {} 1", "bar 1 1 {}", "grow ( {} 1 1", "grow ( 1 {} 1", "grow ( 1 1 {}", "page {}"):
                if word.strip(" ") == word:
                    self.bad_behind(["page 1", "font f"], line.format(word))
        for word in ("0", "1", "10", "-1", "-10", "999999999", "-999999999", "123456789"):
            for line in ("right {}", "down {}", "at {} 1", "at 1 {}"):
                self.assertIs(machine_with("page 1")(line.format(word)), True)
            for line in ("bar {} 1 1", "bar 1 {} 1", "bar 1 1 {}", "grow ( {} 1 1", "grow ( 1 {} 1", "grow ( 1 1 {}"):
                if word.startswith("-"):
                    self.bad_behind(["page 1"], line.format(word))
                else:
                    self.assertIs(machine_with("page 1")(line.format(word)), True)

    def test_ahead_of_the_first_page(self):
        for line in ("font f", "at 1 2", "right 1", "down 1", "push", "pop", "put a", "bar 1 2 3", "grow ( 1 2 3"):
            self.bad_behind([], line)

    def test_page_numbers(self):
        for line in ("page 0", "page 2", "page -1", "page 01", "page 10", "page 999999999", "page a", "page"):
            self.bad_behind([], line)
        self.assertIs(machine_with()("page 1"), True)
        for line in ("page 1", "page 3", "page 0", "page -2"):
            self.bad_behind(["page 1"], line)
        for line in ("page 1", "page 2", "page 4"):
            self.bad_behind(["page 1", "page 2"], line)
        self.assertIs(machine_with("page 1", "page 2")("page 3"), True)

    def test_a_page_while_the_stack_is_not_empty(self):
        self.bad_behind(["page 1", "push"], "page 2")
        self.bad_behind(["page 1", "push", "push", "pop"], "page 2")
        self.assertIs(machine_with("page 1", "push", "push", "pop", "pop")("page 2"), True)

    def test_fonts(self):
        for name in ("g", "F", "", "ff", "bold ", "f\t"):
            self.bad_behind(["page 1"], "font " + name)
        self.assertIs(machine_with("page 1")("font bold"), True)

    def test_brackets(self):
        for name in ("{", "<", "", "((", "Root", "ro", "|", "-"):
            self.bad_behind(["page 1"], "grow " + name + " 1 2 3")

    def test_put(self):
        self.bad_behind(["page 1"], "put a")
        for char in ("b", "f", "i", "A", "", "aa", "ffi", "\ta"):
            self.bad_behind(["page 1", "font f"], "put " + char)
        self.bad_behind(["page 1", "font bold"], "put fi")
        self.bad_behind(["page 1", "font f", "page 2"], "put a")

    def test_pop(self):
        self.bad_behind(["page 1"], "pop")
        self.bad_behind(["page 1", "push", "pop"], "pop")
        self.bad_behind(["page 1", "push", "pop", "page 2"], "pop")

    def test_push(self):
        lines = ["page 1"] + ["push"] * 59
        self.assertIs(machine_with(*lines)("push"), True)
        self.bad_behind(lines + ["push"], "push")
        self.assertIs(machine_with(*lines, "push", "pop")("push"), True)

    def test_refused_lines_do_not_count(self):
        machine = Machine(BOOK)
        self.bad(machine, "bar 1 1 1", 1)
        self.bad(machine, "", 1)
        machine("page 1")
        for line in ("x", "page 3", "put a", "pop"):
            self.bad(machine, line, 2)
        machine("font f")
        machine("put a")
        self.bad(machine, "put z", 4)
        machine("put a")
        self.assertEqual(machine.ink(), [("sign", 1, 0, 0, "f", "a"), ("sign", 1, 3, 0, "f", "a")])
        self.bad(machine, "page 3", 5)
        machine("page 2")
        self.bad(machine, "page 2", 6)

    def test_machines_do_not_share_anything(self):
        one, two = machine_with("page 1", "font f", "push", "put a"), machine_with("page 1")
        self.bad(two, "put a", 2)
        self.bad(two, "pop", 2)
        self.assertEqual((len(one.ink()), two.ink()), (1, []))


class DrawTest(MachineCase):

    def draw(self, *lines):
        return self.answer(draw_device, BOOK, "\n".join(lines))

    def bad_text(self, line, *lines):
        self.refused(BadDevice(line), draw_device, BOOK, "\n".join(lines))

    def test_ink(self):
        self.assertEqual(self.answer(draw_device, BOOK, ""), [])
        self.assertEqual(self.draw("page 1"), [])
        self.assertEqual(self.draw("page 1", "page 2", "font f", "at 3 4", "put a", "bar 1 2 3"), [("sign", 2, 3, 4, "f", "a"), ("bar", 2, 6, 4, 1, 2, 3)])

    def test_the_first_line_that_does_not_fit(self):
        self.bad_text(1, "page 2")
        self.bad_text(1, "page 2", "bad")
        self.bad_text(2, "page 1", "put a")
        self.bad_text(3, "page 1", "font f", "put z", "put y", "page 2")
        self.bad_text(4, "page 1", "font f", "put a", "", "put a")

    def test_line_feeds(self):
        self.bad_text(2, "page 1", "")
        self.bad_text(1, "", "page 1")
        self.bad_text(1, "", "")
        self.bad_text(3, "page 1", "font f", "")
        # The second line is "\r" alone, a word that does not fit; other breaks do not end a line.
        self.refused(BadDevice(2), draw_device, BOOK, "page 1\n\r\npush")
        self.refused(BadDevice(1), draw_device, BOOK, "page 1\rpush\npop")
        self.refused(BadDevice(1), draw_device, BOOK, "page 1\x0cpage 2")
        self.refused(BadDevice(1), draw_device, BOOK, " ")

    def test_a_stack_that_is_not_empty(self):
        self.bad_text(2, "page 1", "push")
        self.bad_text(5, "page 1", "push", "push", "pop", "bar 1 1 1")
        self.bad_text(3, "page 1", "push", "page 2")
        self.assertEqual(self.draw("page 1", "push", "pop"), [])

    def test_too_many_pairs(self):
        self.bad_text(62, "page 1", *["push"] * 61, *["pop"] * 61)
        self.assertEqual(self.draw("page 1", *["push"] * 60, *["pop"] * 60), [])


if __name__ == "__main__":
    unittest.main()
