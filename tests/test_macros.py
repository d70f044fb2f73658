"""Definitions, calls, their refusals and the sizes: [5], [6], [7]."""

import unittest

from galleywork.errors import BadText, TooLong
from galleywork.macros import RESERVED, Macros, expand
from galleywork.tokens import tokenize, written
from helper import Case, Dice

BLANK = ("blank", " ", 1, 1)


def outcome(text):
    """The written form of a text whose macros are written out."""
    return written(expand(tokenize(text)))


def inside(text):
    """The tokens of the inside of a body."""
    return tokenize(text)


class DefinitionTest(Case):

    def test_reserved(self):
        self.assertEqual(RESERVED, (
            "let", "head", "item", "quote", "display", "table", "float", "newpage", "strong", "note", "label", "ref",
            "mark", "over", "root", "fence", "grid"))

    def test_removed(self):
        for text, expected in (
            ("\\let\\x0{a}", ""), ("b\\let\\x0{a}c", "bc"), ("b \\let\\x0{a} c", "b  c"), ("\\let\\x0{}\\x", ""),
            ("\\let\\x0{a}\\let\\y0{b}\\x\\y", "ab"), ("\\let\\x 0 {a}\\x", "a"), ("\\let \\x 0 {a}\\x", "a"),
            ("\\let\n\\x\n0\n{a}\\x", "a"), ("\\let\\x0 {a}\\x", "a"), ("\\let \\x0{a}\\x", "a"),
        ):
            with self.subTest(text):
                self.assertEqual(outcome(text), expected)

    def test_behind_a_group(self):
        self.assertEqual(outcome("{a}\\let\\x0{b}\\strong{{\\x}}\\let\\x0{c}\\x"), "{a}\\strong{{b}}c")

    def test_words_are_no_names(self):
        self.assertEqual(outcome("\\let\\x0{a}let x{let\\x}head"), "let x{leta}head")

    def test_the_blanks_around_a_definition_stay(self):
        self.assertEqual([token[0] for token in expand(tokenize("b \\let\\x0{a} c"))],
                         ["word", "blank", "blank", "word"])

    def test_pair(self):
        self.assertEqual(outcome("\\let\\pair 2{(#1,#2)}\\pair{a}{\\pair{b}{c}}"), "(a,(b,c))")

    def test_in_force_until_defined_again(self):
        self.assertEqual(outcome("\\let\\x0{a}\\x\\let\\x0{b}\\x\\let\\x1{<#1>}\\x{\\strong{c}}"), "ab<\\strong{c}>")

    def test_in_its_own_body_the_name_means_the_earlier_definition(self):
        self.assertEqual(outcome("\\let\\x0{a}\\let\\x0{\\x\\x}\\let\\x0{\\x\\x}\\x"), "aaaa")
        self.assertEqual(outcome("\\let\\x1{(#1)}\\let\\x0{\\x{b}}\\x"), "(b)")
        self.refused(BadText(1, 9, "undefined"), expand, tokenize("\\let\\x0{\\x}"))

    def test_stored_bodies_stay(self):
        self.assertEqual(outcome("\\let\\x0{a}\\let\\y0{\\x}\\let\\x0{b}\\y\\x"), "ab")
        text = "\\let\\x0{a}\\let\\y1{\\x#1}\\let\\x0{b}\\y{\\x}\\x c"
        self.assertEqual(outcome(text), "abb c")
        macros = Macros()
        macros.write_out(tokenize(text))
        self.assertEqual(written(macros.body(1)), "a#1")

    def test_arity_0(self):
        self.assertEqual(outcome("\\let\\x0{a}\\x{b}"), "a{b}")
        self.assertEqual(outcome("\\let\\x0{a}\\x b"), "a b")

    def test_arity_9(self):
        text = "\\let\\x9{#9#8#7#6#5#4#3#2#1}"
        self.assertEqual(outcome(text + "\\x{1}{2}{3}{4}{5}{6}{7}{8}{9}"), "987654321")
        self.assertEqual(outcome(text + "\\x{1}{2}{3}{4}{5}{6}{7}{8}{9}{0}"), "987654321{0}")
        self.refused(BadText(1, 28, "groups"), expand, tokenize(text + "\\x{1}{2}{3}{4}{5}{6}{7}{8}"))

    def test_every_arity(self):
        for arity in range(10):
            body = "".join(f"#{k}" for k in range(1, arity + 1))
            groups = "".join("{" + "abcdefghi"[k] + "}" for k in range(arity))
            with self.subTest(arity):
                self.assertEqual(outcome(f"\\let\\x{arity}{{{body}}}\\x{groups}"), "abcdefghi"[:arity])

    def test_a_param_twice_and_never(self):
        self.assertEqual(outcome("\\let\\x2{#2#2}\\x{a}{b}"), "bb")


class TableTest(Case):

    def test_empty(self):
        self.assertIsNone(Macros().defined("x"))

    def test_define(self):
        macros = Macros()
        self.assertEqual(macros.define("x", 0, inside("a")), 0)
        self.assertEqual(macros.define("y", 2, inside("\\x#2{#1}")), 1)
        self.assertEqual(macros.define("x", 0, inside("b")), 2)
        self.assertEqual((macros.defined("x"), macros.defined("y"), macros.defined("z")), (2, 1, None))
        self.assertEqual([macros.arity(k) for k in range(3)], [0, 2, 0])
        self.assertEqual([written(macros.body(k)) for k in range(3)], ["a", "a#2{#1}", "b"])
        self.assertEqual(written(macros.write_out(inside("\\y{1}{2}\\x"))), "a2{1}b")

    def test_the_definitions_of_a_text_stay(self):
        macros = Macros()
        self.assertEqual(macros.write_out(tokenize("\\let\\x1{a#1}\\let\\x1{b#1}")), [])
        self.assertEqual((macros.defined("x"), macros.arity(0), macros.arity(1)), (1, 1, 1))
        self.assertEqual(written(macros.write_out(tokenize("\\x{c}\\let\\x0{d}\\x"))), "bcd")
        self.assertEqual(macros.defined("x"), 2)

    def test_tables_are_apart(self):
        one = Macros()
        one.define("x", 0, inside("a"))
        self.assertIsNone(Macros().defined("x"))
        self.refused(BadText(1, 1, "undefined"), expand, tokenize("\\x"))

    def test_lists_are_new(self):
        macros = Macros()
        told = inside("a#1")
        macros.define("x", 1, told)
        told.clear()
        self.assertEqual(written(self.answer(macros.body, 0)), "a#1")
        self.assertEqual(written(self.answer(macros.write_out, tokenize("\\x{b}"))), "ab")
        self.assertEqual(written(self.answer(macros.write_out, tokenize("b"))), "b")
        self.assertEqual(written(self.answer(expand, tokenize("\\let\\x0{a}\\x b"))), "a b")
        macros.define("z", 0, inside("a"))
        macros.write_out(tokenize("\\z")).append("spoilt")
        self.assertEqual(written(macros.body(1)), "a")

    def test_what_define_refuses(self):
        tokens = inside("\\let")
        self.refused(BadText(1, 1, "place"), Macros().define, "x", 0, tokens)
        self.refused(BadText(1, 2, "undefined"), Macros().define, "x", 0, inside("a\\x"))
        self.refused(BadText(1, 1, "parameter"), Macros().define, "x", 0, inside("#1"))
        self.refused(BadText(1, 3, "parameter"), Macros().define, "x", 8, inside("#8#9"))
        self.refused(TooLong("body"), Macros().define, "x", 0, inside("a" * 6001))
        self.assertEqual(Macros().define("x", 0, inside("a" * 6000)), 0)
        macros = Macros()
        macros.define("x", 1, inside("#1#1"))
        self.refused(TooLong("call"), macros.define, "y", 0, inside("\\x{" + "a" * 3001 + "}"))
        macros = Macros()
        macros.define("x", 1, inside("#1#1"))
        self.refused(BadText(1, 2, "groups"), macros.define, "y", 0, inside("a\\x"))


class CallTest(Case):

    def test_calls_in_groups_of_calls(self):
        self.assertEqual(outcome("\\let\\x1{(#1)}\\x{\\x{\\x{a}}}"), "(((a)))")
        self.assertEqual(outcome("\\let\\x2{#2#1}\\x{a\\x{b}{c}}{\\x{d}{e}}"), "edacb")

    def test_calls_in_plain_groups(self):
        self.assertEqual(outcome("\\let\\x1{(#1)}{\\x{a}{b\\x{}}}"), "{(a){b()}}")
        self.assertEqual(outcome("\\let\\x1{(#1)}\\strong{\\x{a}}"), "\\strong{(a)}")

    def test_params_in_groups_of_calls(self):
        self.assertEqual(outcome("\\let\\x1{(#1)}\\let\\y2{\\x{#2\\x{#1}}}\\y{a}{b}"), "(b(a))")
        macros = Macros()
        macros.define("x", 1, inside("(#1)"))
        macros.define("y", 2, inside("\\x{#2{#1}}"))
        self.assertEqual(written(macros.body(1)), "(#2{#1})")

    def test_the_groups_are_written_out_with_what_is_in_force_at_the_call(self):
        self.assertEqual(outcome("\\let\\x0{a}\\let\\y1{#1}\\let\\x0{b}\\y{\\x}"), "b")

    def test_the_outcome_is_not_looked_at_again(self):
        # The group that follows in the outcome is none of the macro that the body calls.
        self.refused(BadText(1, 27, "groups"), expand, tokenize("\\let\\x1{(#1)}\\let\\y1{\\over\\x#1}\\y{{a}}"))
        self.assertEqual(outcome("\\let\\x0{\\strong}\\x{a}"), "\\strong{a}")
        self.assertEqual(outcome("\\let\\x1{\\label#1}\\x{{a}}"), "\\label{a}")

    def test_everything_else_is_kept(self):
        text = "a~\\-\\\\$x^1_2$&{b {c}}\n\n\\head{d}"
        self.assertEqual(expand(tokenize(text)), tokenize(text))
        self.assertEqual(outcome("\\let\\x0{a}\\x \\x\n\n\\x"), "a a\n\na")

    def test_a_blank_parts_a_call_and_a_group(self):
        self.refused(BadText(1, 14, "groups"), expand, tokenize("\\let\\x1{(#1)}\\x {a}"))
        self.refused(BadText(2, 1, "groups"), expand, tokenize("\\let\\x2{#1}\n\\x{a} {b}"))

    def test_lines_and_columns_stay(self):
        self.assertEqual(expand(tokenize("\\let\\x1{a#1\nb}\n\\x{c\nd}e")), [
            ("blank", " ", 2, 3), ("word", "a", 1, 9), ("word", "c", 3, 4), ("blank", " ", 3, 5), ("word", "d", 4, 1),
            ("blank", " ", 1, 12), ("word", "b", 2, 1), ("word", "e", 4, 3),
        ])

    def test_words_meet(self):
        self.assertEqual(expand(tokenize("\\let\\x0{a}\\x\\x")), [("word", "a", 1, 9), ("word", "a", 1, 9)])

    def test_by_another_way(self):
        # Macros whose bodies are strings, written out by the replacing of strings.
        dice = Dice(2)
        for _ in range(200):
            bodies = {}
            text = expected = ""
            for _ in range(1 + dice.below(8)):
                if dice.below(2) or not bodies:
                    name = "\\" + dice.pick("xyz")
                    body = "".join(dice.pick(["1", "#1", "{#1}", "-", *bodies.values()]) for _ in range(dice.below(4)))
                    text += f"\\let{name}1{{{body}}}"
                    bodies[name] = body
                else:
                    name = dice.pick(sorted(bodies))
                    other = dice.pick(sorted(bodies))
                    text += name + "{7" + other + "{8}}"
                    inner = "7" + bodies[other].replace("#1", "8")
                    expected += bodies[name].replace("#1", inner)
            with self.subTest(text):
                self.assertEqual(outcome(text), expected)


class RefusalTest(Case):

    def test_each(self):
        for text, line, column, what in (
            ("{\\let\\x0{a}}", 1, 2, "place"), ("\\let\\x0{\\let\\y0{a}}", 1, 9, "place"),
            ("\\let\\x1{#1}\\x{\\let\\y0{a}}", 1, 15, "place"), ("\\strong{\n\\let}", 2, 1, "place"),
            ("\\let\\x0{{\\let\\y0{a}}}", 1, 10, "place"), ("{a}{\\let\\x0{b}}", 1, 5, "place"),
            ("\\let\\x0{{}\\let\\y0{a}}", 1, 11, "place"),
            ("\\let", 1, 1, "name"), ("a\\let ", 1, 2, "name"), ("\\let x0{a}", 1, 1, "name"),
            ("\\let{\\x}0{a}", 1, 1, "name"), ("\\let\n\n\\x0{a}", 1, 1, "name"), ("\\let0{a}", 1, 1, "name"),
            ("\\let\\-0{a}", 1, 1, "name"),
            ("\\let\\let0{a}", 1, 5, "reserved"), ("\\let \\head0{a}", 1, 6, "reserved"),
            ("\\let\\x", 1, 1, "digit"), ("\\let\\x{a}", 1, 1, "digit"), ("\\let\\x10{a}", 1, 1, "digit"), ("\\let\\x12{a}", 1, 1, "digit"),
            ("\\let\\x a{b}", 1, 1, "digit"), ("\\let\\x ", 1, 1, "digit"), ("\\let\\x\n\n0{a}", 1, 1, "digit"),
            ("\\let\\x#1{a}", 1, 1, "digit"), ("\\let\\x00{a}", 1, 1, "digit"), ("\\let\\x-{a}", 1, 1, "digit"),
            ("\\let\\x\\let0{a}", 1, 1, "digit"),
            ("\\let\\x0", 1, 1, "body"), ("\\let\\x0a{}", 1, 1, "digit"), ("\\let\\x0 a", 1, 1, "body"),
            ("\\let\\x0\n\n{a}", 1, 1, "body"), ("\\let\\x0 ", 1, 1, "body"), ("\\let\\x0\\y{a}", 1, 1, "body"),
            ("\\x", 1, 1, "undefined"), ("a\n\\headx{b}", 2, 1, "undefined"), ("{\\x}", 1, 2, "undefined"),
            ("\\let\\x1{#1}\\x{\\y}", 1, 15, "undefined"), ("\\x\\let\\x0{a}", 1, 1, "undefined"),
            ("\\let\\x1{#1}\\x", 1, 12, "groups"), ("\\let\\x1{#1}\\x a", 1, 12, "groups"),
            ("\\let\\x2{#1}\\x{a}b", 1, 12, "groups"), ("\\let\\x1{#1}{\\x}{a}", 1, 13, "groups"),
            ("\\let\\x1{#1}\\x\n\n{a}", 1, 12, "groups"),
            ("#1", 1, 1, "parameter"), ("a{#1}", 1, 3, "parameter"), ("\\let\\x0{#1}", 1, 9, "parameter"),
            ("\\let\\x1{#1{#2}}", 1, 12, "parameter"), ("\\let\\x8{#9}", 1, 9, "parameter"),
            ("\\let\\x1{#1}\\x{#1}", 1, 15, "parameter"), ("\\let\\x1{#1}\\let\\y1{\\x{#2}}", 1, 23, "parameter"),
            ("\\let\\x1{#1}\\let\\y0{\\x{#1}}", 1, 23, "parameter"),
        ):
            with self.subTest(text):
                self.refused(BadText(line, column, what), expand, tokenize(text))

    def test_reserved_names(self):
        for name in RESERVED:
            with self.subTest(name):
                self.refused(BadText(1, 5, "reserved"), expand, tokenize("\\let\\" + name + "0{a}"))
                if name != "let":
                    self.assertEqual(outcome("\\" + name), "\\" + name)

    def test_two_blanks_are_too_many(self):
        let, name, digit = ("name", "let", 1, 1), ("name", "x", 1, 2), ("word", "0", 1, 3)
        group = [("open", "{", 1, 4), ("shut", "}", 1, 5)]
        self.assertEqual(expand([let, BLANK, name, BLANK, digit, BLANK, *group]), [])
        for tokens, what in (
            ([let, BLANK, BLANK, name, digit, *group], "name"), ([let, name, BLANK, BLANK, digit, *group], "digit"),
            ([let, name, digit, BLANK, BLANK, *group], "body"),
        ):
            with self.subTest(what):
                self.refused(BadText(1, 1, what), expand, tokens)

    def test_rows_of_the_table_in_order(self):
        for text, column, what in (
            ("{\\let}", 2, "place"), ("{\\let\\let}", 2, "place"), ("\\let\\let", 5, "reserved"),
            ("\\let\\x a", 1, "digit"), ("\\let\\x0{\\let}", 9, "place"), ("\\let\\x0", 1, "body"),
        ):
            with self.subTest(text):
                self.refused(BadText(1, column, what), expand, tokenize(text))

    def test_the_body_comes_after_the_first_five_rows(self):
        self.refused(BadText(1, 1, "digit"), expand, tokenize("\\let\\x{\\y}"))
        self.refused(BadText(1, 5, "reserved"), expand, tokenize("\\let\\ref0{\\y}"))

    def test_groups_are_counted_before_they_are_written_out(self):
        self.refused(BadText(1, 12, "groups"), expand, tokenize("\\let\\x2{#1}\\x{\\y}"))
        self.refused(BadText(1, 15, "undefined"), expand, tokenize("\\let\\x2{#1}\\x{\\y}{#1}"))

    def test_the_first_refusal_from_the_left(self):
        for text, column, what in (
            ("\\y#1", 1, "undefined"), ("#1\\y", 1, "parameter"), ("{\\let}\\y", 2, "place"), ("\\y{\\let}", 1, "undefined"),
            ("\\let\\x0{\\y}#1", 9, "undefined"), ("\\let\\x0{\\y#1}", 9, "undefined"),
            ("\\let\\x0{#1\\y}", 9, "parameter"),
        ):
            with self.subTest(text):
                self.refused(BadText(1, column, what), expand, tokenize(text))
        long = "a" * 6001
        self.refused(TooLong("written"), expand, tokenize(long + "\\x"))
        self.refused(BadText(1, 1, "undefined"), expand, tokenize("\\x" + long))


class SizeTest(Case):

    def fits(self, ahead, what, ends=("", "")):
        """A run of periods that fills a row fits, and one period more raises TooLong."""
        text, room = ahead
        self.assertIsInstance(expand(tokenize(text + ends[0] + "." * room + ends[1])), list)
        self.refused(TooLong(what), expand, tokenize(text + ends[0] + "." * (room + 1) + ends[1]))

    def test_written(self):
        self.fits(("", 6000), "written")
        self.fits(("\\strong", 5993), "written")
        self.fits(("\\let\\x0{abc}", 6000), "written")
        self.fits(("\\let\\x0{abc}\\x", 5997), "written")
        self.fits((" \n\n\\\\\\-~", 5993), "written")
        self.assertEqual(len(expand(tokenize("~" * 6000))), 6000)
        self.refused(TooLong("written"), expand, tokenize("~" * 6001))

    def test_a_plain_group_belongs_to_its_row(self):
        self.fits(("", 5998), "written", ("{", "}"))
        self.fits(("", 5994), "written", ("{{}{", "}}"))
        self.fits(("", 5990), "body", ("\\let\\x0{\\strong{", "}b}"))

    def test_body(self):
        self.fits(("", 6000), "body", ("\\let\\x0{", "}"))
        self.fits(("", 5998), "body", ("\\let\\x1{#1", "}"))
        self.fits(("", 5993), "body", ("\\let\\x0{\\strong", "}"))
        self.assertEqual(expand(tokenize("\\let\\x1{" + "#1" * 3000 + "}")), [])
        self.refused(TooLong("body"), expand, tokenize("\\let\\x1{" + "#1" * 3000 + ".}"))

    def test_call(self):
        ahead = "\\let\\x1{}"
        self.fits(("", 6000), "call", (ahead + "\\x{", "}"))
        self.fits(("", 5998), "call", (ahead + "\\x{{", "}}"))
        self.fits(("", 6000), "call", (ahead + "\\let\\y0{\\x{", "}}"))
        two = "\\let\\x2{}\\x"
        self.fits(("", 6000), "call", (two + "{", "}{}"))
        self.fits(("", 6000), "call", (two + "{}{", "}"))

    def test_outcome(self):
        self.fits(("", 3000), "call", ("\\let\\x1{#1#1}\\x{", "}"))
        self.fits(("", 2999), "call", ("\\let\\x1{#1.#1.}\\x{", "}"))
        self.fits(("", 2999), "call", ("\\let\\x1{#1{#1}}\\x{", "}"))
        self.fits(("", 3000), "call", ("\\let\\x2{#2" + "." * 3000 + "}\\x{" + "b" * 6000 + "}{", "}"))

    def test_an_outcome_of_just_6001(self):
        self.refused(TooLong("call"), expand, tokenize("\\let\\x1{#1#1.}\\x{" + "a" * 3000 + "}"))
        # The sizes of the groups count as they are, not as they stand in the body.
        self.assertEqual(len(outcome("\\let\\x1{" + "#1" * 3000 + "}\\x{ab}")), 6000)

    def test_an_outcome_of_millions_of_tokens(self):
        text = "\\let\\x1{" + "#1" * 3000 + "}\\x{" + "~" * 6000 + "}"
        self.refused(TooLong("call"), expand, tokenize(text))

    def test_an_outcome_as_a_part_of_a_row(self):
        double = "\\let\\d1{#1#1}"
        half = "\\d{" + "a" * 2000 + "}"
        self.fits(("", 2000), "written", (double + half, ""))
        self.fits(("", 1000), "written", (double + half + "\\d{", "}"))
        self.fits(("", 2000), "body", (double + "\\let\\x0{" + half, "}"))
        self.fits(("", 1000), "body", (double + "\\let\\x0{" + half + "\\d{", "}}"))
        self.fits(("", 2000), "call", (double + "\\let\\i1{}\\i{" + half, "}"))
        self.fits(("", 1000), "call", (double + "\\let\\i1{}\\i{" + half + "\\d{", "}}"))
        self.fits(("", 1998), "written", (double + "{" + half, "}"))
        self.fits(("", 999), "written", (double + "{" + half + "\\d{", "}}"))
        self.fits(("", 1998), "body", (double + "\\let\\x0{{" + half, "}}"))

    def test_the_call_is_refused_before_its_outcome_is_added(self):
        double = "\\let\\d1{#1#1}"
        self.refused(TooLong("call"), expand, tokenize("a" * 6000 + double + "\\d{" + "a" * 3001 + "}"))
        self.refused(TooLong("written"), expand, tokenize("a" * 6000 + double + "\\d{a}"))
        self.assertEqual(len(outcome("a" * 6000 + double + "\\d{}")), 6000)

    def test_a_definition_adds_nothing(self):
        self.assertEqual(outcome("\\let\\x0{" + "a" * 6000 + "}\\let\\y0{" + "a" * 6000 + "}\\x"), "a" * 6000)

    def test_deep_outcomes(self):
        text = "\\let\\a0{}" + "\\let\\a0{{{{{{{{{{{{\\a}}}}}}}}}}}}" * 200
        self.assertEqual(outcome(text + "\\a"), "{" * 2200 + "}" * 2200)


if __name__ == "__main__":
    unittest.main()
