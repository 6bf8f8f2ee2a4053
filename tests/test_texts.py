"""Points 160 to 162: texts."""

import sys
import time
import unittest

from echelon.digits import digits_of, number_of
from echelon.domains import is_element
from echelon.errors import DomainError, EchelonError, TextError
from echelon.matrices import is_matrix, zero_matrix
from echelon.texts import (
    read_claim, read_domain, read_element, read_matrix, read_vector, write_claim, write_domain,
    write_element, write_matrix, write_vector,
)
from tests.sample import DOMAINS, EUCLIDEAN, FIELDS, NO_DOMAINS, POLYNOMIALS, Sample

Z = ("Z",)
Q = ("Q",)
F2 = ("F", 2)
F7 = ("F", 7)
PQ = ("P", Q)
P7 = ("P", F7)
NINES = "9" * 100000

# All signs that texts have, and some that they do not have.
SIGNS = [chr(k) for k in range(32, 127)] + ["\n", "\t", "\r", "\0", "\x7f", "\xa0", "\xb2", "\u0663", "\uff11",
                                            "\u2212"]

SAMPLES = (
    (Z, 0, "0"), (Z, 7, "7"), (Z, -12, "-12"), (Z, 10 ** 30, "1" + "0" * 30),
    (Q, (0, 1), "0"), (Q, (-3, 1), "-3"), (Q, (1, 2), "1/2"), (Q, (-10, 7), "-10/7"),
    (F7, 0, "0"), (F7, 6, "6"), (("F", 65521), 65520, "65520"), (F2, 1, "1"),
    (P7, (), "{}"), (P7, (1,), "{1}"), (P7, (0, 0, 3), "{0 0 3}"), (("P", F2), (1, 1), "{1 1}"),
    (PQ, (), "{}"), (PQ, ((-1, 2),), "{-1/2}"), (PQ, ((0, 1), (5, 1), (1, 3)), "{0 5 1/3}"),
)


def broken(text):
    """Texts with one sign more, less or changed, or two exchanged."""
    for at in range(len(text) + 1):
        yield text[:at] + text[at + 1:]
        for sign in SIGNS:
            yield text[:at] + sign + text[at:]
            yield text[:at] + sign + text[at + 1:]
        yield text[:at] + text[at:at + 2][::-1] + text[at + 2:]
        yield text[:at]
        yield text[at:]


class TextTest(unittest.TestCase):
    def refuse(self, function, *arguments):
        """A text that is none raises TextError, with the line 1."""
        with self.assertRaises(TextError) as caught:
            function(*arguments)
        self.assertEqual(caught.exception.line, 1)
        self.assertIs(type(caught.exception), TextError)

    def look_at(self, text, read, write):
        """A text is one of its value alone, or it is refused."""
        try:
            value = read(text)
        except TextError as error:
            self.assertEqual(error.line, 1)
            return None
        self.assertEqual(write(value), text)
        return value


class DomainTest(TextTest):
    """Points 160 and 161: domains."""

    def test_texts(self):
        for d, text in ((Z, "Z"), (Q, "Q"), (F2, "F2"), (("F", 65521), "F65521"), (PQ, "PQ"), (P7, "PF7"),
                        (("P", ("F", 65521)), "PF65521")):
            self.assertEqual(write_domain(d), text)
            self.assertEqual(read_domain(text), d)
        for d in DOMAINS:
            self.assertEqual(read_domain(write_domain(d)), d)

    def test_no_texts(self):
        for text in ("", " ", "z", "Z ", " Z", "ZZ", "F", "F1", "F0", "F4", "F-7", "F07", "F+7", "F 7", "F7 ", "F7\n",
                     "7",
                     "F65537", "F65520", "F" + NINES, "F" + NINES + "9", "P", "PZ", "PP", "PPQ", "PPF7", "PF4", "PF",
                     "P Q",
                     "QP", "R", "F\xb2", "F\u0663", "FF7", "Q7", "Z7", "(\"Z\")", "F7.0", "F1e1", "F0x7", "F1_1"):
            self.refuse(read_domain, text)

    def test_broken_texts(self):
        for text in ("Z", "Q", "F7", "F65521", "PQ", "PF13"):
            for other in broken(text):
                self.look_at(other, read_domain, write_domain)


class ElementTest(TextTest):
    """Points 160 and 161: elements."""

    def test_texts(self):
        for d, x, text in SAMPLES:
            self.assertEqual(write_element(d, x), text)
            self.assertEqual(read_element(d, text), x)

    def test_samples(self):
        take = Sample(261)
        for d in DOMAINS:
            for digits in (1, 3, 40, 300):
                for _ in range(8):
                    x = take.one_of(d, 6, digits)
                    text = write_element(d, x)
                    self.assertEqual(read_element(d, text), x)
                    self.assertTrue(all(sign in "-0123456789/{} " for sign in text))

    def test_no_texts(self):
        for d, texts in (
                (Z,
                 ("", "-", "-0", "+1", "01", "-01", "00", "1 ", " 1", "1\n", "1.0", "1/1", "4/2", "1/2", "0/1", "1e3",
                  "0x1",
                     "1_000", "--1", "1-", "- 1", "{1}", "<1>", "(1)", "1 2", "\xb2", "\u0663", "\uff11", "\u22121",
                     "T", "a",
                     "1" * 100001, "-" + "1" * 100001)),
                (Q,
                 ("", "/", "1/", "/2", "1/1", "0/1", "0/2", "-0", "-0/1", "2/4", "-3/6", "1/-2", "1/+2", "1/02",
                  "01/2", "1/0",
                     "0/0", "1/2/3", "1//2", "1 /2", "1/ 2", "1/2 ", "1/2\n", "+1/2", "--1/2", "1/2.0", "{1/2}",
                     "1/\xb2",
                     "1" * 100001 + "/2", "1/1" + "0" * 100000, "1/" + "1" * 100001)),
                (F7,
                 ("", "7", "8", "-1", "-0", "00", "01", "+1", "1 ", "1/2", "10", "{1}", NINES, "-" + NINES,
                  NINES + "9")),
                (PQ,
                 ("", "{", "}", "{}{}", "{ }", "{1 }", "{ 1}", "{1  2}", "{0}", "{1 0}", "{0 0}", "{1 0/1}", "{2/4}",
                  "{1,2}",
                      "1", "{1} ", "{1}\n", " {1}", "{{1}}", "{1", "1}", "{1}}", "}{", "<1>", "{1/1}", "{-0}",
                      "{1 -0}", "{1\n2}",
                      "{" + NINES + "9}", "{1/" + NINES + "9}")),
                (P7,
                 ("", "{7}", "{-1}", "{1 0}", "{0}", "{1/2}", "{1 7}", "{7 1}", "{01}", "{ }", "{1 {2}}", "{1}{2}"))):
            for text in texts:
                self.refuse(read_element, d, text)

    def test_broken_texts(self):
        for d, x, text in SAMPLES:
            for other in broken(text):
                value = self.look_at(other, lambda t: read_element(d, t), lambda y: write_element(d, y))
                if value is not None:
                    self.assertTrue(is_element(d, value))

    def test_domains_that_are_none(self):
        for d in NO_DOMAINS:
            for text in ("1", "", "{}", "x"):
                with self.assertRaises(DomainError):
                    read_element(d, text)
            with self.assertRaises(DomainError):
                write_element(d, 1)
            with self.assertRaises(DomainError):
                write_domain(d)


class LongTest(TextTest):
    """Points 161 and 162: integers of many digits."""

    def test_digits(self):
        take = Sample(262)
        limit = sys.get_int_max_str_digits()
        sys.set_int_max_str_digits(0)
        try:
            for many in (1, 2, 9, 900, 902, 903, 904, 999, 1000, 1001, 1999, 2000, 2001, 3000, 4000, 4299, 4300, 4301,
                         8001, 20000):
                for n in (10 ** many, 10 ** many - 1, take.below(10 ** many), 2 ** (many * 3), 2 ** (many * 3) - 1):
                    self.assertEqual(digits_of(n), str(n))
                    self.assertEqual(number_of(str(n)), n)
            self.assertEqual(digits_of(0), "0")
            self.assertEqual(number_of("0"), 0)
        finally:
            sys.set_int_max_str_digits(limit)

    def test_the_limit(self):
        n = 10 ** 100000 - 1
        begin = time.monotonic()
        for sign, x in (("", n), ("-", -n)):
            self.assertEqual(read_element(Z, sign + NINES), x)
            self.assertEqual(write_element(Z, x), sign + NINES)
            self.assertEqual(read_element(Q, sign + NINES + "/2"), (x, 2))
            self.assertEqual(read_element(Q, sign + "1/" + NINES), (x // n, n))
            self.assertEqual(write_element(Q, (x, 2)), sign + NINES + "/2")
            self.assertEqual(read_element(PQ, "{0 " + sign + NINES + "}"), ((0, 1), (x, 1)))
            self.assertEqual(read_vector(Z, "<1 " + sign + NINES + ">"), (1, x))
            self.assertEqual(read_matrix(Q, "[" + sign + NINES + "/4]"), (1, 1, (((x, 4),),)))
            self.assertEqual(read_claim("((" + sign + NINES + "))"), ((x,),))
            self.assertEqual(write_claim((1, (x,))), "(1 (" + sign + NINES + "))")
            for read in (read_element, read_vector, read_matrix):
                for text in ("1" + NINES, "1/1" + NINES, "{1" + NINES + "}", "<1" + NINES + ">", "[1" + NINES + "]"):
                    for d in (Z, Q, PQ):
                        self.refuse(read, d, text)
            self.refuse(read_claim, "(" + sign + "1" + NINES + ")")
            self.refuse(read_claim, "(" + sign + NINES + "9 1)")
        self.refuse(read_claim, "(" + "7" * 3000000 + ")")
        self.refuse(read_element, Z, "7" * 3000000)
        self.refuse(read_matrix, Z, "[" + "7" * 3000000 + "x0]")
        # Results may be larger, and are written all the same.
        self.assertEqual(write_element(Z, 10 ** 150000), "1" + "0" * 150000)
        self.assertLess(time.monotonic() - begin, 60)

    def test_fractions_of_many_digits(self):
        n, d = 10 ** 99999 + 1, 10 ** 99999
        text = write_element(Q, (n, d))
        self.assertEqual(read_element(Q, text), (n, d))
        self.refuse(read_element, Q, "2" + text[1:-1] + "0/" + "2" + "0" * 99999)
        self.refuse(read_element, Q, "1" + "0" * 99999 + "/" + "1" + "0" * 99999)


class VectorTest(TextTest):
    """Points 160 and 161: vectors."""

    def test_texts(self):
        for d, v, text in ((Z, (), "<>"), (Z, (1, -2, 0), "<1 -2 0>"), (Q, ((1, 2), (3, 1)), "<1/2 3>"),
                           (Q, (), "<>"),
                           (F7, (6,), "<6>"), (P7, ((), (1,), (0, 1)), "<{} {1} {0 1}>"), (P7, (), "<>"),
                           (P7, ((),), "<{}>"),
                           (PQ, (((1, 2), (1, 1)), ()), "<{1/2 1} {}>")):
            self.assertEqual(write_vector(d, v), text)
            self.assertEqual(read_vector(d, text), v)
        take = Sample(263)
        for d in DOMAINS:
            for n in (0, 1, 2, 10, 11, 100):
                v = take.vector(d, n, 6, 40)
                self.assertEqual(read_vector(d, write_vector(d, v)), v)

    def test_no_texts(self):
        for d, texts in (
                (Z,
                 ("", "<", ">", "< >", "<1 >", "< 1>", "<1  2>", "<1,2>", "1", "1 2", "<1> ", " <1>", "<1>\n",
                  "<<1>>", "<1><2>",
                     "<-0>", "<01>", "<1/2>", "[1]", "{1}", "><", "<1 2", "1 2>", "<1\n2>", "<1\t2>", "<+1>",
                     "<1 a>")),
                (Q, ("<2/4>", "<1/1>", "<1/2 0/2>", "<1 /2>")), (F7, ("<7>", "<-1>", "<1 7>")),
                (P7,
                 ("<1>", "<{}{}>", "<{} >", "< {}>", "<{}  {}>", "<{1 0}>", "<{7}>", "<{1} 2>", "<{>", "<}>", "<}{>",
                  "<{1}{2}>",
                      "<{1 } {2}>", "<{1} { 2}>", "<{1}, {2}>", "<{{1}}>", "<{} {0}>", "<{} }>", "<{ {}>"))):
            for text in texts:
                self.refuse(read_vector, d, text)

    def test_broken_texts(self):
        for d, text in ((Z, "<1 -20 3>"), (Q, "<1/2 -3>"), (P7, "<{} {1 2} {3}>"), (PQ, "<{1/2} {}>"), (Z, "<>")):
            for other in broken(text):
                self.look_at(other, lambda t: read_vector(d, t), lambda v: write_vector(d, v))

    def test_domains_that_are_none(self):
        for d in NO_DOMAINS:
            for text in ("<>", "<1>", "x"):
                with self.assertRaises(DomainError):
                    read_vector(d, text)
            with self.assertRaises(DomainError):
                write_vector(d, ())


class MatrixTest(TextTest):
    """Points 160 and 161: matrices."""

    def test_texts(self):
        for d, a, text in ((Z, (2, 2, ((1, -2), (0, 4))), "[1 -2; 0 4]"), (Z, (1, 1, ((0,),)), "[0]"),
                           (Z, (1, 3, ((1, 2, 3),)), "[1 2 3]"),
                           (Z, (3, 1, ((1,), (2,), (3,))), "[1; 2; 3]"),
                           (Q, (1, 2, (((1, 2), (-3, 1)),)), "[1/2 -3]"),
                           (F7, (2, 1, ((6,), (0,))), "[6; 0]"),
                           (P7, (2, 2, (((), (1,)), ((0, 1), ()))), "[{} {1}; {0 1} {}]"),
                           (PQ, (1, 1, ((((1, 3),),),)), "[{1/3}]"), (Z, (0, 0, ()), "[0x0]"),
                           (Q, (0, 7, ()), "[0x7]"),
                           (P7, (2, 0, ((), ())), "[2x0]"), (Z, (1000, 0, ((),) * 1000), "[1000x0]"),
                           (Z, (0, 1000, ()), "[0x1000]")):
            self.assertEqual(write_matrix(d, a), text)
            self.assertEqual(read_matrix(d, text), a)

    def test_samples(self):
        take = Sample(264)
        for d in DOMAINS:
            for m, n in take.sizes(14, 11):
                a = take.matrix(d, m, n, 3, 9)
                text = write_matrix(d, a)
                self.assertEqual(read_matrix(d, text), a)
            a = zero_matrix(d, 40, 41)
            self.assertEqual(read_matrix(d, write_matrix(d, a)), a)
        a = zero_matrix(Z, 3, 1200)
        self.assertEqual(read_matrix(Z, write_matrix(Z, a)), a)

    def test_no_texts(self):
        for d, texts in (
                (Z,
                 ("", "[", "]", "[]", "[ ]", "[;]", "[; ]", "[1;2]", "[1 ;2]", "[1 ; 2]", "[1;  2]", "[1; 2;]",
                  "[1; 2; ]", "[; 1]",
                     "[1 2; 3]", "[1; 2 3]", "[1 ]", "[ 1]", "[1  2]", "[1] ", " [1]", "[1]\n", "[[1]]", "[1][2]",
                     "1", "1; 2", "<1>",
                     "[1,2]", "[-0]", "[01]", "[1/2]", "[1\n2]", "[x]", "[0x]", "[x0]", "[1x1]", "[2x3]", "[1x0x0]",
                     "[00x0]", "[0x00]",
                     "[-0x0]", "[0x-1]", "[-1x0]", "[+0x0]", "[0 x0]", "[0x 0]", "[ 0x0]", "[0x0 ]", "[0X0]",
                     "[1001x0]", "[0x1001]",
                     "[1001x1001]", "[01x0]", "[0x" + NINES + "]", "[" + NINES + "x0]", "[0x0; 1]", "[1; 0x0]",
                     "[0x0] ", "[0*0]",
                     "[0x\xb2]", "[\u0660x0]", "0x0", "[0x0", "0x0]")),
                (Q, ("[2/4]", "[1 1/1]", "[0/2]", "[1/2; 3 4]")), (F7, ("[7]", "[-1]", "[1; 7]")),
                (P7,
                 ("[1]", "[{}; {} {}]", "[{};{}]", "[{1 0}]", "[{} {}; {}]", "[{}{}]", "[{1; 2}]", "[{}; ]", "[{",
                  "[}]", "[{}; 1]"))):
            for text in texts:
                self.refuse(read_matrix, d, text)

    def test_broken_texts(self):
        for d, text in ((Z, "[1 -2; 30 4]"), (Q, "[1/2; -3]"), (P7, "[{} {1 2}; {3} {}]"), (Z, "[0x0]"),
                        (F7, "[0x12]"), (Z, "[1000x0]")):
            for other in broken(text):
                value = self.look_at(other, lambda t: read_matrix(d, t), lambda a: write_matrix(d, a))
                if value is not None:
                    self.assertTrue(is_matrix(d, value))

    def test_domains_that_are_none(self):
        for d in NO_DOMAINS:
            for text in ("[0x0]", "[1]", "x"):
                with self.assertRaises(DomainError):
                    read_matrix(d, text)
            with self.assertRaises(DomainError):
                write_matrix(d, (0, 0, ()))


class ClaimTest(TextTest):
    """Point 162."""

    def test_texts(self):
        for claim, text in (((), "()"), ((1,), "(1)"), ((1, -2, 0), "(1 -2 0)"), (((),), "(())"),
                            (((), ()), "(() ())"),
                            (("rank", ("Q",), None, True, False), '("rank" ("Q") - T F)'),
                            (("no solution",), '("no solution")'),
                            (("",), '("")'), ((" ", "  a  B "), '(" " "  a  B ")'), ((None,), "(-)"),
                            ((-1, None), "(-1 -)"),
                            ((True, 1, False, 0), "(T 1 F 0)"), (("T", "F"), '("T" "F")'),
                            ((1, (2, (3, "x")), 4), '(1 (2 (3 "x")) 4)'),
                            (("zZaA",), '("zZaA")')):
            self.assertEqual(write_claim(claim), text)
            value = read_claim(text)
            self.assertEqual(value, claim)
            self.assertEqual(repr(value), repr(claim))

    def test_no_texts(self):
        for text in ("", " ", "1", "-", "T", '"a"', "(", ")", ")(", "(()", "())", "()()", "() ()", "( )", "(1 )",
                     "( 1)", "(1  2)", "(1,2)",
                     "(1, 2)", " ()", "() ", "()\n", "\n()", "(1\n2)", "(1\t2)", "(-0)", "(+1)", "(01)", "(1.0)",
                     "(1/2)", "(--1)", "(- 1 2",
                     "(t)", "(f)", "(TT)", "(T1)", "(1T)", "(None)", "(True)", "(a)", "('a')", '(")', '("a)', '(a")',
                     '("a"b)', '("a""b")',
                     '("a"1)', '(1"a")', '("a"())', '(()"a")', '(()())', '(1())', '(()1)', '("a1")', '("a-b")',
                     '("a\n")', '("a\tb")',
                     '("\xe4")', '("a_b")', '("a"" ")', "(\xb2)", "(\u0663)", "[1]", "{1}", "<1>", "(1))", "((1)",
                     '("(")', '(")")', "(T F",
                     "(-T)", "(-1-)", "(1-1)", "(\x00)", "(\u2212)"):
            self.refuse(read_claim, text)

    def test_broken_texts(self):
        for text in ('("ab c" (1 -20) - T F ())', "()", "(())", '("")', '(("x" 0) ("y" -5))'):
            for other in broken(text):
                value = self.look_at(other, read_claim, write_claim)
                self.assertTrue(value is None or type(value) is tuple)

    def test_thousands_of_brackets(self):
        for many in (100, 5000, 100000):
            text = "(" * many + ")" * many
            value = read_claim(text)
            self.assertEqual(write_claim(value), text)
            depth = 0
            while value:
                self.assertEqual(len(value), 1)
                value = value[0]
                depth += 1
            self.assertEqual((value, depth), ((), many - 1))
            inner = "(1 " * many + "2" + ")" * many
            self.assertEqual(write_claim(read_claim(inner)), inner)
            for other in (text[:-1], text[1:], text + ")", "(" + text, "(" * many, ")" * many, text + " ",
                          text + text,
                          "(1 " * many + ")" * many, "( " * many + ")" * many):
                self.refuse(read_claim, other)
        wide = tuple(range(100000))
        self.assertEqual(read_claim(write_claim(wide)), wide)
        words = ("a b",) * 50000
        self.assertEqual(read_claim(write_claim(words)), words)

    def test_any_strings(self):
        take = Sample(265)
        signs = '()- "TFab019 ' + "".join(SIGNS)
        pieces = ["()", "(", ")", " ", "1", "-", '"', '"a"', "T", "[", "]", "<", ">", "{", "}", "; ", "x", "/", "0",
                  "12", "F7", "P", "Q", "Z"]
        reads = [read_claim, read_domain]
        for d in (Z, Q, F7, P7, PQ):
            reads += [lambda t, d=d: read_element(d, t), lambda t, d=d: read_vector(d, t), lambda t,
                      d=d: read_matrix(d, t)]
        for _ in range(4000):
            text = "".join(signs[take.below(len(signs))] for _ in range(take.below(6)))
            other = "".join(pieces[take.below(len(pieces))] for _ in range(take.below(8)))
            for read in reads:
                for word in (text, other):
                    try:
                        read(word)
                    except EchelonError as error:
                        self.assertIs(type(error), TextError)
                        self.assertEqual(error.line, 1)


class ArgumentsTest(unittest.TestCase):
    """Points 2 and 6."""

    def test_texts_are_ascii(self):
        take = Sample(266)
        for d in EUCLIDEAN + FIELDS:
            for text in (write_domain(d), write_matrix(d, take.matrix(d, 3, 3)), write_vector(d, take.vector(d, 3)),
                         write_claim(("a b", d, take.matrix(d, 2, 2), None, True, False))):
                self.assertTrue(all(" " <= sign <= "~" and sign != "%" for sign in text))

    def test_arguments_stay(self):
        for d in POLYNOMIALS:
            a = Sample(267).matrix(d, 3, 3)
            copy = Sample(267).matrix(d, 3, 3)
            self.assertEqual(write_matrix(d, a), write_matrix(d, a))
            self.assertEqual(write_claim(a), write_claim(a))
            self.assertEqual(a, copy)


if __name__ == "__main__":
    unittest.main()
