"""Points 163 to 166: the desk."""

import unittest

from echelon.answers import answer
from echelon.desk import desk
from echelon.judge import judge
from echelon.matrices import identity
from echelon.texts import (
    read_claim, write_claim, write_domain, write_element, write_matrix, write_vector,
)
from tests.claims import F2, F7, LARGE, P2, P7, PQ, Q, Z
from tests.sample import DOMAINS, Sample
from tests.test_judge import NAMES
from tests.test_texts import SIGNS, broken

ONE_MATRIX = ("rank", "echelon", "kernel", "invert", "determinant", "hermite", "smith", "frobenius", "characteristic",
              "minimal", "jordan", "reduce", "shortest", "integer-kernel")
TWO_MATRICES = ("similar", "lattice")
WITH_VECTOR = ("solve", "integer-solve", "member")
OVER_FIELD = ("rank", "echelon", "kernel", "invert", "solve", "similar", "frobenius", "characteristic", "minimal",
              "jordan")
OVER_RING = ("hermite", "smith")
HEADS = {Z: "Z", Q: "Q", F2: "F2", F7: "F7", LARGE: "F65521", PQ: "PQ", P2: "PF2", P7: "PF7"}


def run(*lines):
    return desk("\n".join(lines))


class LinesTest(unittest.TestCase):
    """Points 163 and 164: lines."""

    def test_texts_without_lines(self):
        self.assertEqual(desk(""), [])
        self.assertEqual(desk("\n"), ["error 1"])
        self.assertEqual(desk("\n\n"), ["error 1", "error 2"])
        self.assertEqual(desk("judge ()"), ["false"])
        self.assertEqual(desk("judge ()\n"), ["false"])
        self.assertEqual(desk("judge ()\n\n"), ["false", "error 2"])
        self.assertEqual(desk("\njudge ()"), ["error 1", "false"])
        self.assertEqual(desk("matrix a Z [1]"), [])
        self.assertEqual(desk("matrix a Z [1]\n"), [])
        self.assertIs(type(desk("")), list)

    def test_numbers_of_lines(self):
        self.assertEqual(run("matrix a Z [1]", "x", "matrix b Z [2]", "ask determinant a", "y", "judge ()", ""),
                         ["error 2", "1 determinant 1", "error 5", "false"])
        self.assertEqual(run(*["?"] * 12), [f"error {k}" for k in range(1, 13)])

    def test_lines_that_are_no_commands(self):
        for line in ("", " ", "matrix", "vector", "ask", "claim", "judge", "matrix ", "vector ", "ask ", "claim ",
                     "judge ",
                     "MATRIX a Z [1]", "Ask rank a", " matrix a Z [1]", "matrices a Z [1]", "matrix a", "matrix a Z",
                     "matrix a Z ",
                     "matrix  a Z [1]", "matrix a  Z [1]", "matrix a Z  [1]", "matrix a Z [1] ", "matrix a Z <1>",
                     "matrix a [1]",
                     "matrix Z [1]", "vector a Z [1]", "vector a Z", "vector a Z <1> ", "vector a  Z <1>",
                     "matrix a z [1]",
                     "matrix a F4 [1]", "matrix a PPQ [1]", "matrix a F65537 [1]", "matrix a Q [2/4]",
                     "matrix a Z [1; 2 3]",
                     "matrix a\tZ [1]", "matrix a Z [1]\r", "claim", "claim x", "claim 0", "claim 1", "claim -1",
                     "claim 01", "claim +1",
                     "claim 1 ", "claim  1", "claim 1 1", "judge 1", "judge x", "judge (", "judge ) ", "judge ()  ",
                     "judge  ()",
                     "judge () ", "judge ()()", "ask rank", "ask rank ", "ask rank x", "ask  rank x", "ask x",
                     "ask x y", "rank m",
                     "error 1", "ask rank m x", "# matrix", "\x0b", "exit", "ask integer kernel m",
                     "ask integer solve m v"):
            self.assertEqual(run("matrix m Q [1]", "vector v Q <1>", line, "ask rank m"), ["error 3", "1 rank 1"],
                             line)

    def test_signs_that_end_no_line(self):
        # Only the newline ends a line.
        for sign in "\r\x0b\x0c\x1c\x85\u2028":
            self.assertEqual(desk("judge ()" + sign + "judge ()"), ["error 1"])
        self.assertEqual(desk("judge ()\njudge ()"), ["false", "false"])

    def test_any_texts(self):
        take = Sample(291)
        pieces = ["matrix", "vector", "ask", "claim", "judge", " ", " ", " ", "\n", "a", "b", "Z", "Q", "F2", "[1]",
                  "[1 2; 3 4]", "<1>",
                  "rank", "solve", "1", "()", '("rank")', "[0x0]", "member", "-1"] + SIGNS[:40]
        for _ in range(1500):
            text = "".join(pieces[take.below(len(pieces))] for _ in range(take.below(20)))
            for line in desk(text):
                self.assertIs(type(line), str)

    def test_broken_lines(self):
        for line in ("matrix ab F7 [1 2; 3 4]", "vector v Q <1/2 3>", "ask rank m", "ask solve m v", "claim 1",
                     'judge ("a" -)'):
            for other in broken(line):
                if "\n" not in other:
                    out = run("matrix m Q [1 0; 0 1]", "vector v Q <1 2>", "ask rank m", other, "ask rank m")
                    self.assertEqual(out[0], "1 rank 2")
                    self.assertTrue(out[-1].endswith(("rank 2", "error 5")), (other, out))


class NameTest(unittest.TestCase):
    """Point 163: names and their meanings."""

    def test_names(self):
        for name in ("a", "Z", "a1", "matrix", "ask", "A1b2C3", "a" * 12, "z99999999999", "Q"):
            self.assertEqual(run(f"matrix {name} Q [1]", f"ask rank {name}"), ["1 rank 1"])
            self.assertEqual(run(f"vector {name} Q <1>", "matrix mm Q [1]", f"ask solve mm {name}"),
                             ["1 solution <1>"])
        for name in ("", "1", "1a", "a" * 13, "z999999999999", "a_b", "a-b", "a.", "_a", "\xe4", "a\xb2", "\xb2a",
                     "a\u0663", "(", "a,b"):
            self.assertEqual(run(f"matrix {name} Q [1]"), ["error 1"], name)
            self.assertEqual(run(f"vector {name} Q <1>"), ["error 1"], name)
            self.assertEqual(run("matrix a Q [1]", f"ask rank {name}"), ["error 2"], name)

    def test_names_are_told_apart(self):
        self.assertEqual(run("matrix a Q [1]", "matrix A Q [0]", "ask rank a", "ask rank A"),
                         ["1 rank 1", "2 rank 0"])

    def test_a_name_gets_another_meaning(self):
        self.assertEqual(run("matrix a Q [1]", "ask rank a", "matrix a F2 [1 0; 0 1]", "ask rank a", "vector a Q <1>",
                             "ask rank a",
                             "matrix a Z [5]", "ask determinant a"),
                             ["1 rank 1", "2 rank 2", "error 6", "3 determinant 5"])
        # A claim keeps what the name meant.
        out = run("matrix a Z [5]", "ask determinant a", "matrix a Z [7]", "claim 1")
        self.assertEqual(out[1], write_claim(answer(("determinant", Z, (1, 1, ((5,),))))))

    def test_a_name_keeps_its_meaning_if_the_line_is_an_error(self):
        for line in ("matrix a Q [1", "matrix a Q [1; 2 3]", "matrix a Q [1000]", "vector a Q <1/1>",
                     "vector a Q [1]", "matrix a X [1]",
                     "matrix a Q [7x0]", "matrix a PQ [{1 2 3 4}]", "vector a Z <1234567890>", "matrix a",
                     "matrix a Q"):
            self.assertEqual(run("matrix a Q [1 0; 0 1]", line, "ask rank a"), ["error 2", "1 rank 2"], line)

    def test_names_of_the_wrong_kind(self):
        heads = ("matrix m Q [1]", "vector v Q <1>", "matrix z Z [1]", "vector w Z <1>")
        lines = []
        for kind in ONE_MATRIX:
            lines += [f"ask {kind} v", f"ask {kind} w", f"ask {kind}", f"ask {kind} m m", f"ask {kind} m v",
                      f"ask {kind} x"]
        for kind in TWO_MATRICES:
            lines += [f"ask {kind} m v", f"ask {kind} v m", f"ask {kind} m", f"ask {kind} m m m", f"ask {kind} m x",
                      f"ask {kind} x m"]
        for kind in WITH_VECTOR:
            lines += [f"ask {kind} m m", f"ask {kind} v m", f"ask {kind} v v", f"ask {kind} m", f"ask {kind} m v v",
                      f"ask {kind} m x",
                      f"ask {kind} x v", f"ask {kind} z x", f"ask {kind} z m"]
        for kind in ("greatest", "factor", "integer kernel", "integer_kernel", "Rank", "inverse", "solution",
                     "hermit", "", "lattice-"):
            lines += [f"ask {kind} m", f"ask {kind} m m", f"ask {kind} m v"]
        for line in lines:
            self.assertEqual(run(*heads, line), ["error 5"], line)


class LimitTest(unittest.TestCase):
    """Point 163: limits."""

    def judge_lines(self, good, wrong):
        for line in good:
            self.assertEqual(run(line), [], line)
        for line in wrong:
            self.assertEqual(run(line), ["error 1"], line)

    def test_rows_and_columns(self):
        for d, head in HEADS.items():
            most = 3 if d[0] == "P" else 6
            for m in range(9):
                for n in range(9):
                    a = (m, n, ((write_element_of(d),) * n,) * m)
                    line = f"matrix a {head} {write_matrix(d, a)}"
                    self.assertEqual(run(line), [] if m <= most and n <= most else ["error 1"], line)
            for n in range(9):
                line = f"vector a {head} {write_vector(d, (write_element_of(d),) * n)}"
                self.assertEqual(run(line), [] if n <= most else ["error 1"], line)
        self.judge_lines((), ("matrix a Z [1000x0]", "matrix a Z [0x1000]", "matrix a Z [1001x0]"))

    def test_digits(self):
        for sign in ("", "-"):
            self.judge_lines([f"matrix a Z [{sign}123456789]", f"vector a Z <0 {sign}999999999>",
                              f"matrix a Q [{sign}999/998]",
                              f"vector a Q <{sign}1/999 999>", f"matrix a PQ [{{{sign}999 1/999}}]"],
                             [f"matrix a Z [{sign}1234567890]", f"vector a Z <0 {sign}1000000000>",
                              f"matrix a Q [{sign}1000]",
                              f"matrix a Q [{sign}1000/999]", f"matrix a Q [{sign}1/1000]",
                              f"vector a Q <1 {sign}999/1000>",
                              f"matrix a PQ [{{{sign}1000}}]", f"matrix a PQ [{{0 {sign}1/1000}}]",
                              f"vector a PQ <{{{sign}1 1/2000}}>"])
        self.judge_lines(("matrix a F65521 [65520]", "vector a F65521 <10000>", "matrix a PF65521 [{65520 0 65520}]"),
                         ("matrix a F65521 [65521]", "vector a PF65521 <{65521}>"))

    def test_degrees(self):
        for head in ("PQ", "PF2", "PF65521"):
            self.judge_lines((f"matrix a {head} [{{}} {{1}}; {{0 1}} {{1 1 1}}]", f"vector a {head} <{{0 0 1}}>"),
                             (f"matrix a {head} [{{0 0 0 1}}]", f"vector a {head} <{{}} {{1 1 1 1}}>"))


def write_element_of(d):
    """An element that is not zero."""
    return {"Z": 1, "Q": (1, 2), "F": 1, "P": ((1, 1),) if d == PQ else (1,)}[d[0]]


class AskTest(unittest.TestCase):
    """Points 165 and 166."""

    def one(self, *lines):
        """The only line that answers."""
        out = run(*lines)
        self.assertEqual(len(out), 1, out)
        return out[0]

    def test_results_of_one_matrix(self):
        for head, text, kind, result in (
                ("Q", "[1 2; 2 4]", "rank", "rank 1"), ("Q", "[0x3]", "rank", "rank 0"),
                ("F2", "[1 1; 0 1]", "rank", "rank 2"),
                ("Q", "[2 4; 1 3]", "determinant", "determinant 2"), ("Q", "[1/2]", "determinant", "determinant 1/2"),
                ("Z", "[2 4; 1 1]", "determinant", "determinant -2"),
                ("F7", "[3 0; 0 4]", "determinant", "determinant 5"),
                ("Z", "[0x0]", "determinant", "determinant 1"),
                ("Q", "[1 2; 3 4]", "characteristic", "characteristic {-2 -5 1}"),
                ("Q", "[0x0]", "characteristic", "characteristic {1}"),
                ("F2", "[1 0; 0 1]", "minimal", "minimal {1 1}"), ("F7", "[0x0]", "minimal", "minimal {1}"),
                ("Q", "[2 4; 1 2]", "echelon", "echelon [1 2; 0 0]"), ("Q", "[2x0]", "echelon", "echelon [2x0]"),
                ("Q", "[1 2; 2 4]", "kernel", "kernel [-2; 1]"), ("Q", "[1 0; 0 1]", "kernel", "kernel [2x0]"),
                ("F7", "[0x2]", "kernel", "kernel [1 0; 0 1]"),
                ("Q", "[1 2; 3 4]", "invert", "inverse [-2 1; 3/2 -1/2]"), ("F7", "[3]", "invert", "inverse [5]"),
                ("Q", "[0x0]", "invert", "inverse [0x0]"), ("F2", "[0 0; 0 1]", "invert", "singular <1 0>"),
                ("Z", "[2 3; 4 4]", "hermite", "hermite [2 1; 0 2]"), ("PF7", "[{2}]", "hermite", "hermite [{1}]"),
                ("PQ", "[{0 2}; {}]", "hermite", "hermite [{0 1}; {}]"),
                ("Z", "[2 0; 0 3]", "smith", "smith [1 0; 0 6]"),
                ("PF2", "[{0 1} {}; {} {1 1}]", "smith", "smith [{1} {}; {} {0 1 1}]"),
                ("Z", "[0x3]", "smith", "smith [0x3]"),
                ("Z", "[1 2; 2 4]", "integer-kernel", "integer-kernel [2; -1]"),
                ("Z", "[2x0]", "integer-kernel", "integer-kernel [0x0]"),
                ("Z", "[1 2; 3 4]", "reduce", None), ("Z", "[0x3]", "reduce", "reduced [0x3]"),
                ("Z", "[3]", "reduce", "reduced [3]"),
                ("Z", "[-3 0; 0 5]", "shortest", "shortest <3 0>"), ("Z", "[0 2; 2 0]", "shortest", "shortest <0 2>"),
                ("Q", "[1 0; 0 1]", "frobenius", "frobenius {-1 1} {-1 1}"),
                ("Q", "[1 1; 0 1]", "frobenius", "frobenius {1 -2 1}"),
                ("Q", "[0x0]", "frobenius", "frobenius"), ("Q", "[0 2; 1 0]", "jordan", "no-jordan {-2 0 1}"),
                ("F2", "[0 1 0 0; 1 1 0 0; 0 0 0 1; 0 0 1 1]", "jordan", "no-jordan {1 1 1} {1 1 1}"),
                ("Q", "[1/2 1 0; 0 1/2 0; 0 0 -3]", "jordan", "jordan -3:1 1/2:2"),
                ("Q", "[2 0; 0 2]", "jordan", "jordan 2:1 2:1"),
                ("F7", "[3 1; 0 3]", "jordan", "jordan 3:2"), ("Q", "[0x0]", "jordan", "jordan")):
            found = self.one(f"matrix a {head} {text}", f"ask {kind} a")
            if result is None:
                self.assertTrue(found.startswith("1 reduced ["))
            else:
                self.assertEqual(found, "1 " + result)

    def test_results_of_two_names(self):
        for head, first, word, second, kind, result in (
                ("Q", "[1 2; 3 4]", "vector", "<5 11>", "solve", "solution <1 2>"),
                ("Q", "[0x2]", "vector", "<>", "solve", "solution <0 0>"),
                ("Q", "[1 2; 2 4]", "vector", "<1 3>", "solve", "no-solution <-2 1>"),
                ("F7", "[2]", "vector", "<1>", "solve", "solution <4>"),
                ("Q", "[2x0]", "vector", "<0 0>", "solve", "solution <>"),
                ("Z", "[2]", "vector", "<4>", "integer-solve", "integer-solution <2>"),
                ("Z", "[2]", "vector", "<1>", "integer-solve", "no-integer-solution <1/2>"),
                ("Z", "[2 0; 0 3]", "vector", "<4 3>", "member", "member <2 1>"),
                ("Z", "[2]", "vector", "<3>", "member", "not-member <1/2>"),
                ("Z", "[0x0]", "vector", "<>", "member", "member <>"),
                ("Q", "[1 1; 0 2]", "matrix", "[1 0; 0 2]", "similar", "similar"),
                ("Q", "[1 1; 0 1]", "matrix", "[1 0; 0 1]", "similar", "not-similar"),
                ("Q", "[0x0]", "matrix", "[0x0]", "similar", "similar"),
                ("Z", "[1 2; 0 3]", "matrix", "[1 2; 1 5]", "lattice", "same-lattice"),
                ("Z", "[1 2; 0 3]", "matrix", "[1 2]", "lattice", "other-lattice")):
            self.assertEqual(self.one(f"matrix a {head} {first}", f"{word} b {head} {second}", f"ask {kind} a b"),
                             "1 " + result)
        self.assertEqual(self.one("matrix a Q [3]", "ask similar a a"), "1 similar")

    def test_results_are_those_of_the_claims(self):
        take = Sample(292)
        at = {"rank": 3, "determinant": 3, "characteristic": 3, "minimal": 3, "echelon": 3, "kernel": 3, "inverse": 3,
              "hermite": 3,
              "smith": 3, "integer kernel": 2, "reduced": 2, "solution": 4, "no solution": 4, "singular": 3,
              "integer solution": 3,
              "no integer solution": 3, "member": 3, "not member": 3, "shortest": 2, "frobenius": 3, "no jordan": 3,
              "jordan": 3}
        seen = set()
        for _ in range(6):
            for d in list(HEADS) + [Z] * 3:
                for lines, kind in scripts(take, d):
                    out = run(*lines, f"ask {kind}", "claim 1")
                    if out[0].startswith("refused"):
                        self.assertEqual(out[1], f"error {len(lines) + 2}")
                        continue
                    claim = read_claim(out[1])
                    self.assertIs(judge(claim), True)
                    name = claim[0]
                    seen.add(name)
                    expected = "1 " + name.replace(" ", "-")
                    if name in at:
                        expected += " " + self.written(name, d, claim[at[name]])
                    self.assertEqual(out[0], expected.rstrip(" "))
        self.assertEqual(seen, set(NAMES) - {"greatest", "factors"})

    def written(self, name, d, x):
        if name == "rank":
            return str(x)
        if name == "determinant":
            return write_element(d, x)
        if name in ("characteristic", "minimal"):
            return write_element(("P", d), x)
        if name in ("frobenius", "no jordan"):
            return " ".join(write_element(("P", d), g) for g in x)
        if name == "jordan":
            return " ".join(write_element(d, y) + ":" + str(k) for y, k in x)
        if name in ("echelon", "kernel", "inverse", "hermite", "smith", "integer kernel", "reduced"):
            return write_matrix(d, x)
        return write_vector(Q if name in ("no integer solution", "not member") else d, x)

    def test_claims_are_numbered(self):
        out = run("matrix a Q [1]", "ask rank a", "ask shortest a", "ask invert a", "x", "ask hermite a",
                  "ask kernel a", "claim 1", "claim 2",
                  "claim 3", "claim 4")
        self.assertEqual(out[:6],
                         ["1 rank 1", "refused DomainError", "2 inverse [1]", "error 5", "refused DomainError",
                          "3 kernel [1x0]"])
        self.assertEqual([read_claim(text)[0] for text in out[6:9]], ["rank", "inverse", "kernel"])
        self.assertEqual(out[9], "error 11")
        out = run("matrix a Q [1]", *["ask rank a"] * 12)
        self.assertEqual(out, [f"{k} rank 1" for k in range(1, 13)])

    def test_a_new_desk_has_no_claims(self):
        self.assertEqual(run("matrix a Q [1]", "ask rank a"), ["1 rank 1"])
        self.assertEqual(run("claim 1", "ask rank a"), ["error 1", "error 2"])
        self.assertEqual(run("matrix a Q [1]", "ask rank a"), ["1 rank 1"])

    def test_refused_domains(self):
        for d, head in HEADS.items():
            a = f"matrix a {head} {write_matrix(d, (1, 1, ((write_element_of(d),),)))}"
            v = f"vector v {head} {write_vector(d, (write_element_of(d),))}"
            for kind in ONE_MATRIX + TWO_MATRICES + WITH_VECTOR:
                if kind in OVER_FIELD:
                    allowed = d[0] in "QF"
                elif kind in OVER_RING:
                    allowed = d[0] in "ZP"
                elif kind == "determinant":
                    allowed = d[0] in "ZQF"
                else:
                    allowed = d == Z
                names = "a" if kind in ONE_MATRIX else "a a" if kind in TWO_MATRICES else "a v"
                found = self.one(a, v, f"ask {kind} {names}")
                if allowed:
                    self.assertTrue(found.startswith("1 "), found)
                else:
                    self.assertEqual(found, "refused DomainError", (kind, d))

    def test_names_of_different_domains(self):
        for kind in TWO_MATRICES + WITH_VECTOR:
            word, text = ("matrix", "[1]") if kind in TWO_MATRICES else ("vector", "<1>")
            for first, second in (("Q", "Z"), ("Z", "Q"), ("F7", "F2"), ("F2", "Q"), ("Z", "F2")):
                self.assertEqual(self.one(f"matrix a {first} [1]", f"{word} b {second} {text}", f"ask {kind} a b"),
                                 "refused DomainError")
        # Ahead of the sizes.
        self.assertEqual(self.one("matrix a Q [1 2]", "vector b Z <1 2 3>", "ask solve a b"), "refused DomainError")
        self.assertEqual(self.one("matrix a Q [1 2]", "matrix b F2 [1]", "ask similar a b"), "refused DomainError")

    def test_refused_sizes(self):
        for kind in ("invert", "determinant", "frobenius", "characteristic", "minimal", "jordan"):
            self.assertEqual(self.one("matrix a Q [1 2]", f"ask {kind} a"), "refused ShapeError")
            self.assertEqual(self.one("matrix a Q [0x2]", f"ask {kind} a"), "refused ShapeError")
            self.assertEqual(self.one("matrix a PQ [{} {}]", f"ask {kind} a"), "refused DomainError")
        self.assertEqual(self.one("matrix a Z [1 2]", "ask determinant a"), "refused ShapeError")
        self.assertEqual(self.one("matrix a Q [1]", "matrix b Q [1 0; 0 1]", "ask similar a b"), "refused ShapeError")
        self.assertEqual(self.one("matrix a Q [1]", "vector b Q <1 2>", "ask solve a b"), "refused ShapeError")
        self.assertEqual(self.one("matrix a Z [1]", "vector b Z <1 2>", "ask integer-solve a b"),
                         "refused ShapeError")
        self.assertEqual(self.one("matrix a Z [1]", "vector b Z <1 2>", "ask member a b"), "refused ShapeError")
        self.assertEqual(self.one("matrix a Z [1]", "matrix b Z [1 2]", "ask lattice a b"), "refused ShapeError")

    def test_refused_bases(self):
        for kind in ("reduce", "shortest"):
            for text in ("[1 2; 2 4]", "[0]", "[1; 2]", "[2x0]"):
                self.assertEqual(self.one(f"matrix a Z {text}", f"ask {kind} a"), "refused SingularError")
        self.assertEqual(self.one("matrix a Z [0x3]", "ask shortest a"), "refused SingularError")
        self.assertEqual(self.one("matrix a Z [0x0]", "ask shortest a"), "refused SingularError")


def scripts(take, d):
    """Lines that give names, and what is asked about them, for all kinds that the domain may have."""
    head = write_domain(d)
    most = 3 if d[0] == "P" else 4
    degree, digits = (1, 1) if d[0] == "P" else (0, 1)
    for kind in ONE_MATRIX + TWO_MATRICES + WITH_VECTOR:
        m, n = take.below(most), take.below(most)
        if kind in ("invert", "determinant", "frobenius", "characteristic", "minimal", "jordan", "similar"):
            n = m
        a = take.matrix(d, m, n, degree, digits)
        lines = [f"matrix a {head} {write_matrix(d, a)}"]
        names = "a"
        if kind in TWO_MATRICES:
            b = a if take.below(3) == 0 else take.matrix(d, m, n, degree, digits)
            lines.append(f"matrix b {head} {write_matrix(d, b)}")
            names = "a b"
        if kind in WITH_VECTOR:
            v = take.vector(d, n if kind == "member" else m, degree, digits)
            lines.append(f"vector b {head} {write_vector(d, v)}")
            names = "a b"
        yield lines, f"{kind} {names}"


class ClaimTest(unittest.TestCase):
    """Points 163, 164 and 166: claim and judge."""

    def test_claims_are_accepted(self):
        take = Sample(293)
        for d in DOMAINS:
            for lines, kind in scripts(take, d):
                out = run(*lines, f"ask {kind}", "claim 1")
                if not out[0].startswith("refused"):
                    self.assertEqual(run("judge " + out[1]), ["true"])
                    self.assertEqual(write_claim(read_claim(out[1])), out[1])

    def test_claims_at_the_limits(self):
        take = Sample(294)
        numbers = [take.between(100, 999) for _ in range(200)]
        fractions = [f"{n}/{k}" for n, k in zip(numbers, (997, 991, 983, 977, 971, 967, 953, 947, 941) * 20) if n < k]
        entries = "; ".join(" ".join(fractions[6 * i:6 * i + 6]) for i in range(6))
        long = "; ".join(" ".join(str(take.between(-10 ** 9 + 1, 10 ** 9 - 1)) for _ in range(6)) for _ in range(6))
        rows = []
        for k in (0, 30, 60):
            rows.append(" ".join("{" + " ".join(fractions[k + 3 * j:k + 3 * j + 3]) + "}" for j in range(3)))
        polynomials = "; ".join(rows)
        heads = (f"matrix q Q [{entries}]", f"matrix z Z [{long}]", f"matrix p PQ [{polynomials}]",
                 f"matrix e Q [{entries.replace('/997', '')}]", f"vector v Q <{' '.join(fractions[:6])}>")
        kinds = [f"{kind} q" for kind in OVER_FIELD if kind not in ("similar", "solve")]
        kinds += ["similar q q", "similar q e", "solve q v", "hermite p", "smith p", "hermite z", "smith z",
                  "determinant z", "reduce z",
                  "shortest z", "integer-kernel z", "lattice z z"]
        for kind in kinds:
            out = run(*heads, f"ask {kind}", "claim 1")
            self.assertTrue(out[0].startswith("1 "), out[0])
            self.assertLess(len(out[1]), 200000)
            self.assertEqual(run("judge " + out[1]), ["true"])

    def test_judge(self):
        good = write_claim(("inverse", Q, identity(Q, 2), identity(Q, 2)))
        for text, verdict in ((good, "true"), (good.replace("inverse", "Inverse"), "false"), ("()", "false"),
                              ("(1)", "false"),
                              ('("inverse")', "false"), ("(T F -)", "false"),
                              (good.replace("1 1", "1 2", 1), "false"),
                              (good[:-1], "error 1"), (good + ")", "error 1"), (good + " ", "error 1"),
                              (" " + good, "error 1"),
                              (good.replace("(", "[", 1), "error 1"), (good.replace('"', "", 1), "error 1"),
                              ("1", "error 1"),
                              ("", "error 1"), (good.replace("2", "02", 1), "error 1"), (good + good, "error 1")):
            self.assertEqual(run("judge " + text), [verdict], text)

    def test_tuples_within_one_another(self):
        for many, line in ((1, "false"), (59, "false"), (60, "false"), (61, "false"), (1000, "false"),
                           (90000, "false"), (150000, "false")):
            self.assertEqual(run("judge " + "(" * many + ")" * many), [line])
            self.assertEqual(run("judge " + "(" * many + ")" * (many - 1)), ["error 1"])
            self.assertEqual(run("judge " + "(" * many + ")" * (many + 1)), ["error 1"])

    def test_long_texts(self):
        for many, line in ((199999, "true"), (200000, "true"), (200001, "false"), (200002, "false"),
                           (300000, "false")):
            text = long_claim(many)
            self.assertEqual(len(text), many)
            self.assertEqual(run("judge " + text), [line])
            self.assertEqual(run("judge " + text + " "), ["error 1"])
            self.assertEqual(run("judge " + text[:-1]), ["error 1"])
        self.assertEqual(run('judge ("' + "a" * 199994 + '")'), ["false"])
        self.assertEqual(run('judge ("' + "a" * 250000 + '")'), ["false"])
        self.assertEqual(run("judge (" + "9" * 100000 + ")"), ["false"])
        self.assertEqual(run("judge (" + "9" * 100001 + ")"), ["error 1"])

    def test_numbers_of_claims(self):
        heads = ("matrix a Q [1]", "ask rank a", "ask invert a")
        for text in ("0", "3", "-1", "-2", "01", "02", "+1", "1.0", "", " 1", "1 ", "x", "1/1", "9" * 100,
                     "9" * 100001, "\xb2"):
            self.assertEqual(run(*heads, "claim " + text)[2], "error 4", text)
        out = run(*heads, "claim 2", "claim 1", "claim 2")
        self.assertEqual(out[2:], [write_claim(answer(("invert", Q, (1, 1, (((1, 1),),))))),
                                   write_claim(answer(("rank", Q, (1, 1, (((1, 1),),))))), out[2]])


def long_claim(many):
    """The text of a true claim with so many signs: a monic polynomial is its greatest divisor with zero."""
    def text(x, t):
        return write_claim(("greatest", ("P", LARGE), x, (), x, (1,), t, (1,), ()))

    # A coefficient of a single digit adds two signs to the text at two places, one of two digits another two.
    spare = many - len(text((1,), ()))
    x = (0,) * (spare // 4) + (1,)
    if spare // 2 % 2:
        x = (10,) + x[1:]
    # The cofactor of zero may be any polynomial.
    return text(x, (1,) if spare % 2 else ())


if __name__ == "__main__":
    unittest.main()
