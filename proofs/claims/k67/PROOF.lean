import PyProof.Rows.All
import Wide.All
import OpenK.AllK
import Wide.FinOn
import HandS.ForMost
import HandS.ForExc
import HandS.Wide
import HandS.Gcd
import HandS.IsInst
import HandS.TupAny
import HandS.Flow
import KE.DataEq
import KE.KMathG
import Flt.RightSqrt
import HandS.RevRange
import HandS.WideBits
import KE.GoesEnumKw
import HandS.Zip
import HandS.Rev
import HandS.NoneIn
import HandS.Style
import HandS.TupMul
import KE.KDictZip
import KE.GoesMore
import HandS.ExcIs
import HandS.TryMany
import HandS.CallSlots
import HandS.Head0
import HandS.Head1
import HandS.Head2
import HandS.Head3
import HandS.HeadEnd
import HandS.HeadHook1
import KE.KStateDown
import PySem.Challenge.RW_echelon_k67_refused_operators
set_option Elab.async false
set_option linter.all false
set_option maxRecDepth 100000
set_option maxHeartbeats 4000000
set_option maxHeartbeats 0
namespace HF
open PySem PySem.Spec PyProof.Rows L2
/-! ## the head: what the end leans on, read off the objects at some addresses -/
structure Fx where
  as : List Addr
  fa : List He.Fa
  ex : List (PySem.W.Frag → Bool)
  fn : List He.FnD
def obA (f : Fx) (g : Addr → Option Obj) : Bool := f.fa.all fun x => x.ok (He.frG g f.as)
def obB (f : Fx) (g : Addr → Option Obj) : Bool := f.ex.all fun x => x (He.frG g f.as)
def obC (f : Fx) (g : Addr → Option Obj) : List He.FnV := f.fn.map fun d => He.fnObs (He.frG g f.as) d.at_
structure Says (f : Fx) (K : PySem.W.Frag) : Prop where
  A : (f.fa.all fun x => x.ok K) = true
  B : (f.ex.all fun x => x K) = true
  C : (f.fn.map fun d => He.fnObs K d.at_) = f.fn.map He.FnD.val
def hook (f : Fx) : PySem.W.Hook where
  α := Bool × Bool × List He.FnV
  obs := fun s => (obA f s.heap.get?, obB f s.heap.get?, obC f s.heap.get?)
  val := fun _ => (true, true, f.fn.map He.FnD.val)
  says := fun _ h => ∃ K : PySem.W.Frag, K.In h ∧ Says f K
  of := fun _ _ e => ⟨_, He.frG_in, ⟨congrArg (fun z => z.1) e, congrArg (fun z => z.2.1) e, congrArg (fun z => z.2.2) e⟩⟩
  keeps := fun _ _ _ ⟨K, hK, c⟩ k => ⟨K, PySem.W.Frag.In.keeps hK k, c⟩
section
variable {f : Fx} {K : PySem.W.Frag}
theorem Says.fact (c : Says f K) (i : Nat) {x : He.Fa} (h : f.fa[i]? = some x) : x.ok K = true := List.all_eq_true.mp c.A x (List.mem_of_getElem? h)
theorem Says.exf (c : Says f K) (i : Nat) {x : PySem.W.Frag → Bool} (h : f.ex[i]? = some x) : x K = true := List.all_eq_true.mp c.B x (List.mem_of_getElem? h)
theorem Says.def_ (c : Says f K) (i : Nat) {d : He.FnD} (h : f.fn[i]? = some d) (k : (He.Fa.code d.at_ d.qual).ok K = true) : ∃ (o1 : Value) (o2 : Option Addr) (o3 : Array (Option Value)) (v1 v2 v3 : Value) (v4 : Option Addr) (v5 v6 : Value), K.lookup (He.fAd K d.at_) = some ⟨o1, o2, .func (PySem.W.fnOf d.name d.qual d.params d.body d.scope .none v1 v2 v3 v4 v5 v6), o3⟩ ∧ PySem.W.codeIn K v5 d.qual = true := He.fn_ok (K := K) (d := d) (by
  have e2 : (f.fn.map fun d => He.fnObs K d.at_)[i]? = (f.fn.map He.FnD.val)[i]? := by rw [c.C]
  rw [List.getElem?_map, List.getElem?_map, h] at e2
  exact Option.some.inj e2) k
theorem int_ns {x : Str} {i : Int} (h : (He.Fa.int x i).ok K = true) : ∃ t, PySem.W.nsIn K mainGlobals x = some (some (Value.int i t)) := by
  have h2 : (match PySem.W.nsIn K mainGlobals x with
    | some (some (.int j _)) => decide (j = i)
    | _ => false) = true := h
  split at h2
  · next j t e =>
    have ej := of_decide_eq_true h2
    subst ej
    exact ⟨t, e⟩
  · cases h2
end
theorem five {α β γ δ ε ζ : Type} {o : Option α} {f : α → β} {g : α → γ} {h : α → δ} {u : α → ε} {v : α → ζ} {a : β} {b : γ} {c : δ} {d : ε} {e : ζ} (h1 : o.map f = some a) (h2 : o.map g = some b) (h3 : o.map h = some c) (h4 : o.map u = some d) (h5 : o.map v = some e) : o.map (fun x => (f x, g x, h x, u x, v x)) = some (a, b, c, d, e) := by
  cases o with
  | none => cases h1
  | some x =>
    cases h1
    cases h2
    cases h3
    cases h4
    cases h5
    rfl
end HF
namespace HM
open PySem PySem.W PySem.Calls PyProof.Rows
abbrev R : OpenRow := OpenLaw.row PySem.Challenge.rw_echelon_k67_refused_operators
abbrev qv : Program := view R.prog [0, 184]
def names0 : List PySem.Str := [PySem.Str.ofString "__name__", PySem.Str.ofString "common", PySem.Str.ofString "is_prime", PySem.Str.ofString "next_prime", PySem.Str.ofString "fraction", PySem.Str.ofString "root", PySem.Str.ofString "symmetric", PySem.Str.ofString "SHORT", PySem.Str.ofString "trimmed", PySem.Str.ofString "cleared", PySem.Str.ofString "restored", PySem.Str.ofString "convolved", PySem.Str.ofString "convolved_at_once", PySem.Str.ofString "value_at_power", PySem.Str.ofString "divided", PySem.Str.ofString "divided_residues"]
def names1 : List PySem.Str := [PySem.Str.ofString "divided_integers", PySem.Str.ofString "lowered", PySem.Str.ofString "without_content", PySem.Str.ofString "bezout", PySem.Str.ofString "euclid", PySem.Str.ofString "EchelonError", PySem.Str.ofString "DomainError", PySem.Str.ofString "ShapeError", PySem.Str.ofString "SingularError", PySem.Str.ofString "LARGEST_MODULUS", PySem.Str.ofString "is_whole", PySem.Str.ofString "is_field", PySem.Str.ofString "is_euclidean", PySem.Str.ofString "is_domain", PySem.Str.ofString "need_domain", PySem.Str.ofString "need_field"]
def names2 : List PySem.Str := [PySem.Str.ofString "need_euclidean", PySem.Str.ofString "zero", PySem.Str.ofString "one", PySem.Str.ofString "add", PySem.Str.ofString "sum_of_polynomials", PySem.Str.ofString "polynomial", PySem.Str.ofString "negate", PySem.Str.ofString "multiply", PySem.Str.ofString "scaled_by_constant", PySem.Str.ofString "divide", PySem.Str.ofString "greatest", PySem.Str.ofString "EXPONENTS", PySem.Str.ofString "exact", PySem.Str.ofString "exact_integers", PySem.Str.ofString "shared", PySem.Str.ofString "shared_residues"]
def names3 : List PySem.Str := [PySem.Str.ofString "shared_integers", PySem.Str.ofString "shared_by_prime", PySem.Str.ofString "cleared_row", PySem.Str.ofString "cleared_rows", PySem.Str.ofString "product_of", PySem.Str.ofString "restored_entry", PySem.Str.ofString "restored_row", PySem.Str.ofString "dot", PySem.Str.ofString "dot_of_lists", PySem.Str.ofString "exact_entry", PySem.Str.ofString "one_entry", PySem.Str.ofString "zero_entry", PySem.Str.ofString "opposite", PySem.Str.ofString "determinant_of_rows", PySem.Str.ofString "first_row", PySem.Str.ofString "cleaned"]
def names4 : List PySem.Str := [PySem.Str.ofString "exchange", PySem.Str.ofString "eliminated", PySem.Str.ofString "identity", PySem.Str.ofString "zero_matrix", PySem.Str.ofString "need_square", PySem.Str.ofString "need_length", PySem.Str.ofString "times", PySem.Str.ofString "transposed", PySem.Str.ofString "applied", PySem.Str.ofString "beside", PySem.Str.ofString "part", PySem.Str.ofString "diagonal", PySem.Str.ofString "LARGE_PRIME", PySem.Str.ofString "characteristic", PySem.Str.ofString "interpolated", PySem.Str.ofString "orbit"]
def names5 : List PySem.Str := [PySem.Str.ofString "annihilator", PySem.Str.ofString "are_independent", PySem.Str.ofString "krylov", PySem.Str.ofString "minimal", PySem.Str.ofString "cyclic_vector", PySem.Str.ofString "generator", PySem.Str.ofString "joined", PySem.Str.ofString "value_at", PySem.Str.ofString "companion", PySem.Str.ofString "reduce", PySem.Str.ofString "echelon_rows", PySem.Str.ofString "kernel", PySem.Str.ofString "extended", PySem.Str.ofString "solve", PySem.Str.ofString "inverted", PySem.Str.ofString "cyclic_parts"]
def names6 : List PySem.Str := [PySem.Str.ofString "rest_of", PySem.Str.ofString "invariant_factors", PySem.Str.ofString "frobenius", PySem.Str.ofString "cyclic_form", PySem.Str.ofString "need_equal_sizes", PySem.Str.ofString "similarity", PySem.Str.ofString "similarity_of", PySem.Str.ofString "difference", PySem.Str.ofString "slope", PySem.Str.ofString "without_squares", PySem.Str.ofString "rational_roots", PySem.Str.ofString "good_prime", PySem.Str.ofString "has_square", PySem.Str.ofString "value", PySem.Str.ofString "lifted_root", PySem.Str.ofString "is_root"]
def names7 : List PySem.Str := [PySem.Str.ofString "remainder", PySem.Str.ofString "powered", PySem.Str.ofString "less", PySem.Str.ofString "of_degree_one", PySem.Str.ofString "equal_parts", PySem.Str.ofString "trial", PySem.Str.ofString "halves", PySem.Str.ofString "order_of", PySem.Str.ofString "trace", PySem.Str.ofString "roots", PySem.Str.ofString "simple_roots", PySem.Str.ofString "linear_parts", PySem.Str.ofString "ascending", PySem.Str.ofString "eigenvalues", PySem.Str.ofString "jordan_block", PySem.Str.ofString "is_split_by"]
def names8 : List PySem.Str := [PySem.Str.ofString "without_root", PySem.Str.ofString "jordan", PySem.Str.ofString "chain", PySem.Str.ofString "unsplit", PySem.Str.ofString "is_diagonal", PySem.Str.ofString "_law_start", PySem.Str.ofString "_law_fill", PySem.Str.ofString "_law_take", PySem.Str.ofString "_law_raised", PySem.Str.ofString "_law_common", PySem.Str.ofString "_law_fraction", PySem.Str.ofString "_law_zero", PySem.Str.ofString "_law_strip", PySem.Str.ofString "_law_number", PySem.Str.ofString "_law_part", PySem.Str.ofString "_law_add"]
def names9 : List PySem.Str := [PySem.Str.ofString "_law_multiply", PySem.Str.ofString "_law_subtract", PySem.Str.ofString "_law_power", PySem.Str.ofString "_law_inverse", PySem.Str.ofString "_law_some_prime", PySem.Str.ofString "_law_field", PySem.Str.ofString "_law_domain", PySem.Str.ofString "_law_integer", PySem.Str.ofString "_law_element", PySem.Str.ofString "_law_small", PySem.Str.ofString "_law_matrix", PySem.Str.ofString "_law_dot", PySem.Str.ofString "_law_column", PySem.Str.ofString "_law_product", PySem.Str.ofString "_law_identity", PySem.Str.ofString "_law_shape"]
def names10 : List PySem.Str := [PySem.Str.ofString "_law_low", PySem.Str.ofString "_law_called", PySem.Str.ofString "_law_class", PySem.Str.ofString "_law_all", PySem.Str.ofString "_law_no_domain", PySem.Str.ofString "_law_single", PySem.Str.ofString "_law_double"]
def names : List PySem.Str := names0 ++ (names1 ++ (names2 ++ (names3 ++ (names4 ++ (names5 ++ (names6 ++ (names7 ++ (names8 ++ (names9 ++ (names10))))))))))
abbrev t1 : Stmt := PySem.Challenge.pw_echelon_k67_refused_operators.main.body.getD 3 (.Pass ⟨0, 0, 0, 0⟩)
def d1 : He.FnD := ⟨(PySem.Str.ofString "is_prime", none), PySem.Str.ofString "is_prime", PySem.Str.ofString "is_prime", L2.defArgs t1, L2.defBody t1, L2.defScope t1⟩
abbrev t4 : Stmt := PySem.Challenge.pw_echelon_k67_refused_operators.main.body.getD 6 (.Pass ⟨0, 0, 0, 0⟩)
def d4 : He.FnD := ⟨(PySem.Str.ofString "root", none), PySem.Str.ofString "root", PySem.Str.ofString "root", L2.defArgs t4, L2.defBody t4, L2.defScope t4⟩
abbrev t19 : Stmt := PySem.Challenge.pw_echelon_k67_refused_operators.main.body.getD 30 (.Pass ⟨0, 0, 0, 0⟩)
def d19 : He.FnD := ⟨(PySem.Str.ofString "is_whole", none), PySem.Str.ofString "is_whole", PySem.Str.ofString "is_whole", L2.defArgs t19, L2.defBody t19, L2.defScope t19⟩
abbrev t20 : Stmt := PySem.Challenge.pw_echelon_k67_refused_operators.main.body.getD 31 (.Pass ⟨0, 0, 0, 0⟩)
def d20 : He.FnD := ⟨(PySem.Str.ofString "is_field", none), PySem.Str.ofString "is_field", PySem.Str.ofString "is_field", L2.defArgs t20, L2.defBody t20, L2.defScope t20⟩
abbrev t24 : Stmt := PySem.Challenge.pw_echelon_k67_refused_operators.main.body.getD 35 (.Pass ⟨0, 0, 0, 0⟩)
def d24 : He.FnD := ⟨(PySem.Str.ofString "need_field", none), PySem.Str.ofString "need_field", PySem.Str.ofString "need_field", L2.defArgs t24, L2.defBody t24, L2.defScope t24⟩
abbrev t60 : Stmt := PySem.Challenge.pw_echelon_k67_refused_operators.main.body.getD 76 (.Pass ⟨0, 0, 0, 0⟩)
def d60 : He.FnD := ⟨(PySem.Str.ofString "need_square", none), PySem.Str.ofString "need_square", PySem.Str.ofString "need_square", L2.defArgs t60, L2.defBody t60, L2.defScope t60⟩
abbrev t61 : Stmt := PySem.Challenge.pw_echelon_k67_refused_operators.main.body.getD 77 (.Pass ⟨0, 0, 0, 0⟩)
def d61 : He.FnD := ⟨(PySem.Str.ofString "need_length", none), PySem.Str.ofString "need_length", PySem.Str.ofString "need_length", L2.defArgs t61, L2.defBody t61, L2.defScope t61⟩
abbrev t68 : Stmt := PySem.Challenge.pw_echelon_k67_refused_operators.main.body.getD 86 (.Pass ⟨0, 0, 0, 0⟩)
def d68 : He.FnD := ⟨(PySem.Str.ofString "characteristic", none), PySem.Str.ofString "characteristic", PySem.Str.ofString "characteristic", L2.defArgs t68, L2.defBody t68, L2.defScope t68⟩
abbrev t71 : Stmt := PySem.Challenge.pw_echelon_k67_refused_operators.main.body.getD 89 (.Pass ⟨0, 0, 0, 0⟩)
def d71 : He.FnD := ⟨(PySem.Str.ofString "annihilator", none), PySem.Str.ofString "annihilator", PySem.Str.ofString "annihilator", L2.defArgs t71, L2.defBody t71, L2.defScope t71⟩
abbrev t73 : Stmt := PySem.Challenge.pw_echelon_k67_refused_operators.main.body.getD 91 (.Pass ⟨0, 0, 0, 0⟩)
def d73 : He.FnD := ⟨(PySem.Str.ofString "krylov", none), PySem.Str.ofString "krylov", PySem.Str.ofString "krylov", L2.defArgs t73, L2.defBody t73, L2.defScope t73⟩
abbrev t74 : Stmt := PySem.Challenge.pw_echelon_k67_refused_operators.main.body.getD 92 (.Pass ⟨0, 0, 0, 0⟩)
def d74 : He.FnD := ⟨(PySem.Str.ofString "minimal", none), PySem.Str.ofString "minimal", PySem.Str.ofString "minimal", L2.defArgs t74, L2.defBody t74, L2.defScope t74⟩
abbrev t75 : Stmt := PySem.Challenge.pw_echelon_k67_refused_operators.main.body.getD 93 (.Pass ⟨0, 0, 0, 0⟩)
def d75 : He.FnD := ⟨(PySem.Str.ofString "cyclic_vector", none), PySem.Str.ofString "cyclic_vector", PySem.Str.ofString "cyclic_vector", L2.defArgs t75, L2.defBody t75, L2.defScope t75⟩
abbrev t76 : Stmt := PySem.Challenge.pw_echelon_k67_refused_operators.main.body.getD 94 (.Pass ⟨0, 0, 0, 0⟩)
def d76 : He.FnD := ⟨(PySem.Str.ofString "generator", none), PySem.Str.ofString "generator", PySem.Str.ofString "generator", L2.defArgs t76, L2.defBody t76, L2.defScope t76⟩
abbrev t79 : Stmt := PySem.Challenge.pw_echelon_k67_refused_operators.main.body.getD 97 (.Pass ⟨0, 0, 0, 0⟩)
def d79 : He.FnD := ⟨(PySem.Str.ofString "companion", none), PySem.Str.ofString "companion", PySem.Str.ofString "companion", L2.defArgs t79, L2.defBody t79, L2.defScope t79⟩
abbrev t88 : Stmt := PySem.Challenge.pw_echelon_k67_refused_operators.main.body.getD 108 (.Pass ⟨0, 0, 0, 0⟩)
def d88 : He.FnD := ⟨(PySem.Str.ofString "invariant_factors", none), PySem.Str.ofString "invariant_factors", PySem.Str.ofString "invariant_factors", L2.defArgs t88, L2.defBody t88, L2.defScope t88⟩
abbrev t89 : Stmt := PySem.Challenge.pw_echelon_k67_refused_operators.main.body.getD 109 (.Pass ⟨0, 0, 0, 0⟩)
def d89 : He.FnD := ⟨(PySem.Str.ofString "frobenius", none), PySem.Str.ofString "frobenius", PySem.Str.ofString "frobenius", L2.defArgs t89, L2.defBody t89, L2.defScope t89⟩
abbrev t90 : Stmt := PySem.Challenge.pw_echelon_k67_refused_operators.main.body.getD 110 (.Pass ⟨0, 0, 0, 0⟩)
def d90 : He.FnD := ⟨(PySem.Str.ofString "cyclic_form", none), PySem.Str.ofString "cyclic_form", PySem.Str.ofString "cyclic_form", L2.defArgs t90, L2.defBody t90, L2.defScope t90⟩
abbrev t91 : Stmt := PySem.Challenge.pw_echelon_k67_refused_operators.main.body.getD 111 (.Pass ⟨0, 0, 0, 0⟩)
def d91 : He.FnD := ⟨(PySem.Str.ofString "need_equal_sizes", none), PySem.Str.ofString "need_equal_sizes", PySem.Str.ofString "need_equal_sizes", L2.defArgs t91, L2.defBody t91, L2.defScope t91⟩
abbrev t92 : Stmt := PySem.Challenge.pw_echelon_k67_refused_operators.main.body.getD 112 (.Pass ⟨0, 0, 0, 0⟩)
def d92 : He.FnD := ⟨(PySem.Str.ofString "similarity", none), PySem.Str.ofString "similarity", PySem.Str.ofString "similarity", L2.defArgs t92, L2.defBody t92, L2.defScope t92⟩
abbrev t94 : Stmt := PySem.Challenge.pw_echelon_k67_refused_operators.main.body.getD 114 (.Pass ⟨0, 0, 0, 0⟩)
def d94 : He.FnD := ⟨(PySem.Str.ofString "difference", none), PySem.Str.ofString "difference", PySem.Str.ofString "difference", L2.defArgs t94, L2.defBody t94, L2.defScope t94⟩
abbrev t112 : Stmt := PySem.Challenge.pw_echelon_k67_refused_operators.main.body.getD 136 (.Pass ⟨0, 0, 0, 0⟩)
def d112 : He.FnD := ⟨(PySem.Str.ofString "roots", none), PySem.Str.ofString "roots", PySem.Str.ofString "roots", L2.defArgs t112, L2.defBody t112, L2.defScope t112⟩
abbrev t116 : Stmt := PySem.Challenge.pw_echelon_k67_refused_operators.main.body.getD 141 (.Pass ⟨0, 0, 0, 0⟩)
def d116 : He.FnD := ⟨(PySem.Str.ofString "eigenvalues", none), PySem.Str.ofString "eigenvalues", PySem.Str.ofString "eigenvalues", L2.defArgs t116, L2.defBody t116, L2.defScope t116⟩
abbrev t117 : Stmt := PySem.Challenge.pw_echelon_k67_refused_operators.main.body.getD 142 (.Pass ⟨0, 0, 0, 0⟩)
def d117 : He.FnD := ⟨(PySem.Str.ofString "jordan_block", none), PySem.Str.ofString "jordan_block", PySem.Str.ofString "jordan_block", L2.defArgs t117, L2.defBody t117, L2.defScope t117⟩
abbrev t120 : Stmt := PySem.Challenge.pw_echelon_k67_refused_operators.main.body.getD 145 (.Pass ⟨0, 0, 0, 0⟩)
def d120 : He.FnD := ⟨(PySem.Str.ofString "jordan", none), PySem.Str.ofString "jordan", PySem.Str.ofString "jordan", L2.defArgs t120, L2.defBody t120, L2.defScope t120⟩
abbrev t122 : Stmt := PySem.Challenge.pw_echelon_k67_refused_operators.main.body.getD 147 (.Pass ⟨0, 0, 0, 0⟩)
def d122 : He.FnD := ⟨(PySem.Str.ofString "unsplit", none), PySem.Str.ofString "unsplit", PySem.Str.ofString "unsplit", L2.defArgs t122, L2.defBody t122, L2.defScope t122⟩
abbrev t123 : Stmt := PySem.Challenge.pw_echelon_k67_refused_operators.main.body.getD 148 (.Pass ⟨0, 0, 0, 0⟩)
def d123 : He.FnD := ⟨(PySem.Str.ofString "is_diagonal", none), PySem.Str.ofString "is_diagonal", PySem.Str.ofString "is_diagonal", L2.defArgs t123, L2.defBody t123, L2.defScope t123⟩
abbrev t124 : Stmt := PySem.Challenge.pw_echelon_k67_refused_operators.main.body.getD 150 (.Pass ⟨0, 0, 0, 0⟩)
def d124 : He.FnD := ⟨(PySem.Str.ofString "_law_start", none), PySem.Str.ofString "_law_start", PySem.Str.ofString "_law_start", L2.defArgs t124, L2.defBody t124, L2.defScope t124⟩
abbrev t125 : Stmt := PySem.Challenge.pw_echelon_k67_refused_operators.main.body.getD 151 (.Pass ⟨0, 0, 0, 0⟩)
def d125 : He.FnD := ⟨(PySem.Str.ofString "_law_fill", none), PySem.Str.ofString "_law_fill", PySem.Str.ofString "_law_fill", L2.defArgs t125, L2.defBody t125, L2.defScope t125⟩
abbrev t126 : Stmt := PySem.Challenge.pw_echelon_k67_refused_operators.main.body.getD 152 (.Pass ⟨0, 0, 0, 0⟩)
def d126 : He.FnD := ⟨(PySem.Str.ofString "_law_take", none), PySem.Str.ofString "_law_take", PySem.Str.ofString "_law_take", L2.defArgs t126, L2.defBody t126, L2.defScope t126⟩
abbrev t128 : Stmt := PySem.Challenge.pw_echelon_k67_refused_operators.main.body.getD 154 (.Pass ⟨0, 0, 0, 0⟩)
def d128 : He.FnD := ⟨(PySem.Str.ofString "_law_common", none), PySem.Str.ofString "_law_common", PySem.Str.ofString "_law_common", L2.defArgs t128, L2.defBody t128, L2.defScope t128⟩
abbrev t129 : Stmt := PySem.Challenge.pw_echelon_k67_refused_operators.main.body.getD 155 (.Pass ⟨0, 0, 0, 0⟩)
def d129 : He.FnD := ⟨(PySem.Str.ofString "_law_fraction", none), PySem.Str.ofString "_law_fraction", PySem.Str.ofString "_law_fraction", L2.defArgs t129, L2.defBody t129, L2.defScope t129⟩
abbrev t130 : Stmt := PySem.Challenge.pw_echelon_k67_refused_operators.main.body.getD 156 (.Pass ⟨0, 0, 0, 0⟩)
def d130 : He.FnD := ⟨(PySem.Str.ofString "_law_zero", none), PySem.Str.ofString "_law_zero", PySem.Str.ofString "_law_zero", L2.defArgs t130, L2.defBody t130, L2.defScope t130⟩
abbrev t131 : Stmt := PySem.Challenge.pw_echelon_k67_refused_operators.main.body.getD 157 (.Pass ⟨0, 0, 0, 0⟩)
def d131 : He.FnD := ⟨(PySem.Str.ofString "_law_strip", none), PySem.Str.ofString "_law_strip", PySem.Str.ofString "_law_strip", L2.defArgs t131, L2.defBody t131, L2.defScope t131⟩
abbrev t132 : Stmt := PySem.Challenge.pw_echelon_k67_refused_operators.main.body.getD 158 (.Pass ⟨0, 0, 0, 0⟩)
def d132 : He.FnD := ⟨(PySem.Str.ofString "_law_number", none), PySem.Str.ofString "_law_number", PySem.Str.ofString "_law_number", L2.defArgs t132, L2.defBody t132, L2.defScope t132⟩
abbrev t139 : Stmt := PySem.Challenge.pw_echelon_k67_refused_operators.main.body.getD 165 (.Pass ⟨0, 0, 0, 0⟩)
def d139 : He.FnD := ⟨(PySem.Str.ofString "_law_some_prime", none), PySem.Str.ofString "_law_some_prime", PySem.Str.ofString "_law_some_prime", L2.defArgs t139, L2.defBody t139, L2.defScope t139⟩
abbrev t140 : Stmt := PySem.Challenge.pw_echelon_k67_refused_operators.main.body.getD 166 (.Pass ⟨0, 0, 0, 0⟩)
def d140 : He.FnD := ⟨(PySem.Str.ofString "_law_field", none), PySem.Str.ofString "_law_field", PySem.Str.ofString "_law_field", L2.defArgs t140, L2.defBody t140, L2.defScope t140⟩
abbrev t144 : Stmt := PySem.Challenge.pw_echelon_k67_refused_operators.main.body.getD 170 (.Pass ⟨0, 0, 0, 0⟩)
def d144 : He.FnD := ⟨(PySem.Str.ofString "_law_small", none), PySem.Str.ofString "_law_small", PySem.Str.ofString "_law_small", L2.defArgs t144, L2.defBody t144, L2.defScope t144⟩
abbrev t145 : Stmt := PySem.Challenge.pw_echelon_k67_refused_operators.main.body.getD 171 (.Pass ⟨0, 0, 0, 0⟩)
def d145 : He.FnD := ⟨(PySem.Str.ofString "_law_matrix", none), PySem.Str.ofString "_law_matrix", PySem.Str.ofString "_law_matrix", L2.defArgs t145, L2.defBody t145, L2.defScope t145⟩
abbrev t152 : Stmt := PySem.Challenge.pw_echelon_k67_refused_operators.main.body.getD 178 (.Pass ⟨0, 0, 0, 0⟩)
def d152 : He.FnD := ⟨(PySem.Str.ofString "_law_called", none), PySem.Str.ofString "_law_called", PySem.Str.ofString "_law_called", L2.defArgs t152, L2.defBody t152, L2.defScope t152⟩
abbrev t153 : Stmt := PySem.Challenge.pw_echelon_k67_refused_operators.main.body.getD 179 (.Pass ⟨0, 0, 0, 0⟩)
def d153 : He.FnD := ⟨(PySem.Str.ofString "_law_class", none), PySem.Str.ofString "_law_class", PySem.Str.ofString "_law_class", L2.defArgs t153, L2.defBody t153, L2.defScope t153⟩
abbrev t154 : Stmt := PySem.Challenge.pw_echelon_k67_refused_operators.main.body.getD 180 (.Pass ⟨0, 0, 0, 0⟩)
def d154 : He.FnD := ⟨(PySem.Str.ofString "_law_all", none), PySem.Str.ofString "_law_all", PySem.Str.ofString "_law_all", L2.defArgs t154, L2.defBody t154, L2.defScope t154⟩
abbrev t155 : Stmt := PySem.Challenge.pw_echelon_k67_refused_operators.main.body.getD 181 (.Pass ⟨0, 0, 0, 0⟩)
def d155 : He.FnD := ⟨(PySem.Str.ofString "_law_no_domain", none), PySem.Str.ofString "_law_no_domain", PySem.Str.ofString "_law_no_domain", L2.defArgs t155, L2.defBody t155, L2.defScope t155⟩
abbrev t156 : Stmt := PySem.Challenge.pw_echelon_k67_refused_operators.main.body.getD 182 (.Pass ⟨0, 0, 0, 0⟩)
def d156 : He.FnD := ⟨(PySem.Str.ofString "_law_single", none), PySem.Str.ofString "_law_single", PySem.Str.ofString "_law_single", L2.defArgs t156, L2.defBody t156, L2.defScope t156⟩
abbrev t157 : Stmt := PySem.Challenge.pw_echelon_k67_refused_operators.main.body.getD 183 (.Pass ⟨0, 0, 0, 0⟩)
def d157 : He.FnD := ⟨(PySem.Str.ofString "_law_double", none), PySem.Str.ofString "_law_double", PySem.Str.ofString "_law_double", L2.defArgs t157, L2.defBody t157, L2.defScope t157⟩
abbrev t158 : Stmt := PySem.Challenge.pw_echelon_k67_refused_operators.main.body.getD 184 (.Pass ⟨0, 0, 0, 0⟩)
def d158 : He.FnD := ⟨(PySem.Str.ofString "law", none), PySem.Str.ofString "law", PySem.Str.ofString "law", L2.defArgs t158, L2.defBody t158, L2.defScope t158⟩
def fns0 : List He.FnD := [d1, d4, d19, d20, d24, d60, d61, d68, d71, d73, d74, d75, d76, d79, d88, d89]
def fns1 : List He.FnD := [d90, d91, d92, d94, d112, d116, d117, d120, d122, d123, d124, d125, d126, d128, d129, d130]
def fns2 : List He.FnD := [d131, d132, d139, d140, d144, d145, d152, d153, d154, d155, d156, d157, d158]
def fns : List He.FnD := fns0 ++ (fns1 ++ (fns2))
def fas0 : List He.Fa := [.glo (PySem.Str.ofString "is_prime"), .code ((PySem.Str.ofString "is_prime"), none) (PySem.Str.ofString "is_prime"), .keep (PySem.Str.ofString "is_prime"), .glo (PySem.Str.ofString "root"), .code ((PySem.Str.ofString "root"), none) (PySem.Str.ofString "root"), .keep (PySem.Str.ofString "root"), .glo (PySem.Str.ofString "is_whole"), .code ((PySem.Str.ofString "is_whole"), none) (PySem.Str.ofString "is_whole"), .keep (PySem.Str.ofString "is_whole"), .glo (PySem.Str.ofString "is_field"), .code ((PySem.Str.ofString "is_field"), none) (PySem.Str.ofString "is_field"), .keep (PySem.Str.ofString "is_field"), .glo (PySem.Str.ofString "need_field"), .code ((PySem.Str.ofString "need_field"), none) (PySem.Str.ofString "need_field"), .keep (PySem.Str.ofString "need_field"), .glo (PySem.Str.ofString "need_square")]
def fas1 : List He.Fa := [.code ((PySem.Str.ofString "need_square"), none) (PySem.Str.ofString "need_square"), .keep (PySem.Str.ofString "need_square"), .glo (PySem.Str.ofString "need_length"), .code ((PySem.Str.ofString "need_length"), none) (PySem.Str.ofString "need_length"), .keep (PySem.Str.ofString "need_length"), .glo (PySem.Str.ofString "characteristic"), .code ((PySem.Str.ofString "characteristic"), none) (PySem.Str.ofString "characteristic"), .keep (PySem.Str.ofString "characteristic"), .glo (PySem.Str.ofString "annihilator"), .code ((PySem.Str.ofString "annihilator"), none) (PySem.Str.ofString "annihilator"), .keep (PySem.Str.ofString "annihilator"), .glo (PySem.Str.ofString "krylov"), .code ((PySem.Str.ofString "krylov"), none) (PySem.Str.ofString "krylov"), .keep (PySem.Str.ofString "krylov"), .glo (PySem.Str.ofString "minimal"), .code ((PySem.Str.ofString "minimal"), none) (PySem.Str.ofString "minimal")]
def fas2 : List He.Fa := [.keep (PySem.Str.ofString "minimal"), .glo (PySem.Str.ofString "cyclic_vector"), .code ((PySem.Str.ofString "cyclic_vector"), none) (PySem.Str.ofString "cyclic_vector"), .keep (PySem.Str.ofString "cyclic_vector"), .glo (PySem.Str.ofString "generator"), .code ((PySem.Str.ofString "generator"), none) (PySem.Str.ofString "generator"), .keep (PySem.Str.ofString "generator"), .glo (PySem.Str.ofString "companion"), .code ((PySem.Str.ofString "companion"), none) (PySem.Str.ofString "companion"), .keep (PySem.Str.ofString "companion"), .glo (PySem.Str.ofString "invariant_factors"), .code ((PySem.Str.ofString "invariant_factors"), none) (PySem.Str.ofString "invariant_factors"), .keep (PySem.Str.ofString "invariant_factors"), .glo (PySem.Str.ofString "frobenius"), .code ((PySem.Str.ofString "frobenius"), none) (PySem.Str.ofString "frobenius"), .keep (PySem.Str.ofString "frobenius")]
def fas3 : List He.Fa := [.glo (PySem.Str.ofString "cyclic_form"), .code ((PySem.Str.ofString "cyclic_form"), none) (PySem.Str.ofString "cyclic_form"), .keep (PySem.Str.ofString "cyclic_form"), .glo (PySem.Str.ofString "need_equal_sizes"), .code ((PySem.Str.ofString "need_equal_sizes"), none) (PySem.Str.ofString "need_equal_sizes"), .keep (PySem.Str.ofString "need_equal_sizes"), .glo (PySem.Str.ofString "similarity"), .code ((PySem.Str.ofString "similarity"), none) (PySem.Str.ofString "similarity"), .keep (PySem.Str.ofString "similarity"), .glo (PySem.Str.ofString "difference"), .code ((PySem.Str.ofString "difference"), none) (PySem.Str.ofString "difference"), .keep (PySem.Str.ofString "difference"), .glo (PySem.Str.ofString "roots"), .code ((PySem.Str.ofString "roots"), none) (PySem.Str.ofString "roots"), .keep (PySem.Str.ofString "roots"), .glo (PySem.Str.ofString "eigenvalues")]
def fas4 : List He.Fa := [.code ((PySem.Str.ofString "eigenvalues"), none) (PySem.Str.ofString "eigenvalues"), .keep (PySem.Str.ofString "eigenvalues"), .glo (PySem.Str.ofString "jordan_block"), .code ((PySem.Str.ofString "jordan_block"), none) (PySem.Str.ofString "jordan_block"), .keep (PySem.Str.ofString "jordan_block"), .glo (PySem.Str.ofString "jordan"), .code ((PySem.Str.ofString "jordan"), none) (PySem.Str.ofString "jordan"), .keep (PySem.Str.ofString "jordan"), .glo (PySem.Str.ofString "unsplit"), .code ((PySem.Str.ofString "unsplit"), none) (PySem.Str.ofString "unsplit"), .keep (PySem.Str.ofString "unsplit"), .glo (PySem.Str.ofString "is_diagonal"), .code ((PySem.Str.ofString "is_diagonal"), none) (PySem.Str.ofString "is_diagonal"), .keep (PySem.Str.ofString "is_diagonal"), .glo (PySem.Str.ofString "_law_start"), .code ((PySem.Str.ofString "_law_start"), none) (PySem.Str.ofString "_law_start")]
def fas5 : List He.Fa := [.keep (PySem.Str.ofString "_law_start"), .glo (PySem.Str.ofString "_law_fill"), .code ((PySem.Str.ofString "_law_fill"), none) (PySem.Str.ofString "_law_fill"), .keep (PySem.Str.ofString "_law_fill"), .glo (PySem.Str.ofString "_law_take"), .code ((PySem.Str.ofString "_law_take"), none) (PySem.Str.ofString "_law_take"), .keep (PySem.Str.ofString "_law_take"), .glo (PySem.Str.ofString "_law_common"), .code ((PySem.Str.ofString "_law_common"), none) (PySem.Str.ofString "_law_common"), .keep (PySem.Str.ofString "_law_common"), .glo (PySem.Str.ofString "_law_fraction"), .code ((PySem.Str.ofString "_law_fraction"), none) (PySem.Str.ofString "_law_fraction"), .keep (PySem.Str.ofString "_law_fraction"), .glo (PySem.Str.ofString "_law_zero"), .code ((PySem.Str.ofString "_law_zero"), none) (PySem.Str.ofString "_law_zero"), .keep (PySem.Str.ofString "_law_zero")]
def fas6 : List He.Fa := [.glo (PySem.Str.ofString "_law_strip"), .code ((PySem.Str.ofString "_law_strip"), none) (PySem.Str.ofString "_law_strip"), .keep (PySem.Str.ofString "_law_strip"), .glo (PySem.Str.ofString "_law_number"), .code ((PySem.Str.ofString "_law_number"), none) (PySem.Str.ofString "_law_number"), .keep (PySem.Str.ofString "_law_number"), .glo (PySem.Str.ofString "_law_some_prime"), .code ((PySem.Str.ofString "_law_some_prime"), none) (PySem.Str.ofString "_law_some_prime"), .keep (PySem.Str.ofString "_law_some_prime"), .glo (PySem.Str.ofString "_law_field"), .code ((PySem.Str.ofString "_law_field"), none) (PySem.Str.ofString "_law_field"), .keep (PySem.Str.ofString "_law_field"), .glo (PySem.Str.ofString "_law_small"), .code ((PySem.Str.ofString "_law_small"), none) (PySem.Str.ofString "_law_small"), .keep (PySem.Str.ofString "_law_small"), .glo (PySem.Str.ofString "_law_matrix")]
def fas7 : List He.Fa := [.code ((PySem.Str.ofString "_law_matrix"), none) (PySem.Str.ofString "_law_matrix"), .keep (PySem.Str.ofString "_law_matrix"), .glo (PySem.Str.ofString "_law_called"), .code ((PySem.Str.ofString "_law_called"), none) (PySem.Str.ofString "_law_called"), .keep (PySem.Str.ofString "_law_called"), .glo (PySem.Str.ofString "_law_class"), .code ((PySem.Str.ofString "_law_class"), none) (PySem.Str.ofString "_law_class"), .keep (PySem.Str.ofString "_law_class"), .glo (PySem.Str.ofString "_law_all"), .code ((PySem.Str.ofString "_law_all"), none) (PySem.Str.ofString "_law_all"), .keep (PySem.Str.ofString "_law_all"), .glo (PySem.Str.ofString "_law_no_domain"), .code ((PySem.Str.ofString "_law_no_domain"), none) (PySem.Str.ofString "_law_no_domain"), .keep (PySem.Str.ofString "_law_no_domain"), .glo (PySem.Str.ofString "_law_single"), .code ((PySem.Str.ofString "_law_single"), none) (PySem.Str.ofString "_law_single")]
def fas8 : List He.Fa := [.keep (PySem.Str.ofString "_law_single"), .glo (PySem.Str.ofString "_law_double"), .code ((PySem.Str.ofString "_law_double"), none) (PySem.Str.ofString "_law_double"), .keep (PySem.Str.ofString "_law_double"), .glo (PySem.Str.ofString "law"), .code ((PySem.Str.ofString "law"), none) (PySem.Str.ofString "law"), .keep (PySem.Str.ofString "law"), .free (PySem.Str.ofString "ValueError"), .free (PySem.Str.ofString "abs"), .free (PySem.Str.ofString "all"), .free (PySem.Str.ofString "any"), .free (PySem.Str.ofString "bool"), .free (PySem.Str.ofString "int"), .free (PySem.Str.ofString "isinstance"), .free (PySem.Str.ofString "len"), .free (PySem.Str.ofString "range")]
def fas9 : List He.Fa := [.free (PySem.Str.ofString "tuple"), .glo (PySem.Str.ofString "EchelonError"), .glo (PySem.Str.ofString "DomainError"), .glo (PySem.Str.ofString "ShapeError"), .glo (PySem.Str.ofString "SingularError"), .int (PySem.Str.ofString "SHORT") 40, .int (PySem.Str.ofString "LARGEST_MODULUS") 65521, .int (PySem.Str.ofString "LARGE_PRIME") 2305843009213693951]
def fas : List He.Fa := fas0 ++ (fas1 ++ (fas2 ++ (fas3 ++ (fas4 ++ (fas5 ++ (fas6 ++ (fas7 ++ (fas8 ++ (fas9)))))))))
def exs0 : List (PySem.W.Frag → Bool) := [fun K => decide (PySem.W.nsIn K mainGlobals (PySem.Str.ofString "isqrt") = some (some (.builtin "math.isqrt"))), fun K => decide (PySem.W.specialIn K (.builtin "object.__class__") "__get__" = some (some (.builtin "getset_descriptor.__get__"))), fun K => decide (PySem.W.takesIn K (.builtin "object.__class__") = some true), fun K => decide (PySem.W.findIn K (.ref (He.ga K (PySem.Str.ofString "EchelonError"))) "__getattribute__" = some (some (.builtin "BaseException.__getattribute__"))), fun K => decide (PySem.W.findIn K (.ref (He.ga K (PySem.Str.ofString "EchelonError"))) "__getattr__" = some none), fun K => decide (PySem.W.subIn K (.ref (He.ga K (PySem.Str.ofString "EchelonError"))) (.type "BaseException") = some true), fun K => decide (PySem.W.hasDictIn K (He.ga K (PySem.Str.ofString "EchelonError")) = true), fun K => decide (PySem.W.findIn K (.ref (He.ga K (PySem.Str.ofString "EchelonError"))) "__class__" = some (some (.builtin "object.__class__")))]
def exs1 : List (PySem.W.Frag → Bool) := [fun K => decide (PySem.W.mroIn K (He.ga K (PySem.Str.ofString "EchelonError")) (.type "object") = some true), fun K => decide (PySem.W.typeIn K (.ref (He.ga K (PySem.Str.ofString "EchelonError"))) = some (.type "type")), fun K => decide (PySem.W.keepIn K (.ref (He.ga K (PySem.Str.ofString "EchelonError"))) = true), fun K => decide (PySem.W.subIn K (.ref (He.ga K (PySem.Str.ofString "EchelonError"))) (.type "ValueError") = some true), fun K => decide (PySem.W.findIn K (.ref (He.ga K (PySem.Str.ofString "DomainError"))) "__getattribute__" = some (some (.builtin "BaseException.__getattribute__"))), fun K => decide (PySem.W.findIn K (.ref (He.ga K (PySem.Str.ofString "DomainError"))) "__getattr__" = some none), fun K => decide (PySem.W.subIn K (.ref (He.ga K (PySem.Str.ofString "DomainError"))) (.type "BaseException") = some true), fun K => decide (PySem.W.hasDictIn K (He.ga K (PySem.Str.ofString "DomainError")) = true)]
def exs2 : List (PySem.W.Frag → Bool) := [fun K => decide (PySem.W.findIn K (.ref (He.ga K (PySem.Str.ofString "DomainError"))) "__class__" = some (some (.builtin "object.__class__"))), fun K => decide (PySem.W.mroIn K (He.ga K (PySem.Str.ofString "DomainError")) (.type "object") = some true), fun K => decide (PySem.W.typeIn K (.ref (He.ga K (PySem.Str.ofString "DomainError"))) = some (.type "type")), fun K => decide (PySem.W.keepIn K (.ref (He.ga K (PySem.Str.ofString "DomainError"))) = true), fun K => decide (PySem.W.subIn K (.ref (He.ga K (PySem.Str.ofString "DomainError"))) (.type "ValueError") = some true), fun K => decide (PySem.W.excIn K (He.ga K (PySem.Str.ofString "DomainError")) [.type "ValueError", .type "Exception", .type "BaseException", .type "object"] "ValueError.__new__" = true), fun K => decide (PySem.W.findIn K (.ref (He.ga K (PySem.Str.ofString "ShapeError"))) "__getattribute__" = some (some (.builtin "BaseException.__getattribute__"))), fun K => decide (PySem.W.findIn K (.ref (He.ga K (PySem.Str.ofString "ShapeError"))) "__getattr__" = some none)]
def exs3 : List (PySem.W.Frag → Bool) := [fun K => decide (PySem.W.subIn K (.ref (He.ga K (PySem.Str.ofString "ShapeError"))) (.type "BaseException") = some true), fun K => decide (PySem.W.hasDictIn K (He.ga K (PySem.Str.ofString "ShapeError")) = true), fun K => decide (PySem.W.findIn K (.ref (He.ga K (PySem.Str.ofString "ShapeError"))) "__class__" = some (some (.builtin "object.__class__"))), fun K => decide (PySem.W.mroIn K (He.ga K (PySem.Str.ofString "ShapeError")) (.type "object") = some true), fun K => decide (PySem.W.typeIn K (.ref (He.ga K (PySem.Str.ofString "ShapeError"))) = some (.type "type")), fun K => decide (PySem.W.keepIn K (.ref (He.ga K (PySem.Str.ofString "ShapeError"))) = true), fun K => decide (PySem.W.subIn K (.ref (He.ga K (PySem.Str.ofString "ShapeError"))) (.type "ValueError") = some true), fun K => decide (PySem.W.excIn K (He.ga K (PySem.Str.ofString "ShapeError")) [.type "ValueError", .type "Exception", .type "BaseException", .type "object"] "ValueError.__new__" = true)]
def exs4 : List (PySem.W.Frag → Bool) := [fun K => decide (PySem.W.findIn K (.ref (He.ga K (PySem.Str.ofString "SingularError"))) "__getattribute__" = some (some (.builtin "BaseException.__getattribute__"))), fun K => decide (PySem.W.findIn K (.ref (He.ga K (PySem.Str.ofString "SingularError"))) "__getattr__" = some none), fun K => decide (PySem.W.subIn K (.ref (He.ga K (PySem.Str.ofString "SingularError"))) (.type "BaseException") = some true), fun K => decide (PySem.W.hasDictIn K (He.ga K (PySem.Str.ofString "SingularError")) = true), fun K => decide (PySem.W.findIn K (.ref (He.ga K (PySem.Str.ofString "SingularError"))) "__class__" = some (some (.builtin "object.__class__"))), fun K => decide (PySem.W.mroIn K (He.ga K (PySem.Str.ofString "SingularError")) (.type "object") = some true), fun K => decide (PySem.W.typeIn K (.ref (He.ga K (PySem.Str.ofString "SingularError"))) = some (.type "type")), fun K => decide (PySem.W.keepIn K (.ref (He.ga K (PySem.Str.ofString "SingularError"))) = true)]
def exs5 : List (PySem.W.Frag → Bool) := [fun K => decide (PySem.W.subIn K (.ref (He.ga K (PySem.Str.ofString "SingularError"))) (.type "ValueError") = some true), fun K => decide (PySem.W.subIn K (.ref (He.ga K (PySem.Str.ofString "EchelonError"))) (.ref (He.ga K (PySem.Str.ofString "EchelonError"))) = some true), fun K => decide (PySem.W.subIn K (.ref (He.ga K (PySem.Str.ofString "EchelonError"))) (.ref (He.ga K (PySem.Str.ofString "DomainError"))) = some false), fun K => decide (PySem.W.subIn K (.ref (He.ga K (PySem.Str.ofString "EchelonError"))) (.ref (He.ga K (PySem.Str.ofString "ShapeError"))) = some false), fun K => decide (PySem.W.subIn K (.ref (He.ga K (PySem.Str.ofString "EchelonError"))) (.ref (He.ga K (PySem.Str.ofString "SingularError"))) = some false), fun K => decide (PySem.W.subIn K (.ref (He.ga K (PySem.Str.ofString "DomainError"))) (.ref (He.ga K (PySem.Str.ofString "EchelonError"))) = some true), fun K => decide (PySem.W.subIn K (.ref (He.ga K (PySem.Str.ofString "DomainError"))) (.ref (He.ga K (PySem.Str.ofString "DomainError"))) = some true), fun K => decide (PySem.W.subIn K (.ref (He.ga K (PySem.Str.ofString "DomainError"))) (.ref (He.ga K (PySem.Str.ofString "ShapeError"))) = some false)]
def exs6 : List (PySem.W.Frag → Bool) := [fun K => decide (PySem.W.subIn K (.ref (He.ga K (PySem.Str.ofString "DomainError"))) (.ref (He.ga K (PySem.Str.ofString "SingularError"))) = some false), fun K => decide (PySem.W.subIn K (.ref (He.ga K (PySem.Str.ofString "ShapeError"))) (.ref (He.ga K (PySem.Str.ofString "EchelonError"))) = some true), fun K => decide (PySem.W.subIn K (.ref (He.ga K (PySem.Str.ofString "ShapeError"))) (.ref (He.ga K (PySem.Str.ofString "DomainError"))) = some false), fun K => decide (PySem.W.subIn K (.ref (He.ga K (PySem.Str.ofString "ShapeError"))) (.ref (He.ga K (PySem.Str.ofString "ShapeError"))) = some true), fun K => decide (PySem.W.subIn K (.ref (He.ga K (PySem.Str.ofString "ShapeError"))) (.ref (He.ga K (PySem.Str.ofString "SingularError"))) = some false), fun K => decide (PySem.W.subIn K (.ref (He.ga K (PySem.Str.ofString "SingularError"))) (.ref (He.ga K (PySem.Str.ofString "EchelonError"))) = some true), fun K => decide (PySem.W.subIn K (.ref (He.ga K (PySem.Str.ofString "SingularError"))) (.ref (He.ga K (PySem.Str.ofString "DomainError"))) = some false), fun K => decide (PySem.W.subIn K (.ref (He.ga K (PySem.Str.ofString "SingularError"))) (.ref (He.ga K (PySem.Str.ofString "ShapeError"))) = some false)]
def exs7 : List (PySem.W.Frag → Bool) := [fun K => decide (PySem.W.subIn K (.ref (He.ga K (PySem.Str.ofString "SingularError"))) (.ref (He.ga K (PySem.Str.ofString "SingularError"))) = some true)]
def exs : List (PySem.W.Frag → Bool) := exs0 ++ (exs1 ++ (exs2 ++ (exs3 ++ (exs4 ++ (exs5 ++ (exs6 ++ (exs7)))))))
def ads0 : List Addr := [2, 3, 168, 181, 193, 205, 169, 182, 194, 206, 48, 49, 55, 56, 62, 63]
def ads1 : List Addr := [69, 70, 76, 77, 83, 84, 90, 91, 95, 96, 100, 101, 107, 108, 112, 113]
def ads2 : List Addr := [117, 118, 124, 125, 131, 132, 136, 137, 141, 142, 146, 147, 153, 154, 158, 159]
def ads3 : List Addr := [170, 214, 215, 221, 222, 228, 229, 235, 236, 242, 243, 249, 250, 256, 257, 263]
def ads4 : List Addr := [264, 270, 271, 277, 278, 282, 283, 289, 290, 294, 295, 301, 302, 306, 307, 311]
def ads5 : List Addr := [312, 316, 317, 324, 325, 331, 332, 338, 339, 345, 346, 352, 353, 357, 358, 362]
def ads6 : List Addr := [363, 367, 368, 374, 375, 381, 382, 386, 387, 391, 392, 396, 397, 403, 404, 410]
def ads7 : List Addr := [411, 417, 418, 422, 423, 427, 428, 434, 435, 439, 440, 446, 447, 451, 452, 456]
def ads8 : List Addr := [457, 463, 464, 470, 471, 477, 478, 482, 483, 487, 488, 494, 495, 499, 500, 504]
def ads9 : List Addr := [505, 509, 510, 514, 515, 519, 520, 524, 525, 529, 530, 534, 535, 541, 542, 548]
def ads10 : List Addr := [549, 555, 556, 562, 563, 567, 568, 572, 573, 579, 580, 586, 587, 591, 592, 598]
def ads11 : List Addr := [599, 603, 604, 610, 611, 615, 616, 622, 623, 627, 628, 632, 633, 637, 638, 642]
def ads12 : List Addr := [643, 649, 650, 656, 657, 663, 664, 670, 671, 675, 676, 682, 683, 689, 690, 696]
def ads13 : List Addr := [697, 701, 702, 708, 709, 713, 714, 720, 721, 725, 726, 732, 733, 739, 740, 746]
def ads14 : List Addr := [747, 753, 754, 760, 761, 767, 768, 774, 775, 779, 780, 786, 787, 791, 792, 798]
def ads15 : List Addr := [799, 805, 806, 812, 813, 819, 820, 824, 825, 831, 832, 836, 837, 841, 842, 848]
def ads16 : List Addr := [849, 855, 856, 860, 861, 867, 868, 874, 875, 888, 889, 895, 896, 902, 903, 909]
def ads17 : List Addr := [910, 916, 917, 961, 962, 968, 969, 992, 993, 997, 998, 1040, 1041, 1047, 1048, 1052]
def ads18 : List Addr := [1053, 1059, 1060, 1064, 1065, 1071, 1072, 1076, 1077]
def ads : List Addr := ads0 ++ (ads1 ++ (ads2 ++ (ads3 ++ (ads4 ++ (ads5 ++ (ads6 ++ (ads7 ++ (ads8 ++ (ads9 ++ (ads10 ++ (ads11 ++ (ads12 ++ (ads13 ++ (ads14 ++ (ads15 ++ (ads16 ++ (ads17 ++ (ads18))))))))))))))))))
def fx : HF.Fx := ⟨ads, fas, exs, fns⟩
noncomputable abbrev whole (w : World) := HandSHeadRun.wholeF (fun p => HandSHeadRun.stepQ (HandSHeadRun.denQ HandSHeadRun.tabQ) p w) HandSHeadRun.fenceQ 20000 R.prog
theorem runL (w : World) : (whole w).map (fun x => HandSHeadRun.looksF R.prog x.1.heap x.2.abs) = some true := by kernel_rfl
theorem runS (w : World) : (whole w).map (fun x => HandSHeadRun.seenQ qv names (importedModules R.prog.main.body) (fun s => xlAt qv [] s && recOk R.toRowW.records s) x.2.abs) = some (openGood qv names) := by kernel_rfl
theorem runF (w : World) : (whole w).map (fun x => (HF.obA fx (HandSHeadRun.getT x.2), HF.obB fx (HandSHeadRun.getT x.2), HF.obC fx (HandSHeadRun.getT x.2))) = some (true, true, fns.map He.FnD.val) := by kernel_rfl
theorem three {α β γ δ : Type} {o : Option α} {f : α → β} {g : α → γ} {h : α → δ} {a : β} {b : γ} {c : δ} (h1 : o.map f = some a) (h2 : o.map g = some b) (h3 : o.map h = some c) : o.map (fun x => (f x, g x, h x)) = some (a, b, c) := by
  cases o with
  | none => cases h1
  | some x =>
    cases h1
    cases h2
    cases h3
    rfl
def ob (s : SharedT) : Bool × Bool × List He.FnV := (HF.obA fx (HandSHeadRun.getT s), HF.obB fx (HandSHeadRun.getT s), HF.obC fx (HandSHeadRun.getT s))
theorem ho (s : SharedT) : ob s = (HF.hook fx).obs s.abs := by
  have e : HandSHeadRun.getT s = s.abs.heap.get? := funext fun a => HandSHeadRun.getT_eq s a
  unfold ob
  rw [e]
  rfl
theorem run (w : World) : HandSHeadRun.RunEqI R qv (HF.hook fx) ob 20000 names w := three (runL w) (runS w) (runF w)
abbrev dL : DefRec := HandSHeadRun.topDef R.prog 184
theorem h1 : defOf qv R.name = some (dL, []) := by kernel_rfl
theorem h2 : R.prog.theDef R.name = some (dL.params, dL.body, dL.scope) := by kernel_rfl
theorem h3 : kwWritten? dL.params.kwonlyargs dL.params.kw_defaults = some [] := by kernel_rfl
theorem h4 : (!R.writes || R.records.isEmpty) = true := by rfl
theorem h6a : chainsOk qv = true := by decide +kernel
theorem h6b : opensWell R.prog = true := by decide +kernel
theorem h6c : (frees R.toRowW && R.within.isEmpty) = true := by decide +kernel
theorem h6 : (chainsOk qv && opensWell R.prog && (frees R.toRowW && R.within.isEmpty)) = true := by rw [h6a, h6b, h6c]; rfl
theorem h7 : R.prog.bare := ⟨rfl, rfl, rfl, rfl, rfl, by decide +kernel⟩
theorem h8 : dL.name = ("law" : PySem.Str) := by kernel_rfl
theorem h9 : dL.params.defaults = [] := by kernel_rfl
end HM

set_option maxHeartbeats 4000000
namespace DL
open PySem PySem.Spec PyProof.Rows L2

abbrev D := PyData
abbrev Fg := PySem.W.Frag

/-! ## heaps and data -/
open Classical in
noncomputable def hide (hd : Addr → Prop) (H : Hp) : Hp := fun b => if hd b then none else H b
theorem hide_some {hd : Addr → Prop} {H : Hp} {b : Addr} {o : HO} : hide hd H b = some o ↔ ¬ hd b ∧ H b = some o := by
  unfold hide
  by_cases h : hd b
  · rw [if_pos h]; exact ⟨(fun z => nomatch z), (fun z => absurd h z.1)⟩
  · rw [if_neg h]; exact ⟨fun z => ⟨h, z⟩, fun z => z.2⟩
/-- what is visible stays visible -/
theorem hide_same {hd hd' : Addr → Prop} {H H' : Hp} (h : ∀ b o, ¬ hd b → H b = some o → ¬ hd' b ∧ H' b = some o) : Same (hide hd H) (hide hd' H') := fun b o e =>
  hide_some.mpr (h b o (hide_some.mp e).1 (hide_some.mp e).2)
theorem hide_le {hd : Addr → Prop} {H : Hp} : Same (hide hd H) H := fun _ _ e => (hide_some.mp e).2

mutual
/-- v stands for the data d; the token .dict [] is the law's state at lc -/
inductive Dv (K : Fg) (lc : Option Addr) (H : Hp) : V → D → Prop
  | non : Dv K lc H .non .none
  | bl (b : Bool) : Dv K lc H (.bl b) (.bool b)
  | int (i : Int) : Dv K lc H (.int i) (.int i)
  | str (x : Str) : Dv K lc H (.str x) (.str x)
  | lst {a : Addr} {xs : List V} {ds : List D} : H a = some (.lst xs) → DvAll K lc H xs ds → Dv K lc H (.ref a) (.list ds)
  | tup {a : Addr} {xs : List V} {ds : List D} : SqT K H a xs → DvAll K lc H xs ds → Dv K lc H (.ref a) (.tuple ds)
  | tok {a : Addr} : lc = some a → Dv K lc H (.ref a) (.dict [])
  | fn {a : Addr} {x : Str} : PySem.W.nsIn K mainGlobals x = some (some (Value.ref a)) → Dv K lc H (.ref a) (.dict [(.str x, .none)])
inductive DvAll (K : Fg) (lc : Option Addr) (H : Hp) : List V → List D → Prop
  | nil : DvAll K lc H [] []
  | cons {v : V} {vs : List V} {d : D} {ds : List D} : Dv K lc H v d → DvAll K lc H vs ds → DvAll K lc H (v :: vs) (d :: ds)
end
theorem same_t {K : Fg} {H H' : Hp} {a : Addr} {xs : List V} (e : Same H H') (h : SqT K H a xs) : SqT K H' a xs := by
  rcases h with (h | ⟨o, h⟩) | h
  · exact .inl (.inl (e _ _ h))
  · exact .inl (.inr ⟨o, e _ _ h⟩)
  · exact .inr h
section
variable {K : Fg} {lc : Option Addr} {H H' : Hp}
mutual
theorem Dv.mono (e : Same H H') : ∀ {d : D} {v : V}, Dv K lc H v d → Dv K lc H' v d
  | .none, _, h => by cases h; exact .non
  | .bool b, _, h => by cases h; exact .bl b
  | .int b, _, h => by cases h; exact .int b
  | .str b, _, h => by cases h; exact .str b
  | .list ds, _, h => by
    cases h with
    | lst hs ha => exact .lst (e _ _ hs) (DvAll.mono e ha)
  | .tuple ds, _, h => by
    cases h with
    | tup hs ha => exact .tup (same_t e hs) (DvAll.mono e ha)
  | .dict _, _, h => by
    cases h with
    | tok q => exact .tok q
    | fn q => exact .fn q
theorem DvAll.mono (e : Same H H') : ∀ {ds : List D} {vs : List V}, DvAll K lc H vs ds → DvAll K lc H' vs ds
  | [], _, h => by cases h; exact .nil
  | d :: ds, _, h => by
    cases h with
    | cons h1 h2 => exact .cons (Dv.mono e h1) (DvAll.mono e h2)
end
mutual
theorem Dv.dp : ∀ {d : D} {v : V}, d.plain = true → Dv K lc H v d → Dp K H v d
  | .none, _, _, h => by cases h; exact .non
  | .bool b, _, _, h => by cases h; exact .bl b
  | .int b, _, _, h => by cases h; exact .int b
  | .str b, _, _, h => by cases h; exact .str b
  | .list ds, _, p, h => by
    cases h with
    | lst hs ha => exact .lst (.of hs) (DvAll.dp (by simpa [PyData.plain] using p) ha)
  | .tuple ds, _, p, h => by
    cases h with
    | tup hs ha => exact .tup hs (DvAll.dp (by simpa [PyData.plain] using p) ha)
  | .dict _, _, p, h => by simp [PyData.plain] at p
theorem DvAll.dp : ∀ {ds : List D} {vs : List V}, PyData.plainAll ds = true → DvAll K lc H vs ds → DpAll K H vs ds
  | [], _, _, h => by cases h; exact .nil
  | d :: ds, _, p, h => by
    cases h with
    | cons h1 h2 =>
      have q : d.plain = true ∧ PyData.plainAll ds = true := by simpa [PyData.plainAll] using p
      exact .cons (Dv.dp q.1 h1) (DvAll.dp q.2 h2)
end
theorem DvAll.length : ∀ {ds : List D} {vs : List V}, DvAll K lc H vs ds → vs.length = ds.length
  | [], _, h => by cases h; rfl
  | d :: ds, _, h => by
    cases h with
    | cons h1 h2 => rw [List.length_cons, List.length_cons, DvAll.length h2]
theorem DvAll.app : ∀ {ds es : List D} {vs ws : List V}, DvAll K lc H vs ds → DvAll K lc H ws es → DvAll K lc H (vs ++ ws) (ds ++ es)
  | [], _, _, _, h, k => by cases h; exact k
  | d :: ds, _, _, _, h, k => by
    cases h with
    | cons h1 h2 => exact .cons h1 (DvAll.app h2 k)
theorem DvAll.split : ∀ {ds es : List D} {vs ws : List V}, vs.length = ds.length → DvAll K lc H (vs ++ ws) (ds ++ es) → DvAll K lc H vs ds ∧ DvAll K lc H ws es
  | [], _, [], _, _, h => ⟨.nil, h⟩
  | d :: ds, _, v :: vs, _, hl, h => by
    cases h with
    | cons h1 h2 =>
      obtain ⟨q1, q2⟩ := DvAll.split (by simpa using hl) h2
      exact ⟨.cons h1 q1, q2⟩
theorem DvAll.get : ∀ {ds : List D} {vs : List V} {i : Nat} {d : D}, DvAll K lc H vs ds → ds[i]? = some d → ∃ v, vs[i]? = some v ∧ Dv K lc H v d
  | [], _, _, _, _, e => by simp at e
  | c :: ds, _, 0, d, h, e => by
    cases h with
    | cons h1 h2 =>
      have : c = d := by simpa using e
      subst this
      exact ⟨_, rfl, h1⟩
  | c :: ds, _, i + 1, d, h, e => by
    cases h with
    | cons h1 h2 =>
      rw [List.getElem?_cons_succ] at e ⊢
      exact DvAll.get h2 e
theorem DvAll.getv : ∀ {ds : List D} {vs : List V} {i : Nat} {v : V}, DvAll K lc H vs ds → vs[i]? = some v → ∃ d, ds[i]? = some d ∧ Dv K lc H v d
  | [], _, _, _, h, e => by cases h; simp at e
  | c :: ds, _, 0, d, h, e => by
    cases h with
    | cons h1 h2 =>
      have := Option.some.inj e
      subst this
      exact ⟨_, rfl, h1⟩
  | c :: ds, _, i + 1, d, h, e => by
    cases h with
    | cons h1 h2 =>
      rw [List.getElem?_cons_succ] at e ⊢
      exact DvAll.getv h2 e
theorem DvAll.take (n : Nat) : ∀ {ds : List D} {vs : List V}, DvAll K lc H vs ds → DvAll K lc H (vs.take n) (ds.take n) := by
  induction n with
  | zero => intro ds vs _; exact .nil
  | succ n ih =>
    intro ds vs h
    cases h with
    | nil => exact .nil
    | cons h1 h2 => exact .cons h1 (ih h2)
theorem DvAll.drop (n : Nat) : ∀ {ds : List D} {vs : List V}, DvAll K lc H vs ds → DvAll K lc H (vs.drop n) (ds.drop n) := by
  induction n with
  | zero => intro ds vs h; exact h
  | succ n ih =>
    intro ds vs h
    cases h with
    | nil => exact .nil
    | cons h1 h2 => exact ih h2
theorem DvAll.set {v : V} {d : D} (r : Dv K lc H v d) : ∀ {ds : List D} {vs : List V} (i : Nat), DvAll K lc H vs ds → DvAll K lc H (vs.set i v) (ds.set i d)
  | [], _, _, h => by cases h; exact .nil
  | c :: ds, _, 0, h => by
    cases h with
    | cons h1 h2 => exact .cons r h2
  | c :: ds, _, i + 1, h => by
    cases h with
    | cons h1 h2 => exact .cons h1 (DvAll.set r i h2)
theorem DvAll.dropLast : ∀ {ds : List D} {vs : List V}, DvAll K lc H vs ds → DvAll K lc H vs.dropLast ds.dropLast := by
  intro ds vs h
  rw [List.dropLast_eq_take, List.dropLast_eq_take, h.length]
  exact h.take _
theorem DvAll.isEmpty {ds : List D} {vs : List V} (h : DvAll K lc H vs ds) : vs.isEmpty = ds.isEmpty := by
  cases h <;> rfl
end

/-! ## the law's own state: [cells, place, digits, count] at one address -/
def Cst (K : Fg) (hd : Addr → Prop) (H : Hp) (b : Addr) : Prop := ∃ (p : Addr) (ns : List Int) (pos dig cnt : Int), H b = some (.lst [.ref p, .int pos, .int dig, .int cnt]) ∧ SqL K H p (ns.map V.int) ∧ p ≠ b ∧ 0 ≤ pos ∧ ns.length ≤ 63 ∧ hd p
def Evo (lc : Option Addr) (H H' : Hp) : Prop := ∀ b o, lc ≠ some b → H b = some o → H' b = some o
def Cok (K : Fg) (lc : Option Addr) (hd : Addr → Prop) (H : Hp) : Prop := ∀ b, lc = some b → Cst K hd H b ∧ hd b
theorem Evo.refl {lc : Option Addr} (H : Hp) : Evo lc H H := fun _ _ _ h => h
theorem Evo.trans {lc : Option Addr} {H H1 H2 : Hp} (a : Evo lc H H1) (b : Evo lc H1 H2) : Evo lc H H2 := fun c o n h => b c o n (a c o n h)
theorem Evo.of {lc : Option Addr} {H H' : Hp} (e : Same H H') : Evo lc H H' := fun c o _ h => e c o h
theorem Cst.mono {K : Fg} {hd : Addr → Prop} {H H' : Hp} {b : Addr} (e : Same H H') (h : Cst K hd H b) : Cst K hd H' b := by
  obtain ⟨p, ns, pos, dig, cnt, h1, h2, h3⟩ := h
  exact ⟨p, ns, pos, dig, cnt, e _ _ h1, e.seq h2, h3⟩
theorem Cst.more {K : Fg} {hd hd' : Addr → Prop} {H : Hp} {b : Addr} (e : ∀ p, hd p → hd' p) (h : Cst K hd H b) : Cst K hd' H b := by
  obtain ⟨p, ns, pos, dig, cnt, h1, h2, h3, h4, h5, h6⟩ := h
  exact ⟨p, ns, pos, dig, cnt, h1, h2, h3, h4, h5, e _ h6⟩
theorem Cok.mono {K : Fg} {lc : Option Addr} {hd : Addr → Prop} {H H' : Hp} (e : Same H H') (h : Cok K lc hd H) : Cok K lc hd H' := fun b q => ⟨(h b q).1.mono e, (h b q).2⟩

/-! ## what a def promises, by data -/
def SpD (K : Fg) (pre : List D → Prop) (post : List D → D → Prop) : Sp := fun vs H Q _ => ∃ (lc : Option Addr) (hc hd : Addr → Prop) (ds : List D),
  DvAll K lc (hide hd H) vs ds ∧ Cok K lc hc H ∧ (∀ b, hc b → hd b) ∧ (∀ b, hd b → H b ≠ none) ∧ pre ds ∧
    ∀ v d H', Evo lc H H' → Cok K lc hc H' → Dv K lc (hide hd H') v d → post ds d → Q v H'

/-! ## the frame -/
inductive Slot where
  | un
  | val (d : D)
  | own (ds : List D)
abbrev Rho := List Slot
def look : Rho → Nat → Slot
  | [], _ => .un
  | s :: _, 0 => s
  | _ :: r, n + 1 => look r n
def put : Rho → Nat → Slot → Rho
  | [], _, _ => []
  | _ :: r, 0, s => s :: r
  | t :: r, n + 1, s => t :: put r n s
theorem put_length : ∀ (ρ : Rho) (i : Nat) (s : Slot), (put ρ i s).length = ρ.length
  | [], _, _ => rfl
  | _ :: r, 0, _ => rfl
  | _ :: r, n + 1, s => by simp [put, put_length r n s]
theorem look_put : ∀ (ρ : Rho) (i : Nat) (s : Slot), look (put ρ i s) i = s ∨ look (put ρ i s) i = .un
  | [], _, _ => .inr rfl
  | _ :: r, 0, s => .inl rfl
  | _ :: r, n + 1, s => look_put r n s
theorem look_put_ne : ∀ (ρ : Rho) (i j : Nat) (s : Slot), j ≠ i → look (put ρ i s) j = look ρ j
  | [], _, _, _, _ => rfl
  | _ :: r, 0, 0, s, h => absurd rfl h
  | _ :: r, 0, j + 1, s, _ => rfl
  | _ :: r, n + 1, 0, s, _ => rfl
  | _ :: r, n + 1, j + 1, s, h => look_put_ne r n j s (by omega)
theorem look_lt : ∀ (ρ : Rho) (i : Nat), look ρ i ≠ .un → i < ρ.length
  | [], _, h => absurd rfl h
  | _ :: r, 0, _ => by simp
  | _ :: r, n + 1, h => by simpa using look_lt r n h
theorem put_lt : ∀ (ρ : Rho) (i : Nat) (s : Slot), s ≠ .un → look (put ρ i s) i = s → i < ρ.length
  | [], _, _, h, e => absurd e.symm h
  | _ :: r, 0, _, _, _ => by simp
  | _ :: r, n + 1, s, h, e => by simpa using put_lt r n s h e

/-- what stays outside a def's names: the law's state, what is hidden, the heap at the start, lists that are being made -/
structure Amb where
  lc : Option Addr
  hc : Addr → Prop
  hd : Addr → Prop
  H0 : Hp
  gh : List (Addr × List D)
def hdO (M : Amb) (ow : Nat → Option Addr) : Addr → Prop := fun b => M.hd b ∨ (∃ i, ow i = some b) ∨ ∃ ds, (b, ds) ∈ M.gh
structure AtW (K : Fg) (M : Amb) (σ : L2.St) (H : Hp) (ρ : Rho) (ow : Nat → Option Addr) : Prop where
  evo : Evo M.lc M.H0 H
  cok : Cok K M.lc M.hc H
  sub : ∀ b, M.hc b → M.hd b
  all : ∀ b, M.hd b → M.H0 b ≠ none
  len : σ.length = ρ.length
  val : ∀ i d, look ρ i = .val d → ∃ v, σ[i]? = some (some v) ∧ Dv K M.lc (hide (hdO M ow) H) v d
  own : ∀ i ds, look ρ i = .own ds → ∃ p xs, ow i = some p ∧ σ[i]? = some (some (.ref p)) ∧ H p = some (.lst xs) ∧ DvAll K M.lc (hide (hdO M ow) H) xs ds
  fre : ∀ i p, ow i = some p → M.H0 p = none ∧ ∃ xs, H p = some (.lst xs)
  inj : ∀ i j p, ow i = some p → ow j = some p → i = j
  gho : ∀ p ds, (p, ds) ∈ M.gh → M.H0 p = none ∧ (∀ i, ow i ≠ some p) ∧ ∃ xs, H p = some (.lst xs) ∧ DvAll K M.lc (hide (hdO M ow) H) xs ds
  gnd : (M.gh.map (·.1)).Nodup
def At (K : Fg) (M : Amb) (σ : L2.St) (H : Hp) (ρ : Rho) (pv : List V) (pd : List D) : Prop :=
  ∃ ow, AtW K M σ H ρ ow ∧ DvAll K M.lc (hide (hdO M ow) H) pv pd
section
variable {K : Fg} {M : Amb} {H H' : Hp} {σ : L2.St} {ρ : Rho} {pv : List V} {pd : List D} {ow : Nat → Option Addr}
theorem AtW.ne (A : AtW K M σ H ρ ow) {p : Addr} (h : M.H0 p = none) : ¬ M.hd p := fun z => A.all p z h
theorem AtW.nel (A : AtW K M σ H ρ ow) {p : Addr} (h : M.H0 p = none) : M.lc ≠ some p := fun z => A.ne h (A.sub p (A.cok p z).2)
theorem AtW.vis (A : AtW K M σ H ρ ow) (e : Evo M.lc H H') : Same (hide (hdO M ow) H) (hide (hdO M ow) H') := hide_same fun b o n h => ⟨n, e b o (fun z => n (.inl (A.sub b (A.cok b z).2))) h⟩
theorem AtW.step (A : AtW K M σ H ρ ow) (e : Evo M.lc H H') (c : Cok K M.lc M.hc H') : AtW K M σ H' ρ ow where
  evo := A.evo.trans e
  cok := c
  sub := A.sub
  all := A.all
  len := A.len
  val := fun i d h => by
    obtain ⟨v, h1, h2⟩ := A.val i d h
    exact ⟨v, h1, h2.mono (A.vis e)⟩
  own := fun i ds h => by
    obtain ⟨p, xs, h1, h2, h3, h4⟩ := A.own i ds h
    exact ⟨p, xs, h1, h2, e p _ (A.nel (A.fre i p h1).1) h3, h4.mono (A.vis e)⟩
  fre := fun i p h => by
    obtain ⟨h1, xs, h2⟩ := A.fre i p h
    exact ⟨h1, xs, e p _ (A.nel h1) h2⟩
  inj := A.inj
  gho := fun p ds h => by
    obtain ⟨h1, h2, xs, h3, h4⟩ := A.gho p ds h
    exact ⟨h1, h2, xs, e p _ (A.nel h1) h3, h4.mono (A.vis e)⟩
  gnd := A.gnd
/-- what is hidden is there -/
theorem AtW.hall (A : AtW K M σ H ρ ow) (b : Addr) (z : hdO M ow b) : H b ≠ none := by
  rcases z with z | ⟨i, z⟩ | ⟨ds, z⟩
  · intro w
    cases q0 : M.H0 b with
    | none => exact A.all b z q0
    | some o =>
      by_cases hl : M.lc = some b
      · obtain ⟨⟨_, _, _, _, _, g, _⟩, _⟩ := A.cok b hl
        rw [w] at g; cases g
      · rw [A.evo b o hl q0] at w; cases w
  · obtain ⟨_, xs, h⟩ := A.fre i b z
    rw [h]
    exact fun z => nomatch z
  · obtain ⟨_, _, xs, h, _⟩ := A.gho b ds z
    rw [h]
    exact fun z => nomatch z
theorem At.step (A : At K M σ H ρ pv pd) (e : Evo M.lc H H') (c : Cok K M.lc M.hc H') : At K M σ H' ρ pv pd := by
  obtain ⟨ow, A, h⟩ := A
  exact ⟨ow, A.step e c, h.mono (A.vis e)⟩
/-- something is made -/
theorem At.same (A : At K M σ H ρ pv pd) (e : Same H H') : At K M σ H' ρ pv pd := by
  obtain ⟨ow, B, h⟩ := A
  exact At.step ⟨ow, B, h⟩ (.of e) (B.cok.mono e)
theorem At.pop {v : V} {d : D} (A : At K M σ H ρ (v :: pv) (d :: pd)) : At K M σ H ρ pv pd := by
  obtain ⟨ow, A, h⟩ := A
  cases h with
  | cons h1 h2 => exact ⟨ow, A, h2⟩
theorem At.popA {vs : List V} {ds : List D} (A : At K M σ H ρ (vs ++ pv) (ds ++ pd)) (hl : vs.length = ds.length) : At K M σ H ρ pv pd := by
  obtain ⟨ow, A, h⟩ := A
  exact ⟨ow, A, (DvAll.split hl h).2⟩
/-- the list of slot i, if it has one, is let go -/
def owOff (ow : Nat → Option Addr) (i : Nat) : Nat → Option Addr := fun j => if j = i then none else ow j
theorem owOff_same (ow : Nat → Option Addr) (i : Nat) : owOff ow i i = none := by simp [owOff]
theorem owOff_ne (ow : Nat → Option Addr) {i j : Nat} (h : j ≠ i) : owOff ow i j = ow j := by simp [owOff, h]
theorem owOff_some {ow : Nat → Option Addr} {i j : Nat} {p : Addr} (h : owOff ow i j = some p) : j ≠ i ∧ ow j = some p := by
  by_cases e : j = i
  · subst e; rw [owOff_same] at h; cases h
  · rw [owOff_ne ow e] at h; exact ⟨e, h⟩
theorem hdO_off {i : Nat} {b : Addr} (h : hdO M (owOff ow i) b) : hdO M ow b := by
  rcases h with h | ⟨j, h⟩ | h
  · exact .inl h
  · exact .inr (.inl ⟨j, (owOff_some h).2⟩)
  · exact .inr (.inr h)
theorem vis_off (ow : Nat → Option Addr) (i : Nat) (H : Hp) : Same (hide (hdO M ow) H) (hide (hdO M (owOff ow i)) H) := hide_same fun b o n h => ⟨fun z => n (hdO_off z), h⟩
/-- a slot's store: what it owned is let go -/
theorem AtW.put (A : AtW K M σ H ρ ow) (i : Nat) {v : V} {d : D} (g : Dv K M.lc (hide (hdO M (owOff ow i)) H) v d) : AtW K M (σ.set i (some v)) H (put ρ i (.val d)) (owOff ow i) where
  evo := A.evo
  cok := A.cok
  sub := A.sub
  all := A.all
  len := by rw [List.length_set, put_length]; exact A.len
  val := fun j e hj => by
    by_cases hji : j = i
    · subst hji
      have hlt : j < σ.length := by
        rw [A.len]
        have := look_lt _ j (show look (DL.put ρ j (.val d)) j ≠ .un by rw [hj]; exact fun z => nomatch z)
        rwa [put_length] at this
      rcases look_put ρ j (.val d) with z | z
      · rw [z] at hj
        cases hj
        exact ⟨v, List.getElem?_set_self hlt, g⟩
      · rw [z] at hj; cases hj
    · rw [look_put_ne _ _ _ _ hji] at hj
      obtain ⟨u, g1, g2⟩ := A.val j e hj
      exact ⟨u, by rw [List.getElem?_set_ne (fun z => hji z.symm)]; exact g1, g2.mono (vis_off ow i H)⟩
  own := fun j es hj => by
    by_cases hji : j = i
    · subst hji
      rcases look_put ρ j (.val d) with z | z <;> (rw [z] at hj; cases hj)
    · rw [look_put_ne _ _ _ _ hji] at hj
      obtain ⟨p', xs', g1, g2, g3, g4⟩ := A.own j es hj
      exact ⟨p', xs', by rw [owOff_ne ow hji]; exact g1, by rw [List.getElem?_set_ne (fun z => hji z.symm)]; exact g2, g3, g4.mono (vis_off ow i H)⟩
  fre := fun j p hj => A.fre j p (owOff_some hj).2
  inj := fun j k p hj hk => A.inj j k p (owOff_some hj).2 (owOff_some hk).2
  gho := fun p ds h => by
    obtain ⟨h1, h2, xs, h3, h4⟩ := A.gho p ds h
    exact ⟨h1, fun j hj => h2 j (owOff_some hj).2, xs, h3, h4.mono (vis_off ow i H)⟩
  gnd := A.gnd
theorem At.put (A : At K M σ H ρ pv pd) (i : Nat) {v : V} {d : D} {pv' : List V} {pd' : List D} (e1 : pv = v :: pv') (e2 : pd = d :: pd') : At K M (σ.set i (some v)) H (put ρ i (.val d)) pv' pd' := by
  subst e1 e2
  obtain ⟨ow, A, h⟩ := A
  cases h with
  | cons h1 h2 => exact ⟨_, A.put i (h1.mono (vis_off ow i H)), h2.mono (vis_off ow i H)⟩
end
theorem same_new {H : Hp} {p : Addr} {o : HO} (h : H p = none) : Same H (upd H p o) := fun b x e => by
  rw [upd_ne (ne_of_none e h)]
  exact e
end DL

namespace DL
open PySem PySem.Spec PyProof.Rows L2

/-! ## expressions -/
abbrev WE := Rho → (D → Rho → Prop) → Prop
abbrev WA := Rho → (List D → Rho → Prop) → Prop
abbrev WT := Rho → (Bool → Rho → Prop) → Prop
def Snd (K : Fg) (t : TE) (w : WE) : Prop := ∀ (M : Amb) (σ : L2.St) (H : Hp) (ρ : Rho) (pv : List V) (pd : List D) (P : D → Rho → Prop) (Q : VK),
  At K M σ H ρ pv pd → w ρ P → (∀ v d H' ρ', At K M σ H' ρ' (v :: pv) (d :: pd) → P d ρ' → Q v H') → t σ H Q
def SndA (K : Fg) (t : TA) (w : WA) : Prop := ∀ (M : Amb) (σ : L2.St) (H : Hp) (ρ : Rho) (pv : List V) (pd : List D) (P : List D → Rho → Prop) (Q : List V → Hp → Prop),
  At K M σ H ρ pv pd → w ρ P → (∀ vs ds H' ρ', vs.length = ds.length → At K M σ H' ρ' (vs ++ pv) (ds ++ pd) → P ds ρ' → Q vs H') → t σ H Q
def SndT (K : Fg) (t : TT) (w : WT) : Prop := ∀ (M : Amb) (σ : L2.St) (H : Hp) (ρ : Rho) (pv : List V) (pd : List D) (P : Bool → Rho → Prop) (Q : Bool → Hp → Prop),
  At K M σ H ρ pv pd → w ρ P → (∀ b H' ρ', At K M σ H' ρ' pv pd → P b ρ' → Q b H') → t σ H Q
structure DE (X : Cx) (e : Expr) (t : TE) (w : WE) : Prop where
  pe : PE X e t
  sd : Snd X.K t w
structure DA (X : Cx) (es : List Expr) (t : TA) (w : WA) : Prop where
  pa : PA X es t
  sd : SndA X.K t w
structure DT (X : Cx) (e : Expr) (t : TT) (w : WT) : Prop where
  pt : PT X e t
  sd : SndT X.K t w
/-- a test whatever its whole is -/
structure DW (X : Cx) (e : Expr) (t : TT) (w : WT) : Prop where
  pw : PW X e t
  sd : SndT X.K t w

/-- operations by values -/
def Sn2 (K : Fg) (r : R2) (w : D → D → (D → Prop) → Prop) : Prop := ∀ (lc : Option Addr) (hd : Addr → Prop) (H : Hp) (x y : V) (a b : D) (P : D → Prop) (Q : VK),
  (∀ p, hd p → H p ≠ none) → Dv K lc (hide hd H) x a → Dv K lc (hide hd H) y b → w a b P → (∀ v d H', Same H H' → Dv K lc (hide hd H') v d → P d → Q v H') → r x y H Q
def Sn1 (K : Fg) (r : V → Hp → VK → Prop) (w : D → (D → Prop) → Prop) : Prop := ∀ (lc : Option Addr) (hd : Addr → Prop) (H : Hp) (x : V) (a : D) (P : D → Prop) (Q : VK),
  (∀ p, hd p → H p ≠ none) → Dv K lc (hide hd H) x a → w a P → (∀ v d H', Same H H' → Dv K lc (hide hd H') v d → P d → Q v H') → r x H Q
def SnC (K : Fg) (r : List V → Hp → VK → Prop) (w : List D → (D → Prop) → Prop) : Prop := ∀ (lc : Option Addr) (hd : Addr → Prop) (H : Hp) (xs : List V) (as : List D) (P : D → Prop) (Q : VK),
  (∀ p, hd p → H p ≠ none) → DvAll K lc (hide hd H) xs as → w as P → (∀ v d H', Same H H' → Dv K lc (hide hd H') v d → P d → Q v H') → r xs H Q

/-! ### what they are worth -/
def wName (i : Nat) : WE := fun ρ P => match look ρ i with
  | .val d => P d ρ
  | .own ds => P (.list ds) (put ρ i (.val (.list ds)))
  | .un => False
def wC (d : D) : WE := fun ρ P => P d ρ
def wBin (w2 : D → D → (D → Prop) → Prop) (wa wb : WE) : WE := fun ρ P => wa ρ fun x ρ1 => wb ρ1 fun y ρ2 => w2 x y fun z => P z ρ2
def wUn (w1 : D → (D → Prop) → Prop) (wa : WE) : WE := fun ρ P => wa ρ fun x ρ1 => w1 x fun z => P z ρ1
def wNil : WA := fun ρ P => P [] ρ
def wCons (wa : WE) (wr : WA) : WA := fun ρ P => wa ρ fun x ρ1 => wr ρ1 fun xs ρ2 => P (x :: xs) ρ2
def wTup (wa : WA) : WE := fun ρ P => wa ρ fun ds ρ1 => ds.length ≤ 100000 ∧ P (.tuple ds) ρ1
def wLst (wa : WA) : WE := fun ρ P => wa ρ fun ds ρ1 => ds.length ≤ 100000 ∧ P (.list ds) ρ1
def wCall (pre : List D → Prop) (post : List D → D → Prop) (wa : WA) : WE := fun ρ P => wa ρ fun ds ρ1 => pre ds ∧ ∀ d, post ds d → P d ρ1
def wB (wc : List D → (D → Prop) → Prop) (wa : WA) : WE := fun ρ P => wa ρ fun ds ρ1 => wc ds fun d => P d ρ1
def wTest (wa : WE) : WT := fun ρ P => wa ρ fun x ρ1 => match x with
  | .bool b => P b ρ1
  | _ => False
def truD : D → Option Bool
  | .none => some false
  | .bool b => some b
  | .int i => some (i != 0)
  | .list ds => some (!ds.isEmpty)
  | .tuple ds => some (!ds.isEmpty)
  | _ => none
def wTruT (wa : WE) : WT := fun ρ P => wa ρ fun x ρ1 => match truD x with
  | some b => P b ρ1
  | none => False
def wAnd (wa wb : WT) : WT := fun ρ P => wa ρ fun b ρ1 => if b = true then wb ρ1 P else P false ρ1
def wOr (wa wb : WT) : WT := fun ρ P => wa ρ fun b ρ1 => if b = true then P true ρ1 else wb ρ1 P
def wNotT (wa : WT) : WT := fun ρ P => wa ρ fun b ρ1 => P (!b) ρ1
def wAndV (wa wb : WE) : WE := fun ρ P => wa ρ fun x ρ1 => match truD x with
  | some true => wb ρ1 P
  | some false => P x ρ1
  | none => False
def wOrV (wa wb : WE) : WE := fun ρ P => wa ρ fun x ρ1 => match truD x with
  | some true => P x ρ1
  | some false => wb ρ1 P
  | none => False
def wNotV (wa : WE) : WE := fun ρ P => wa ρ fun x ρ1 => match truD x with
  | some b => P (.bool (!b)) ρ1
  | none => False
def wIf (wt : WT) (wa wb : WE) : WE := fun ρ P => wt ρ fun b ρ1 => if b = true then wa ρ1 P else wb ρ1 P
def wChain (w1 w2 : D → D → (D → Prop) → Prop) (wa wb wc : WE) : WE := fun ρ P => wa ρ fun x ρ1 => wb ρ1 fun y ρ2 => w1 x y fun z => match z with
  | .bool true => wc ρ2 fun u ρ3 => w2 y u fun v => P v ρ3
  | .bool false => P (.bool false) ρ2
  | _ => False

/-! ### ints -/
def dAdd : D → D → (D → Prop) → Prop
  | .int i, .int j, P => P (.int (i + j))
  | .tuple a, .tuple b, P => a.length + b.length ≤ 100000 ∧ P (.tuple (a ++ b))
  | .list a, .list b, P => a.length + b.length ≤ 100000 ∧ P (.list (a ++ b))
  | _, _, _ => False
def dSub : D → D → (D → Prop) → Prop
  | .int i, .int j, P => P (.int (i - j))
  | _, _, _ => False
/-- a factor below 2 ^ 64, or both below 2 ^ 400000 -/
def mulOk (i j : Int) : Prop := CMul i j ∨ CMulW i j
def dMul : D → D → (D → Prop) → Prop
  | .int i, .int j, P => mulOk i j ∧ P (.int (i * j))
  | .list a, .int k, P => -(2 ^ 63) ≤ k ∧ k < 2 ^ 63 ∧ a.length * k.toNat ≤ 100000 ∧ P (.list (List.replicate k.toNat a).flatten)
  | _, _, _ => False
def divOk (j : Int) : Prop := j ≠ 0 ∧ j.natAbs.log2 < 9000
def dDiv : D → D → (D → Prop) → Prop
  | .int i, .int j, P => divOk j ∧ P (.int (i.fdiv j))
  | _, _, _ => False
def dMod : D → D → (D → Prop) → Prop
  | .int i, .int j, P => j ≠ 0 ∧ P (.int (i.fmod j))
  | _, _, _ => False
def dPow : D → D → (D → Prop) → Prop
  | .int i, .int j, P => CPow i j ∧ P (.int (i ^ j.toNat))
  | _, _, _ => False
def dNeg : D → (D → Prop) → Prop
  | .int i, P => P (.int (-i))
  | _, _ => False
def dLt : D → D → (D → Prop) → Prop
  | .int i, .int j, P => P (.bool (decide (i < j)))
  | _, _, _ => False
def dLe : D → D → (D → Prop) → Prop
  | .int i, .int j, P => P (.bool (decide (i ≤ j)))
  | _, _, _ => False
def dGt : D → D → (D → Prop) → Prop
  | .int i, .int j, P => P (.bool (decide (j < i)))
  | _, _, _ => False
def dGe : D → D → (D → Prop) → Prop
  | .int i, .int j, P => P (.bool (decide (j ≤ i)))
  | _, _, _ => False
def eqOk (x y : D) : Prop := x.plain = true ∧ y.plain = true ∧ (x.depth ≤ 64 ∨ y.depth ≤ 64)
def dEq : D → D → (D → Prop) → Prop := fun x y P => eqOk x y ∧ P (.bool (PyData.eqv x y))
def dNe : D → D → (D → Prop) → Prop := fun x y P => eqOk x y ∧ P (.bool (!PyData.eqv x y))
def dIsN : D → D → (D → Prop) → Prop := fun x y P => match y with
  | .none => P (.bool (match x with | .none => true | _ => false))
  | _ => False
def dIsNN : D → D → (D → Prop) → Prop := fun x y P => match y with
  | .none => P (.bool (match x with | .none => false | _ => true))
  | _ => False
def dIx : D → D → (D → Prop) → Prop
  | .tuple ds, .int i, P => ∃ d, atI ds i = some d ∧ P d
  | .list ds, .int i, P => ∃ d, atI ds i = some d ∧ P d
  | _, _, _ => False

section
variable {X : Cx} {K : Fg} {a b c e : Expr} {es : List Expr} {ta tb tc : TE} {wa wb wc : WE} {pos p : Pos}

theorem de_name (i : Nat) {x : Str} (hN : X.N[i]? = some x := by rfl) (hv : Vis X.env.scope x := by first | exact Or.inl rfl | exact Or.inr (Or.inl rfl) | exact Or.inr (Or.inr rfl)) (hd : (x == ("__debug__" : Str)) = false := by decide)
    (hcd : (x == ("__classdict__" : Str)) = false := by decide) : DE X (.Name x pos) (tVar i) (wName i) := ⟨pe_var hN hv hd hcd, fun M σ H ρ pv pd P Q A h q => by
  obtain ⟨ow, A, hp⟩ := A
  unfold wName at h
  split at h
  · next d e =>
    obtain ⟨v, h1, h2⟩ := A.val i d e
    exact ⟨v, h1, q v d H ρ ⟨ow, A, .cons h2 hp⟩ h⟩
  · next ds e =>
    obtain ⟨p, xs, h1, h2, h3, h4⟩ := A.own i ds e
    have np : ¬ hdO M (owOff ow i) p := fun z => by
      rcases z with z | ⟨j, z⟩ | ⟨es, z⟩
      · exact A.ne (A.fre i p h1).1 z
      · exact (owOff_some z).1 (A.inj j i p (owOff_some z).2 h1)
      · exact (A.gho p es z).2.1 i h1
    have dv : Dv X.K M.lc (hide (hdO M (owOff ow i)) H) (.ref p) (.list ds) := .lst (hide_some.mpr ⟨np, h3⟩) (h4.mono (vis_off ow i H))
    have A0 : AtW X.K M σ H (put ρ i (.val (.list ds))) (owOff ow i) := by
      have B := A.put i dv
      have e0 : σ.set i (some (.ref p)) = σ := by
        obtain ⟨hlt, he⟩ := List.getElem?_eq_some_iff.mp h2
        rw [← he]
        exact List.set_getElem_self hlt
      rw [e0] at B
      exact B
    exact ⟨.ref p, h2, q _ _ H (put ρ i (.val (.list ds))) ⟨_, A0, .cons dv (hp.mono (vis_off ow i H))⟩ h⟩
  · exact h.elim⟩
theorem snd_c {v : V} {d : D} (h : ∀ lc H, Dv K lc H v d) : Snd K (tC v) (wC d) := fun M σ H ρ pv pd P Q A hw q => by
  obtain ⟨ow, A, hp⟩ := A
  exact q v d H ρ ⟨ow, A, .cons (h _ _) hp⟩ hw
theorem de_int {i : Int} {j} : DE X (.Constant (.int i) j pos) (tC (.int i)) (wC (.int i)) := ⟨pe_int, snd_c fun _ _ => .int i⟩
theorem de_bl {i : Bool} {j} : DE X (.Constant (.bool i) j pos) (tC (.bl i)) (wC (.bool i)) := ⟨pe_bl, snd_c fun _ _ => .bl i⟩
theorem de_non {j} : DE X (.Constant .none j pos) (tC .non) (wC .none) := ⟨pe_non, snd_c fun _ _ => .non⟩
theorem de_str {x : Str} {j} : DE X (.Constant (.str x) j pos) (tC (.str x)) (wC (.str x)) := ⟨pe_str, snd_c fun _ _ => .str x⟩
/-- a module's int -/
theorem de_gint {x : Str} {i : Int} {u : Value} (hg : Gl X x) (hm : X.mg x = some u) (r : RelV (.int i) u) (hd : (x == ("__debug__" : Str)) = false := by decide) : DE X (.Name x pos) (tC (.int i)) (wC (.int i)) := ⟨pe_glob hg hm r hd, snd_c fun _ _ => .int i⟩

theorem snd_op {r : R2} {w2 : D → D → (D → Prop) → Prop} (h2 : Sn2 K r w2) (ha : Snd K ta wa) (hb : Snd K tb wb) : Snd K (tOp r ta tb) (wBin w2 wa wb) := fun M σ H ρ pv pd P Q A h q => by
  refine ha M σ H ρ pv pd _ _ A h fun x dx H1 ρ1 A1 h1 => ?_
  refine hb M σ H1 ρ1 _ _ _ _ A1 h1 fun y dy H2 ρ2 A2 h2' => ?_
  obtain ⟨ow, B, hp⟩ := A2
  cases hp with
  | cons gy hp =>
    cases hp with
    | cons gx hp =>
      refine h2 M.lc (hdO M ow) H2 x y dx dy _ _ B.hall gx gy h2' fun v d H' e g p => ?_
      exact q v d H' ρ2 ⟨ow, B.step (.of e) (B.cok.mono e), .cons g (hp.mono (B.vis (.of e)))⟩ p
theorem de_op {op : Operator} {r : R2} {w2 : D → D → (D → Prop) → Prop} (ho : OpR X (binaryOp op) r) (h2 : Sn2 X.K r w2) (ha : DE X a ta wa) (hb : DE X b tb wb) : DE X (.BinOp a op b pos) (tOp r ta tb) (wBin w2 wa wb) := ⟨pe_op ho ha.pe hb.pe, snd_op h2 ha.sd hb.sd⟩
theorem de_cmp {op : CmpOp} {r : R2} {w2 : D → D → (D → Prop) → Prop} (ho : OpR X (compareOp op) r) (h2 : Sn2 X.K r w2) (ha : DE X a ta wa) (hb : DE X b tb wb) (hm : behindInMarks op b = false := by first | exact nomark _ | rfl) : DE X (.Compare a [op] [b] pos) (tOp r ta tb) (wBin w2 wa wb) := ⟨pe_cmpR ho ha.pe hb.pe hm, snd_op h2 ha.sd hb.sd⟩
theorem de_ix {r : R2} {w2 : D → D → (D → Prop) → Prop} (ho : IxR X r) (h2 : Sn2 X.K r w2) (ha : DE X a ta wa) (hb : DE X b tb wb) (hs : PlainIx b := by exact fun _ _ => rfl) : DE X (.Subscript a b pos) (tOp r ta tb) (wBin w2 wa wb) := ⟨pe_ix ho ha.pe hb.pe hs, snd_op h2 ha.sd hb.sd⟩
theorem snd_un {r : V → Hp → VK → Prop} {w1 : D → (D → Prop) → Prop} (h1 : Sn1 K r w1) (ha : Snd K ta wa) : Snd K (tUn r ta) (wUn w1 wa) := fun M σ H ρ pv pd P Q A h q => by
  refine ha M σ H ρ pv pd _ _ A h fun x dx H1 ρ1 A1 h1' => ?_
  obtain ⟨ow, B, hp⟩ := A1
  cases hp with
  | cons gx hp =>
    refine h1 M.lc (hdO M ow) H1 x dx _ _ B.hall gx h1' fun v d H' e g p => ?_
    exact q v d H' ρ1 ⟨ow, B.step (.of e) (B.cok.mono e), .cons g (hp.mono (B.vis (.of e)))⟩ p
theorem de_un {op : UnaryOp} {r : V → Hp → VK → Prop} {w1 : D → (D → Prop) → Prop} (ho : UnR X (unaryOp op) r) (h1 : Sn1 X.K r w1) (ha : DE X a ta wa) : DE X (.UnaryOp op a pos) (tUn r ta) (wUn w1 wa) := ⟨pe_un ho ha.pe, snd_un h1 ha.sd⟩

/-! ### arguments, tuples, lists, calls -/
variable {t u : TA} {wr ws : WA}
theorem da_nil : DA X [] tNil wNil := ⟨pa_nil, fun M σ H ρ pv pd P Q A h q => q [] [] H ρ rfl A h⟩
theorem da_cons (ha : DE X e ta wa) (hr : DA X es t wr) (hs : starEach (e :: es) X.env = (false, eval e X.env) :: starEach es X.env := by rfl) : DA X (e :: es) (tCons ta t) (wCons wa wr) := ⟨pa_cons ha.pe hr.pa hs, fun M σ H ρ pv pd P Q A h q => by
  refine ha.sd M σ H ρ pv pd _ _ A h fun x dx H1 ρ1 A1 h1 => ?_
  refine hr.sd M σ H1 ρ1 _ _ _ _ A1 h1 fun vs ds H2 ρ2 hl A2 h2 => ?_
  obtain ⟨ow, B, hp⟩ := A2
  obtain ⟨g1, g2⟩ := DvAll.split hl hp
  cases g2 with
  | cons g2 g3 => exact q (x :: vs) (dx :: ds) H2 ρ2 (by simp [hl]) ⟨ow, B, .cons g2 (g1.app g3)⟩ h2⟩
theorem size_ok {n : Nat} (h : n ≤ 100000) : n ≤ sizeLine := Nat.le_trans h (by decide)
theorem size_lt {n : Nat} (h : n < 100000) : n < sizeLine := Nat.lt_of_lt_of_le h (by decide)
theorem not_hid {hd : Addr → Prop} {H : Hp} (h : ∀ p, hd p → H p ≠ none) {p : Addr} (hp : H p = none) : ¬ hd p := fun z => h p z hp
/-- a new object is seen -/
theorem new_vis {hd : Addr → Prop} {H : Hp} {p : Addr} {o : HO} (h : ∀ p, hd p → H p ≠ none) (hp : H p = none) : hide hd (upd H p o) p = some o := hide_some.mpr ⟨not_hid h hp, upd_same⟩
theorem vis_new {hd : Addr → Prop} {H : Hp} {p : Addr} {o : HO} (hp : H p = none) : Same (hide hd H) (hide hd (upd H p o)) := hide_same fun b x n e => ⟨n, same_new hp b x e⟩
theorem vis_of {hd : Addr → Prop} {H H' : Hp} (e : Same H H') : Same (hide hd H) (hide hd H') := hide_same fun b x n q => ⟨n, e b x q⟩
theorem de_tup {x1} (h : DA X es t wr) : DE X (.Tuple es x1 pos) (tTup t) (wTup wr) := ⟨pe_tup h.pa, fun M σ H ρ pv pd P Q A hw q => by
  refine h.sd M σ H ρ pv pd _ _ A hw fun vs ds H1 ρ1 hl A1 h1 => ⟨by rw [hl]; exact size_ok h1.1, fun p hp => ?_⟩
  obtain ⟨ow, B, hp'⟩ := A1
  obtain ⟨g1, g2⟩ := DvAll.split hl hp'
  have e : Same H1 (upd H1 p (.tup vs)) := same_new hp
  exact q _ (.tuple ds) _ ρ1 ⟨ow, B.step (.of e) (B.cok.mono e), .cons (.tup (.of (new_vis B.hall hp)) (g1.mono (vis_of e))) (g2.mono (vis_of e))⟩ h1.2⟩
theorem de_lst (h : DA X es t wr) : DE X (.List es pos) (tLst t) (wLst wr) := ⟨pe_lst h.pa, fun M σ H ρ pv pd P Q A hw q => by
  refine h.sd M σ H ρ pv pd _ _ A hw fun vs ds H1 ρ1 hl A1 h1 => ⟨by rw [hl]; exact size_ok h1.1, fun p hp => ?_⟩
  obtain ⟨ow, B, hp'⟩ := A1
  obtain ⟨g1, g2⟩ := DvAll.split hl hp'
  have e : Same H1 (upd H1 p (.lst vs)) := same_new hp
  exact q _ (.list ds) _ ρ1 ⟨ow, B.step (.of e) (B.cok.mono e), .cons (.lst (new_vis B.hall hp) (g1.mono (vis_of e))) (g2.mono (vis_of e))⟩ h1.2⟩
theorem snd_call {pre : List D → Prop} {post : List D → D → Prop} {E : XK} (h : SndA K t wr) : Snd K (tCall (SpD K pre post) [] E t) (wCall pre post wr) := fun M σ H ρ pv pd P Q A hw q => by
  refine h M σ H ρ pv pd _ _ A hw fun vs ds H1 ρ1 hl A1 h1 => ?_
  obtain ⟨ow, B, hp⟩ := A1
  obtain ⟨g1, g2⟩ := DvAll.split hl hp
  show SpD K pre post (vs ++ []) H1 Q E
  rw [List.append_nil]
  refine ⟨M.lc, M.hc, hdO M ow, ds, g1, B.cok, fun b z => .inl (B.sub b z), B.hall, h1.1, fun v d H' e c g p => ?_⟩
  exact q v d H' ρ1 ⟨ow, B.step e c, .cons g (g2.mono (B.vis e))⟩ (h1.2 d p)
theorem de_call {CX : CXT} {k : Nat} {f : Addr} {fd : FuncData} {ps : List Str} {pre : List D → Prop} {post : List D → D → Prop} {E : XK} {x : Str} {K' : Fg} (F : FnOk X.prog X.w X.K X.mg X.base CX k f fd ps (SpD K' pre post)) (hr : Room k X.A) (hg : Gl X x) (hm : X.mg x = some (.ref f))
    (hk : PySem.W.keepIn X.K (.ref f) = true) (hb : Binds X.K fd ps []) (hx : Passes CX X E) (ha : DA X (e :: es) t wr) (hK : X.K = K' := by rfl) (hdb : (x == ("__debug__" : Str)) = false := by decide) (he : starEach (e :: es) X.env = (false, eval e X.env) :: starEach es X.env := by rfl)
    (hpl : (backTo pos (starEach es X.env)).any (·.1) = false := by rfl) : DE X (.Call (.Name x p) (e :: es) [] pos) (tCall (SpD K' pre post) [] E t) (wCall pre post wr) :=
  ⟨pe_call F hr hg hm hk hb .nil hx ha.pa hdb he hpl, by subst hK; exact snd_call ha.sd⟩
theorem de_call0 {CX : CXT} {k : Nat} {f : Addr} {fd : FuncData} {ps : List Str} {pre : List D → Prop} {post : List D → D → Prop} {E : XK} {x : Str} {K' : Fg} (F : FnOk X.prog X.w X.K X.mg X.base CX k f fd ps (SpD K' pre post)) (hr : Room k X.A) (hg : Gl X x) (hm : X.mg x = some (.ref f))
    (hk : PySem.W.keepIn X.K (.ref f) = true) (hb : Binds X.K fd ps []) (hx : Passes CX X E) (hK : X.K = K' := by rfl) (hdb : (x == ("__debug__" : Str)) = false := by decide) : DE X (.Call (.Name x p) [] [] pos) (tCall (SpD K' pre post) [] E tNil) (wCall pre post wNil) :=
  ⟨pe_call0 F hr hg hm hk hb .nil hx hdb, by subst hK; exact snd_call da_nil.sd⟩
theorem snd_b {r : List V → Hp → VK → Prop} {wc : List D → (D → Prop) → Prop} (hsn : SnC K r wc) (h : SndA K t wr) : Snd K (tCB r t) (wB wc wr) := fun M σ H ρ pv pd P Q A hw q => by
  refine h M σ H ρ pv pd _ _ A hw fun vs ds H1 ρ1 hl A1 h1 => ?_
  obtain ⟨ow, B, hp⟩ := A1
  obtain ⟨g1, g2⟩ := DvAll.split hl hp
  refine hsn M.lc (hdO M ow) H1 vs ds _ _ B.hall g1 h1 fun v d H' e g p => ?_
  exact q v d H' ρ1 ⟨ow, B.step (.of e) (B.cok.mono e), .cons g (g2.mono (vis_of e))⟩ p
theorem de_callB {id : String} {x : Str} {r : List V → Hp → VK → Prop} {wc : List D → (D → Prop) → Prop} (hc : CallR X (.builtin id) r) (hs : SnC X.K r wc) (hg : Gl X x) (hm : X.mg x = none) (hv : bootBuiltins x = some (.builtin id)) (ha : DA X (e :: es) t wr) (hn : x ≠ "__name__" := by decide)
    (hdb : (x == ("__debug__" : Str)) = false := by decide) (he : starEach (e :: es) X.env = (false, eval e X.env) :: starEach es X.env := by rfl) (hpl : (backTo pos (starEach es X.env)).any (·.1) = false := by rfl) : DE X (.Call (.Name x p) (e :: es) [] pos) (tCB r t) (wB wc wr) :=
  ⟨pe_callB hc hg hm hv ha.pa hn hdb he hpl, snd_b hs ha.sd⟩
theorem de_callTy {T : String} {x : Str} {r : List V → Hp → VK → Prop} {wc : List D → (D → Prop) → Prop} (hc : CallR X (.type T) r) (hs : SnC X.K r wc) (hg : Gl X x) (hm : X.mg x = none) (hv : bootBuiltins x = some (.type T)) (ha : DA X (e :: es) t wr) (hn : x ≠ "__name__" := by decide)
    (hdb : (x == ("__debug__" : Str)) = false := by decide) (he : starEach (e :: es) X.env = (false, eval e X.env) :: starEach es X.env := by rfl) (hpl : (backTo pos (starEach es X.env)).any (·.1) = false := by rfl) : DE X (.Call (.Name x p) (e :: es) [] pos) (tCB r t) (wB wc wr) :=
  ⟨pe_callTy hc hg hm hv ha.pa hn hdb he hpl, snd_b hs ha.sd⟩
/-- math.gcd and the like, by the name that the module has for it -/
theorem de_callM {id : String} {x : Str} {r : List V → Hp → VK → Prop} {wc : List D → (D → Prop) → Prop} (hc : CallR X (.builtin id) r) (hs : SnC X.K r wc) (hg : Gl X x) (hm : X.mg x = some (.builtin id)) (ha : DA X (e :: es) t wr)
    (hdb : (x == ("__debug__" : Str)) = false := by decide) (he : starEach (e :: es) X.env = (false, eval e X.env) :: starEach es X.env := by rfl) (hpl : (backTo pos (starEach es X.env)).any (·.1) = false := by rfl) : DE X (.Call (.Name x p) (e :: es) [] pos) (tCB r t) (wB wc wr) :=
  ⟨pe_callBfun hc hg hm ha.pa hdb he hpl, snd_b hs ha.sd⟩
end
end DL

namespace DL
open PySem PySem.Spec PyProof.Rows L2

/-! ## operators by values -/
/-- + : ints, tuples, lists -/
def rAddD (K : Fg) : R2 := fun x y H Q => rI0 (fun i j => .int (i + j)) x y H Q ∨ (rCatA K x y H Q ∨ rCat x y H Q)
/-- * : ints, a list and an int -/
def rMulD : R2 := fun x y H Q => rI CMul (fun i j => .int (i * j)) x y H Q ∨ (rI CMulW (fun i j => .int (i * j)) x y H Q ∨ rRep x y H Q)
/-- xs[i] of a list or a tuple -/
def rIxD (K : Fg) : R2 := fun x y H Q => rIxL K x y H Q ∨ rIxT K x y H Q
mutual
theorem dpm {K : Fg} {H H' : Hp} (e : Same H H') : ∀ {d : D} {v : V}, Dp K H v d → Dp K H' v d
  | .none, _, h => by cases h; exact .non
  | .bool b, _, h => by cases h; exact .bl b
  | .int b, _, h => by cases h; exact .int b
  | .str b, _, h => by cases h; exact .str b
  | .list ds, _, h => by
    cases h with
    | lst hs ha => exact .lst (e.seq hs) (dpmA e ha)
  | .tuple ds, _, h => by
    cases h with
    | tup hs ha => exact .tup (same_t e hs) (dpmA e ha)
  | .dict _, _, h => by cases h
theorem dpmA {K : Fg} {H H' : Hp} (e : Same H H') : ∀ {ds : List D} {vs : List V}, DpAll K H vs ds → DpAll K H' vs ds
  | [], _, h => by cases h; exact .nil
  | d :: ds, _, h => by
    cases h with
    | cons h1 h2 => exact .cons (dpm e h1) (dpmA e h2)
end
section
variable {X : Cx}
def rEqP (K : Fg) : R2 := fun x y H Q => ∃ d e, Dp K H x d ∧ Dp K H y e ∧ eqOk d e ∧ Q (.bl (PyData.eqv d e)) H
def rNeP (K : Fg) : R2 := fun x y H Q => ∃ d e, Dp K H x d ∧ Dp K H y e ∧ eqOk d e ∧ Q (.bl (!PyData.eqv d e)) H
theorem min64 {A : Around} {d e : D} (h : eqOk d e) (hu : A.units + 64 < cLine) : A.units + min d.depth e.depth < cLine := by
  have h1 : min d.depth e.depth ≤ d.depth := Nat.min_le_left _ _
  have h2 : min d.depth e.depth ≤ e.depth := Nat.min_le_right _ _
  rcases h.2.2 with q | q <;> omega
theorem op_eqP (hu : X.A.units + 64 < cLine) : OpR X (compareOp .Eq) (rEqP X.K) := by
  intro pins s σ H x y v u Q I rx ry h
  obtain ⟨d, e, hd, he, ok, q⟩ := h
  obtain ⟨as, r1⟩ := Dp.reads I d x v hd rx
  obtain ⟨bs, r2⟩ := Dp.reads I e y u he ry
  exact SeqAt.eq_plain r1 r2 ok.1 ok.2.1 (min64 ok hu) ⟨.bl _, H, I, rfl, q⟩
theorem op_neP (hu : X.A.units + 64 < cLine) : OpR X (compareOp .NotEq) (rNeP X.K) := by
  intro pins s σ H x y v u Q I rx ry h
  obtain ⟨d, e, hd, he, ok, q⟩ := h
  obtain ⟨as, r1⟩ := Dp.reads I d x v hd rx
  obtain ⟨bs, r2⟩ := Dp.reads I e y u he ry
  exact SeqAt.ne_plain r1 r2 ok.1 ok.2.1 (min64 ok hu) ⟨.bl _, H, I, rfl, q⟩
theorem op_divB : OpR X (binaryOp .FloorDiv) (rI (fun _ j => divOk j) fun i j => .int (i.fdiv j)) := opI fun i j _ _ _ _ _ hc q => floordiv_int hc.1 q (.inl (PyProof.noPylong_of_log2 hc.2))
theorem op_addD : OpR X (binaryOp .Add) (rAddD X.K) := op_add.or (op_catA.or op_cat)
theorem op_mulD : OpR X (binaryOp .Mult) rMulD := op_mul.or (op_mulW.or op_rep)
theorem ix_D : IxR X (rIxD X.K) := ix_list.or ix_tup
end
section
variable {K : Fg}
theorem sn2_I0 {g : Int → Int → Int} {w : D → D → (D → Prop) → Prop} (hw : ∀ a b P, w a b P → ∃ i j, a = .int i ∧ b = .int j ∧ P (.int (g i j))) : Sn2 K (rI0 fun i j => .int (g i j)) w := fun lc hd H x y a b P Q _ hx hy h q => by
  obtain ⟨i, j, rfl, rfl, p⟩ := hw a b P h
  cases hx
  cases hy
  exact ⟨i, j, rfl, rfl, q _ _ H (Same.refl H) (.int _) p⟩
theorem sn2_I {C : Int → Int → Prop} {g : Int → Int → Int} {w : D → D → (D → Prop) → Prop} (hw : ∀ a b P, w a b P → ∃ i j, a = .int i ∧ b = .int j ∧ C i j ∧ P (.int (g i j))) : Sn2 K (rI C fun i j => .int (g i j)) w := fun lc hd H x y a b P Q _ hx hy h q => by
  obtain ⟨i, j, rfl, rfl, c, p⟩ := hw a b P h
  cases hx
  cases hy
  exact ⟨i, j, rfl, rfl, c, q _ _ H (Same.refl H) (.int _) p⟩
theorem sn2_B0 {g : Int → Int → Bool} {w : D → D → (D → Prop) → Prop} (hw : ∀ a b P, w a b P → ∃ i j, a = .int i ∧ b = .int j ∧ P (.bool (g i j))) : Sn2 K (rI0 fun i j => .bl (g i j)) w := fun lc hd H x y a b P Q _ hx hy h q => by
  obtain ⟨i, j, rfl, rfl, p⟩ := hw a b P h
  cases hx
  cases hy
  exact ⟨i, j, rfl, rfl, q _ _ H (Same.refl H) (.bl _) p⟩
theorem sn2_lt : Sn2 K (rI0 fun i j => .bl (decide (i < j))) dLt := sn2_B0 fun a b P h => by
  cases a <;> cases b <;> first | exact ⟨_, _, rfl, rfl, h⟩ | exact h.elim
theorem sn2_le : Sn2 K (rI0 fun i j => .bl (decide (i ≤ j))) dLe := sn2_B0 fun a b P h => by
  cases a <;> cases b <;> first | exact ⟨_, _, rfl, rfl, h⟩ | exact h.elim
theorem sn2_gt : Sn2 K (rI0 fun i j => .bl (decide (j < i))) dGt := sn2_B0 fun a b P h => by
  cases a <;> cases b <;> first | exact ⟨_, _, rfl, rfl, h⟩ | exact h.elim
theorem sn2_ge : Sn2 K (rI0 fun i j => .bl (decide (j ≤ i))) dGe := sn2_B0 fun a b P h => by
  cases a <;> cases b <;> first | exact ⟨_, _, rfl, rfl, h⟩ | exact h.elim
theorem sn2_sub : Sn2 K (rI0 fun i j => .int (i - j)) dSub := sn2_I0 fun a b P h => by
  cases a <;> cases b <;> first | exact ⟨_, _, rfl, rfl, h⟩ | exact h.elim
theorem sn2_mod : Sn2 K (rI (fun _ j => j ≠ 0) fun i j => .int (i.fmod j)) dMod := sn2_I fun a b P h => by
  cases a <;> cases b <;> first | exact ⟨_, _, rfl, rfl, h.1, h.2⟩ | exact h.elim
theorem sn2_pow : Sn2 K (rI CPow fun i j => .int (i ^ j.toNat)) dPow := sn2_I fun a b P h => by
  cases a <;> cases b <;> first | exact ⟨_, _, rfl, rfl, h.1, h.2⟩ | exact h.elim
theorem sn1_neg : Sn1 K (rU fun i => .int (-i)) dNeg := fun lc hd H x a P Q _ hx h q => by
  cases a <;> first | exact h.elim | skip
  cases hx
  exact ⟨_, rfl, q _ _ H (Same.refl H) (.int _) h⟩
theorem sn2_div : Sn2 K (rI (fun _ j => divOk j) fun i j => .int (i.fdiv j)) dDiv := sn2_I fun a b P h => by
  cases a <;> cases b <;> first | exact ⟨_, _, rfl, rfl, h.1, h.2⟩ | exact h.elim
theorem sn2_add : Sn2 K (rAddD K) dAdd := fun lc hd H x y a b P Q al hx hy h q => by
  cases a <;> cases b <;> first | exact h.elim | skip
  · cases hx
    cases hy
    exact .inl ⟨_, _, rfl, rfl, q _ _ H (Same.refl H) (.int _) h⟩
  · cases hx with
    | lst g1 g2 =>
      cases hy with
      | lst g3 g4 =>
        refine .inr (.inr ⟨_, _, _, _, rfl, rfl, hide_le _ _ g1, hide_le _ _ g3, ?_, fun p hp => ?_⟩)
        · rw [g2.length, g4.length]; exact size_ok h.1
        · exact q _ _ _ (same_new hp) (.lst (new_vis al hp) ((g2.app g4).mono (vis_new hp))) h.2
  · cases hx with
    | tup g1 g2 =>
      cases hy with
      | tup g3 g4 =>
        refine .inr (.inl ⟨_, _, _, _, rfl, rfl, same_t hide_le g1, same_t hide_le g3, ?_, ?_⟩)
        · rw [g2.length, g4.length]; exact size_ok h.1
        · have e1 : Dv K lc (hide hd H) (V.ref _) (.tuple _) := .tup g1 g2
          have e3 : Dv K lc (hide hd H) (V.ref _) (.tuple _) := .tup g3 g4
          refine ⟨fun z => ?_, fun z z2 => ?_, fun z z2 p hp => ?_⟩
          · subst z
            cases g2
            exact q _ _ H (Same.refl H) e3 (by simpa using h.2)
          · subst z2
            cases g4
            exact q _ _ H (Same.refl H) e1 (by simpa using h.2)
          · exact q _ _ _ (same_new hp) (.tup (.of (new_vis al hp)) ((g2.app g4).mono (vis_new hp))) h.2
theorem Vrep {lc : Option Addr} {H : Hp} {ds : List D} {vs : List V} (h : DvAll K lc H vs ds) : ∀ k : Nat, DvAll K lc H (List.replicate k vs).flatten (List.replicate k ds).flatten
  | 0 => .nil
  | k + 1 => by
    rw [List.replicate_succ, List.replicate_succ, List.flatten_cons, List.flatten_cons]
    exact h.app (Vrep h k)
theorem sn2_mul : Sn2 K rMulD dMul := fun lc hd H x y a b P Q al hx hy h q => by
  cases a <;> cases b <;> first | exact h.elim | skip
  · cases hx
    cases hy
    rcases h.1 with c | c
    · exact .inl ⟨_, _, rfl, rfl, c, q _ _ H (Same.refl H) (.int _) h.2⟩
    · exact .inr (.inl ⟨_, _, rfl, rfl, c, q _ _ H (Same.refl H) (.int _) h.2⟩)
  · cases hy
    cases hx with
    | lst g1 g2 =>
      refine .inr (.inr ⟨_, _, _, rfl, rfl, hide_le _ _ g1, h.1, h.2.1, ?_, fun p hp => ?_⟩)
      · rw [g2.length]; exact size_ok h.2.2.1
      · exact q _ _ _ (same_new hp) (.lst (new_vis al hp) ((Vrep g2 _).mono (vis_new hp))) h.2.2.2
theorem sn2_eq : Sn2 K (rEqP K) dEq := fun lc hd H x y a b P Q al hx hy h q =>
  ⟨a, b, dpm hide_le (hx.dp h.1.1), dpm hide_le (hy.dp h.1.2.1), h.1, q _ _ H (Same.refl H) (.bl _) h.2⟩
theorem sn2_ne : Sn2 K (rNeP K) dNe := fun lc hd H x y a b P Q al hx hy h q =>
  ⟨a, b, dpm hide_le (hx.dp h.1.1), dpm hide_le (hy.dp h.1.2.1), h.1, q _ _ H (Same.refl H) (.bl _) h.2⟩
def rIsNV : R2 := fun x y H Q => y = .non ∧ Q (.bl (decide (x = .non))) H
def rNotNV : R2 := fun x y H Q => y = .non ∧ Q (.bl (!decide (x = .non))) H
def isNonD : D → Bool
  | .none => true
  | _ => false
theorem dv_non {lc : Option Addr} {H : Hp} {x : V} {a : D} (h : Dv K lc H x a) : decide (x = .non) = isNonD a := by
  cases h <;> simp [isNonD]
theorem sn2_isN : Sn2 K rIsNV dIsN := fun lc hd H x y a b P Q al hx hy h q => by
  cases b <;> first | exact h.elim | skip
  cases hy
  refine ⟨rfl, q _ _ H (Same.refl H) (.bl _) ?_⟩
  rw [dv_non hx]
  cases a <;> exact h
theorem sn2_isNN : Sn2 K rNotNV dIsNN := fun lc hd H x y a b P Q al hx hy h q => by
  cases b <;> first | exact h.elim | skip
  cases hy
  refine ⟨rfl, q _ _ H (Same.refl H) (.bl _) ?_⟩
  rw [dv_non hx]
  cases a <;> exact h
theorem atI_dv {lc : Option Addr} {H : Hp} {ds : List D} {vs : List V} {i : Int} {d : D} (h : DvAll K lc H vs ds) (e : atI ds i = some d) : ∃ v, atI vs i = some v ∧ Dv K lc H v d := by
  unfold atI at *
  rw [h.length]
  cases q : ixN ds.length i with
  | none => rw [q] at e; cases e
  | some j =>
    rw [q] at e
    exact h.get e
theorem sn2_ix : Sn2 K (rIxD K) dIx := fun lc hd H x y a b P Q al hx hy h q => by
  cases a <;> cases b <;> first | exact h.elim | skip
  · cases hy
    obtain ⟨d, e, p⟩ := h
    cases hx with
    | lst g1 g2 =>
      obtain ⟨v, e', g⟩ := atI_dv g2 e
      exact .inl ⟨_, _, _, v, rfl, rfl, .of (hide_le _ _ g1), e', q _ _ H (Same.refl H) g p⟩
  · cases hy
    obtain ⟨d, e, p⟩ := h
    cases hx with
    | tup g1 g2 =>
      obtain ⟨v, e', g⟩ := atI_dv g2 e
      exact .inr ⟨_, _, _, v, rfl, rfl, same_t hide_le g1, e', q _ _ H (Same.refl H) g p⟩
end

/-! ## built-in functions by values -/
def bAbs : List D → (D → Prop) → Prop
  | [.int i], P => P (.int (if i < 0 then -i else i))
  | _, _ => False
def bInt : List D → (D → Prop) → Prop
  | [.int i], P => P (.int i)
  | _, _ => False
def bMax : List D → (D → Prop) → Prop
  | [.int i, .int j], P => P (.int (if j > i then j else i))
  | _, _ => False
def bMin : List D → (D → Prop) → Prop
  | [.int i, .int j], P => P (.int (if j < i then j else i))
  | _, _ => False
def bGcd : List D → (D → Prop) → Prop
  | [.int i, .int j], P => P (.int (Nat.gcd i.natAbs j.natAbs : Nat))
  | _, _ => False
def bLen : List D → (D → Prop) → Prop
  | [.tuple ds], P => P (.int ds.length)
  | [.list ds], P => P (.int ds.length)
  | _, _ => False
def bTuple : List D → (D → Prop) → Prop
  | [.tuple ds], P => P (.tuple ds)
  | [.list ds], P => P (.tuple ds)
  | _, _ => False
def bList : List D → (D → Prop) → Prop
  | [.tuple ds], P => P (.list ds)
  | [.list ds], P => P (.list ds)
  | _, _ => False
def bools : List D → Option (List Bool)
  | [] => some []
  | .bool b :: r => (bools r).map (b :: ·)
  | _ => none
def bAll : List D → (D → Prop) → Prop
  | [.list ds], P => ∃ bs, bools ds = some bs ∧ P (.bool (bs.all id))
  | _, _ => False
def bAny : List D → (D → Prop) → Prop
  | [.list ds], P => ∃ bs, bools ds = some bs ∧ P (.bool (bs.any id))
  | _, _ => False
section
variable {K : Fg}
abbrev rAbsV : List V → Hp → VK → Prop := fun xs H Q => ∃ i, xs = [.int i] ∧ Q (.int (if i < 0 then -i else i)) H
abbrev rIntV : List V → Hp → VK → Prop := fun xs H Q => (∃ i, xs = [.int i] ∧ Q (.int i) H) ∨ ∃ k, xs = [.bl k] ∧ Q (.int (if k then 1 else 0)) H
abbrev rMaxV : List V → Hp → VK → Prop := fun xs H Q => ∃ i j, xs = [.int i, .int j] ∧ Q (.int (if j > i then j else i)) H
abbrev rMinV : List V → Hp → VK → Prop := fun xs H Q => ∃ i j, xs = [.int i, .int j] ∧ Q (.int (if j < i then j else i)) H
theorem da1 {lc : Option Addr} {H : Hp} {xs : List V} {a : D} (h : DvAll K lc H xs [a]) : ∃ x, xs = [x] ∧ Dv K lc H x a := by
  cases h with
  | cons h1 h2 => cases h2; exact ⟨_, rfl, h1⟩
theorem da2 {lc : Option Addr} {H : Hp} {xs : List V} {a b : D} (h : DvAll K lc H xs [a, b]) : ∃ x y, xs = [x, y] ∧ Dv K lc H x a ∧ Dv K lc H y b := by
  cases h with
  | cons h1 h2 =>
    obtain ⟨y, rfl, h3⟩ := da1 h2
    exact ⟨_, _, rfl, h1, h3⟩
theorem snc_abs : SnC K rAbsV bAbs := fun lc hd H xs as P Q al hx h q => by
  unfold bAbs at h
  split at h
  · obtain ⟨x, rfl, g⟩ := da1 hx
    cases g
    exact ⟨_, rfl, q _ _ H (Same.refl H) (.int _) h⟩
  · exact h.elim
theorem snc_int : SnC K rIntV bInt := fun lc hd H xs as P Q al hx h q => by
  unfold bInt at h
  split at h
  · obtain ⟨x, rfl, g⟩ := da1 hx
    cases g
    exact .inl ⟨_, rfl, q _ _ H (Same.refl H) (.int _) h⟩
  · exact h.elim
theorem snc_max : SnC K rMaxV bMax := fun lc hd H xs as P Q al hx h q => by
  unfold bMax at h
  split at h
  · obtain ⟨x, y, rfl, g, g'⟩ := da2 hx
    cases g
    cases g'
    exact ⟨_, _, rfl, q _ _ H (Same.refl H) (.int _) h⟩
  · exact h.elim
theorem snc_min : SnC K rMinV bMin := fun lc hd H xs as P Q al hx h q => by
  unfold bMin at h
  split at h
  · obtain ⟨x, y, rfl, g, g'⟩ := da2 hx
    cases g
    cases g'
    exact ⟨_, _, rfl, q _ _ H (Same.refl H) (.int _) h⟩
  · exact h.elim
theorem snc_gcd : SnC K rGcd bGcd := fun lc hd H xs as P Q al hx h q => by
  unfold bGcd at h
  split at h
  · obtain ⟨x, y, rfl, g, g'⟩ := da2 hx
    cases g
    cases g'
    exact ⟨_, _, rfl, q _ _ H (Same.refl H) (.int _) h⟩
  · exact h.elim
abbrev rLenV (K : Fg) : List V → Hp → VK → Prop := fun xs H Q => ∃ p ys, xs = [.ref p] ∧ (SqL K H p ys ∨ SqT K H p ys) ∧ Q (.int ys.length) H
theorem snc_len : SnC K (rLenV K) bLen := fun lc hd H xs as P Q al hx h q => by
  unfold bLen at h
  split at h
  · obtain ⟨x, rfl, g⟩ := da1 hx
    cases g with
    | tup g1 g2 => exact ⟨_, _, rfl, .inr (same_t hide_le g1), q _ _ H (Same.refl H) (.int _) (by rw [g2.length]; exact h)⟩
  · obtain ⟨x, rfl, g⟩ := da1 hx
    cases g with
    | lst g1 g2 => exact ⟨_, _, rfl, .inl (.of (hide_le _ _ g1)), q _ _ H (Same.refl H) (.int _) (by rw [g2.length]; exact h)⟩
  · exact h.elim
abbrev rTupleV (K : Fg) : List V → Hp → VK → Prop := fun xs H Q => ∃ p ys, xs = [.ref p] ∧ ((SqL K H p ys ∧ ∀ l, H l = none → Q (.ref l) (upd H l (.tup ys))) ∨ (SqT K H p ys ∧ Q (.ref p) H))
theorem snc_tuple : SnC K (rTupleV K) bTuple := fun lc hd H xs as P Q al hx h q => by
  unfold bTuple at h
  split at h
  · obtain ⟨x, rfl, g⟩ := da1 hx
    cases g with
    | tup g1 g2 => exact ⟨_, _, rfl, .inr ⟨same_t hide_le g1, q _ _ H (Same.refl H) (.tup g1 g2) h⟩⟩
  · obtain ⟨x, rfl, g⟩ := da1 hx
    cases g with
    | lst g1 g2 => exact ⟨_, _, rfl, .inl ⟨.of (hide_le _ _ g1), fun l hl => q _ _ _ (same_new hl) (.tup (.of (new_vis al hl)) (g2.mono (vis_new hl))) h⟩⟩
  · exact h.elim
abbrev rListV (K : Fg) : List V → Hp → VK → Prop := fun xs H Q => ∃ p ys, xs = [.ref p] ∧ (SqL K H p ys ∨ SqT K H p ys) ∧ ∀ l, H l = none → Q (.ref l) (upd H l (.lst ys))
theorem snc_list : SnC K (rListV K) bList := fun lc hd H xs as P Q al hx h q => by
  unfold bList at h
  split at h
  · obtain ⟨x, rfl, g⟩ := da1 hx
    cases g with
    | tup g1 g2 => exact ⟨_, _, rfl, .inr (same_t hide_le g1), fun l hl => q _ _ _ (same_new hl) (.lst (new_vis al hl) (g2.mono (vis_new hl))) h⟩
  · obtain ⟨x, rfl, g⟩ := da1 hx
    cases g with
    | lst g1 g2 => exact ⟨_, _, rfl, .inl (.of (hide_le _ _ g1)), fun l hl => q _ _ _ (same_new hl) (.lst (new_vis al hl) (g2.mono (vis_new hl))) h⟩
  · exact h.elim
theorem bools_v {lc : Option Addr} {H : Hp} : ∀ {ds : List D} {vs : List V} {bs : List Bool}, bools ds = some bs → DvAll K lc H vs ds → vs = bs.map V.bl
  | [], _, bs, e, h => by
    cases h
    cases (Option.some.inj e)
    rfl
  | .bool b :: r, _, bs, e, h => by
    cases h with
    | cons h1 h2 =>
      cases h1
      unfold bools at e
      cases q : bools r with
      | none => rw [q] at e; cases e
      | some cs =>
        rw [q] at e
        cases (Option.some.inj e)
        rw [bools_v q h2]
        rfl
  | .none :: _, _, _, e, _ => nomatch e
  | .int _ :: _, _, _, e, _ => nomatch e
  | .str _ :: _, _, _, e, _ => nomatch e
  | .list _ :: _, _, _, e, _ => nomatch e
  | .tuple _ :: _, _, _, e, _ => nomatch e
  | .dict _ :: _, _, _, e, _ => nomatch e
theorem snc_all : SnC K (rAll K) bAll := fun lc hd H xs as P Q al hx h q => by
  unfold bAll at h
  split at h
  · obtain ⟨bs, e, p⟩ := h
    obtain ⟨x, rfl, g⟩ := da1 hx
    cases g with
    | lst g1 g2 => exact ⟨_, bs, rfl, by rw [← bools_v e g2]; exact .of (hide_le _ _ g1), q _ _ H (Same.refl H) (.bl _) p⟩
  · exact h.elim
theorem snc_any : SnC K (rAny K) bAny := fun lc hd H xs as P Q al hx h q => by
  unfold bAny at h
  split at h
  · obtain ⟨bs, e, p⟩ := h
    obtain ⟨x, rfl, g⟩ := da1 hx
    cases g with
    | lst g1 g2 => exact ⟨_, bs, rfl, by rw [← bools_v e g2]; exact .of (hide_le _ _ g1), q _ _ H (Same.refl H) (.bl _) p⟩
  · exact h.elim
end

/-! ### isinstance(e, T), T a built-in type by its name -/
def tyD : D → Option String
  | .none => some "NoneType"
  | .bool _ => some "bool"
  | .int _ => some "int"
  | .str _ => some "str"
  | .list _ => some "list"
  | .tuple _ => some "tuple"
  | .dict _ => none
def isiD (T : String) (d : D) : Option Bool := (tyD d).bind fun s => kitB s T
def wIsi (T : String) (wa : WE) : WE := fun ρ P => wa ρ fun x ρ1 => match isiD T x with
  | some b => P (.bool b) ρ1
  | none => False
def tIsi (K : Fg) (T : String) (ta : TE) : TE := tCB (rIsi K) (tCons ta (tCons (tC (.ty T)) tNil))
section
variable {X : Cx} {K : Fg} {a b c e : Expr} {es : List Expr} {ta tb tc : TE} {wa wb wc : WE} {pos p p2 : Pos}
theorem tyx_of {lc : Option Addr} {H : Hp} {x : V} {d : D} {s : String} (hs : tyD d = some s) (h : Dv K lc H x d) : TyX K H x (.type s) := by
  cases h with
  | non => cases hs; exact .base .non
  | bl b => cases hs; exact .base (.bl b)
  | int i => cases hs; exact .base (.int i)
  | str s => cases hs; exact .base (.str s)
  | lst h _ => cases hs; exact .base (.lst h)
  | tup h _ =>
    cases hs
    rcases h with (h | ⟨o, h⟩) | ⟨o, its, n, h, c, _⟩
    · exact .base (.tup h)
    · exact .fTuple h
    · exact .kTuple h c
  | tok q => cases hs
  | fn q => cases hs
theorem tyx_mono {H H' : Hp} {x : V} {s : String} (e : Same H H') (h : TyX K H x (.type s)) : TyX K H' x (.type s) := by
  cases h with
  | base h =>
    cases h with
    | non => exact .base .non
    | bl b => exact .base (.bl b)
    | int i => exact .base (.int i)
    | str s => exact .base (.str s)
    | flt s => exact .base (.flt s)
    | lst h => exact .base (.lst (e _ _ h))
    | frz h => exact .base (.frz (e _ _ h))
    | tup h => exact .base (.tup (e _ _ h))
    | dK h => exact .base (.dK (e _ _ h))
    | dT h => exact .base (.dT (e _ _ h))
  | byt b => exact .byt b
  | set h => exact .set (e _ _ h)
  | kList h c => exact .kList h c
  | kTuple h c => exact .kTuple h c
  | kDict h c => exact .kDict h c
  | fTuple h => exact .fTuple (e _ _ h)
  | fDict h => exact .fDict (e _ _ h)
theorem snd_isi {T : String} (ha : Snd K ta wa) : Snd K (tIsi K T ta) (wIsi T wa) := fun M σ H ρ pv pd P Q A h q => by
  refine ha M σ H ρ pv pd _ _ A h fun x dx H1 ρ1 A1 h1 => ?_
  show rIsi K [x, .ty T] H1 Q
  have A2 := A1.pop
  obtain ⟨ow, B, hp⟩ := A1
  cases hp with
  | cons gx hp =>
    unfold isiD at h1
    cases hs : tyD dx with
    | none => rw [hs] at h1; exact h1.elim
    | some s =>
      rw [hs] at h1
      cases hk : kitB s T with
      | none =>
        simp only [Option.bind, hk] at h1
      | some b =>
        simp only [Option.bind, hk] at h1
        refine ⟨x, .ty T, .type s, .type T, b, rfl, .ty T, tyx_mono hide_le (tyx_of hs gx), kit_ty hk, ?_⟩
        obtain ⟨ow, B, hp⟩ := A2
        exact q (.bl b) (.bool b) H1 ρ1 ⟨ow, B, .cons (.bl b) hp⟩ h1
theorem de_isi {y : Str} {Tn : String} (hg : Gl X "isinstance") (hm : X.mg "isinstance" = none) (ha : DE X a ta wa) (hgT : Gl X y) (hmT : X.mg y = none) (hvT : bootBuiltins y = some (.type Tn)) (hnT : y ≠ "__name__" := by decide) (hdT : (y == ("__debug__" : Str)) = false := by decide)
    (hs : starEach (a :: [.Name y p2]) X.env = (false, eval a X.env) :: starEach [.Name y p2] X.env := by rfl) (hs2 : starEach [.Name y p2] X.env = (false, eval (.Name y p2) X.env) :: starEach [] X.env := by rfl)
    (hpl : (backTo pos (starEach [.Name y p2] X.env)).any (·.1) = false := by rfl) : DE X (.Call (.Name "isinstance" p) [a, .Name y p2] [] pos) (tIsi X.K Tn ta) (wIsi Tn wa) :=
  ⟨pe_callB call_isi hg hm (by decide +kernel) (pa_cons ha.pe (pa_cons (pe_bltn hgT hmT hvT (show RelV (.ty Tn) _ from rfl) hnT hdT) pa_nil hs2) hs) (by decide) (by decide) hs hpl, snd_isi ha.sd⟩
end
end DL

namespace DL
open PySem PySem.Spec PyProof.Rows L2

/-! ## tests -/
section
variable {X : Cx} {K : Fg} {a b c e : Expr} {es rest : List Expr} {ta tb tc : TE} {wa wb wc : WE} {pos p p2 : Pos} {tt tu : TT} {wt wu : WT}
theorem snd_test (ha : Snd K ta wa) : SndT K (tTest ta) (wTest wa) := fun M σ H ρ pv pd P Q A h q => by
  refine ha M σ H ρ pv pd _ _ A h fun x dx H1 ρ1 A1 h1 => ?_
  have A2 := A1.pop
  obtain ⟨ow, B, hp⟩ := A1
  cases hp with
  | cons gx hp =>
    cases gx with
    | bl b => exact ⟨b, rfl, q b H1 ρ1 A2 h1⟩
    | _ => exact h1.elim
theorem dt_cmp {op : CmpOp} {r : R2} {w2 : D → D → (D → Prop) → Prop} (ho : OpR X (compareOp op) r) (h2 : Sn2 X.K r w2) (ha : DE X a ta wa) (hb : DE X b tb wb) (hm : behindInMarks op b = false := by first | exact nomark _ | rfl) :
    DT X (.Compare a [op] [b] pos) (tTest (tOp r ta tb)) (wTest (wBin w2 wa wb)) := ⟨pt_cmpR ho ha.pe hb.pe hm, snd_test (snd_op h2 ha.sd hb.sd)⟩
theorem tru_of {lc : Option Addr} {hd : Addr → Prop} {H : Hp} {x : V} {d : D} {b : Bool} (e : truD d = some b) (h : Dv K lc (hide hd H) x d) : TruV K x H b := by
  cases h with
  | non => cases e; rfl
  | bl b => cases e; rfl
  | int i => cases e; rfl
  | str s => cases e
  | lst h ha => cases e; exact .inl ⟨_, .of (hide_le _ _ h), by rw [ha.isEmpty]⟩
  | tup h ha => cases e; exact .inr (.inl ⟨_, same_t hide_le h, by rw [ha.isEmpty]⟩)
  | tok q => cases e
  | fn q => cases e
theorem snd_tru (ha : Snd K ta wa) : SndT K (fun σ H Q => ta σ H fun x H' => ∃ k, TruV K x H' k ∧ Q k H') (wTruT wa) := fun M σ H ρ pv pd P Q A h q => by
  refine ha M σ H ρ pv pd _ _ A h fun x dx H1 ρ1 A1 h1 => ?_
  have A2 := A1.pop
  obtain ⟨ow, B, hp⟩ := A1
  cases hp with
  | cons gx hp =>
    cases e : truD dx with
    | none => rw [e] at h1; exact h1.elim
    | some b =>
      rw [e] at h1
      exact ⟨b, tru_of e gx, q b H1 ρ1 A2 h1⟩
theorem dt_tru (ha : DE X a ta wa) (he : ∀ whole, isTrue a X.env whole = (do let v ← whole; standAt a.pos; holding [v] (truthy v)) := by intro _; rfl) :
    DT X a (fun σ H Q => ta σ H fun x H' => ∃ k, TruV X.K x H' k ∧ Q k H') (wTruT wa) := ⟨pt_truth ha.pe he, snd_tru ha.sd⟩
theorem snd_and (ha : SndT K tt wt) (hb : SndT K tu wu) : SndT K (tAnd tt tu) (wAnd wt wu) := fun M σ H ρ pv pd P Q A h q => by
  refine ha M σ H ρ pv pd _ _ A h fun b H1 ρ1 A1 h1 => ?_
  cases b with
  | true =>
    rw [if_pos rfl] at h1 ⊢
    exact hb M σ H1 ρ1 pv pd _ _ A1 h1 q
  | false =>
    rw [if_neg Bool.false_ne_true] at h1 ⊢
    exact q _ _ _ A1 h1
theorem snd_or (ha : SndT K tt wt) (hb : SndT K tu wu) : SndT K (tOr tt tu) (wOr wt wu) := fun M σ H ρ pv pd P Q A h q => by
  refine ha M σ H ρ pv pd _ _ A h fun b H1 ρ1 A1 h1 => ?_
  cases b with
  | true =>
    rw [if_pos rfl] at h1 ⊢
    exact q _ _ _ A1 h1
  | false =>
    rw [if_neg Bool.false_ne_true] at h1 ⊢
    exact hb M σ H1 ρ1 pv pd _ _ A1 h1 q
theorem dw_and1 (ha : DT X a tt wt) : DW X (.BoolOp .And [a] pos) tt wt := ⟨pw_and1 ha.pt, ha.sd⟩
theorem dw_or1 (ha : DT X a tt wt) : DW X (.BoolOp .Or [a] pos) tt wt := ⟨pw_or1 ha.pt, ha.sd⟩
theorem dw_and (ha : DT X a tt wt) (hb : DW X (.BoolOp .And (b :: rest) pos) tu wu) : DW X (.BoolOp .And (a :: b :: rest) pos) (tAnd tt tu) (wAnd wt wu) := ⟨pw_and ha.pt hb.pw, snd_and ha.sd hb.sd⟩
theorem dw_or (ha : DT X a tt wt) (hb : DW X (.BoolOp .Or (b :: rest) pos) tu wu) : DW X (.BoolOp .Or (a :: b :: rest) pos) (tOr tt tu) (wOr wt wu) := ⟨pw_or ha.pt hb.pw, snd_or ha.sd hb.sd⟩
theorem DW.dt (h : DW X e tt wt) : DT X e tt wt := ⟨h.pw.pt, h.sd⟩
theorem dt_not (ha : DT X a tt wt) : DT X (.UnaryOp .Not a pos) (tNot tt) (wNotT wt) := ⟨pt_not ha.pt, fun M σ H ρ pv pd P Q A h q => ha.sd M σ H ρ pv pd _ _ A h fun b H1 ρ1 A1 h1 => q _ _ _ A1 h1⟩
theorem de_if (hc : DT X c tt wt) (ha : DE X a ta wa) (hb : DE X b tb wb) : DE X (.IfExp c a b pos) (tIf tt ta tb) (wIf wt wa wb) := ⟨pe_ifExp hc.pt ha.pe hb.pe, fun M σ H ρ pv pd P Q A h q => by
  refine hc.sd M σ H ρ pv pd _ _ A h fun b H1 ρ1 A1 h1 => ?_
  cases b with
  | true =>
    rw [if_pos rfl] at h1 ⊢
    exact ha.sd M σ H1 ρ1 pv pd _ _ A1 h1 q
  | false =>
    rw [if_neg Bool.false_ne_true] at h1 ⊢
    exact hb.sd M σ H1 ρ1 pv pd _ _ A1 h1 q⟩
/-! ### and, or, not as values -/
theorem de_one {op} (ha : DE X a ta wa) : DE X (.BoolOp op [a] pos) ta wa := ⟨pe_one ha.pe, ha.sd⟩
theorem de_and (ha : DE X a ta wa) (hb : DE X (.BoolOp .And (b :: rest) pos) tb wb) : DE X (.BoolOp .And (a :: b :: rest) pos) (tAndT X.K ta tb) (wAndV wa wb) := ⟨pe_andT ha.pe hb.pe, fun M σ H ρ pv pd P Q A h q => by
  refine ha.sd M σ H ρ pv pd _ _ A h fun x dx H1 ρ1 A1 h1 => ?_
  have A2 := A1.pop
  obtain ⟨ow, B, hp⟩ := A1
  cases hp with
  | cons gx hp =>
    cases e : truD dx with
    | none => simp only [e] at h1
    | some k =>
      refine ⟨k, tru_of e gx, ?_⟩
      cases k with
      | true =>
        simp only [e] at h1
        rw [if_pos rfl]
        exact hb.sd M σ H1 ρ1 pv pd _ _ A2 h1 q
      | false =>
        simp only [e] at h1
        rw [if_neg Bool.false_ne_true]
        exact q _ _ _ _ ⟨ow, B, .cons gx hp⟩ h1⟩
theorem de_or (ha : DE X a ta wa) (hb : DE X (.BoolOp .Or (b :: rest) pos) tb wb) : DE X (.BoolOp .Or (a :: b :: rest) pos) (tOrT X.K ta tb) (wOrV wa wb) := ⟨pe_orT ha.pe hb.pe, fun M σ H ρ pv pd P Q A h q => by
  refine ha.sd M σ H ρ pv pd _ _ A h fun x dx H1 ρ1 A1 h1 => ?_
  have A2 := A1.pop
  obtain ⟨ow, B, hp⟩ := A1
  cases hp with
  | cons gx hp =>
    cases e : truD dx with
    | none => simp only [e] at h1
    | some k =>
      refine ⟨k, tru_of e gx, ?_⟩
      cases k with
      | true =>
        simp only [e] at h1
        rw [if_pos rfl]
        exact q _ _ _ _ ⟨ow, B, .cons gx hp⟩ h1
      | false =>
        simp only [e] at h1
        rw [if_neg Bool.false_ne_true]
        exact hb.sd M σ H1 ρ1 pv pd _ _ A2 h1 q⟩
theorem de_not (ha : DE X a ta wa) : DE X (.UnaryOp .Not a pos) (tNotT X.K ta) (wNotV wa) := ⟨pe_notT ha.pe, fun M σ H ρ pv pd P Q A h q => by
  refine ha.sd M σ H ρ pv pd _ _ A h fun x dx H1 ρ1 A1 h1 => ?_
  have A2 := A1.pop
  obtain ⟨ow, B, hp⟩ := A1
  cases hp with
  | cons gx hp =>
    cases e : truD dx with
    | none => simp only [e] at h1
    | some k =>
      simp only [e] at h1
      obtain ⟨ow, B, hp⟩ := A2
      exact ⟨k, tru_of e gx, q _ _ _ _ ⟨ow, B, .cons (.bl _) hp⟩ h1⟩⟩
theorem snd_chain {r r' : R2} {w1 w2 : D → D → (D → Prop) → Prop} (h1 : Sn2 K r w1) (h2 : Sn2 K r' w2) (ha : Snd K ta wa) (hb : Snd K tb wb) (hc : Snd K tc wc) : Snd K (tChain r r' ta tb tc) (wChain w1 w2 wa wb wc) := fun M σ H ρ pv pd P Q A h q => by
  refine ha M σ H ρ pv pd _ _ A h fun x dx H1 ρ1 A1 q1 => ?_
  refine hb M σ H1 ρ1 _ _ _ _ A1 q1 fun y dy H2 ρ2 A2 q2 => ?_
  obtain ⟨ow, B, hp⟩ := A2
  cases hp with
  | cons gy hp =>
    cases hp with
    | cons gx hp =>
      refine h1 M.lc (hdO M ow) H2 x y dx dy _ _ B.hall gx gy q2 fun z dz H3 e gz p => ?_
      have A3 : At K M σ H3 ρ2 (y :: pv) (dy :: pd) := ⟨ow, B.step (.of e) (B.cok.mono e), (DvAll.cons gy hp).mono (B.vis (.of e))⟩
      cases gz with
      | bl k =>
        refine ⟨k, rfl, ?_⟩
        cases k with
        | true =>
          rw [if_pos rfl]
          refine hc M σ H3 ρ2 _ _ _ _ A3 p fun u du H4 ρ3 A4 q4 => ?_
          obtain ⟨ow4, B4, hp4⟩ := A4
          cases hp4 with
          | cons gu hp4 =>
            cases hp4 with
            | cons gy4 hp4 =>
              refine h2 M.lc (hdO M ow4) H4 y u dy du _ _ B4.hall gy4 gu q4 fun v d H' e g p => ?_
              exact q v d H' ρ3 ⟨ow4, B4.step (.of e) (B4.cok.mono e), .cons g (hp4.mono (B4.vis (.of e)))⟩ p
        | false =>
          rw [if_neg Bool.false_ne_true]
          obtain ⟨ow3, B3, hp3⟩ := A3.pop
          exact q _ _ _ _ ⟨ow3, B3, .cons (.bl _) hp3⟩ p
      | _ => exact p.elim
theorem de_chain {op op' : CmpOp} {r r' : R2} {w1 w2 : D → D → (D → Prop) → Prop} (ho : OpR X (compareOp op) r) (h1 : Sn2 X.K r w1) (ho' : OpR X (compareOp op') r') (h2 : Sn2 X.K r' w2) (ha : DE X a ta wa) (hb : DE X b tb wb) (hc : DE X c tc wc)
    (hm : lastMarks [op, op'] [b, c] = false := by with_unfolding_all rfl) : DE X (.Compare a [op, op'] [b, c] pos) (tChain r r' ta tb tc) (wChain w1 w2 wa wb wc) := ⟨pe_chain ho ho' ha.pe hb.pe hc.pe hm, snd_chain h1 h2 ha.sd hb.sd hc.sd⟩
theorem dt_chain {op op' : CmpOp} {r r' : R2} {w1 w2 : D → D → (D → Prop) → Prop} (ho : OpR X (compareOp op) r) (h1 : Sn2 X.K r w1) (ho' : OpR X (compareOp op') r') (h2 : Sn2 X.K r' w2) (ha : DE X a ta wa) (hb : DE X b tb wb) (hc : DE X c tc wc)
    (hm : lastMarks [op, op'] [b, c] = false := by with_unfolding_all rfl) : DT X (.Compare a [op, op'] [b, c] pos) (tTest (tChain r r' ta tb tc)) (wTest (wChain w1 w2 wa wb wc)) := ⟨pt_chain ho ho' ha.pe hb.pe hc.pe hm, snd_test (snd_chain h1 h2 ha.sd hb.sd hc.sd)⟩
end

/-! ## lists that are made -/
def Amb.plus (M : Amb) (p : Addr) (ds : List D) : Amb := { M with gh := (p, ds) :: M.gh }
abbrev WF := Rho → (List D → Rho → Prop) → Prop
/-- a new list that nobody else holds -/
def SndF (K : Fg) (t : TE) (w : WF) : Prop := ∀ (M : Amb) (σ : L2.St) (H : Hp) (ρ : Rho) (pv : List V) (pd : List D) (P : List D → Rho → Prop) (Q : VK),
  At K M σ H ρ pv pd → w ρ P → (∀ p ds H' ρ', At K (M.plus p ds) σ H' ρ' pv pd → P ds ρ' → Q (.ref p) H') → t σ H Q
structure DF (X : Cx) (e : Expr) (t : TE) (w : WF) : Prop where
  pe : PE X e t
  sd : SndF X.K t w
section
variable {X : Cx} {K : Fg} {M : Amb} {H H' : Hp} {σ : L2.St} {ρ : Rho} {pv : List V} {pd : List D} {ow : Nat → Option Addr} {p : Addr} {ds : List D}
theorem hdO_plus {b : Addr} (h : hdO M ow b) : hdO (M.plus p ds) ow b := by
  rcases h with h | h | ⟨es, h⟩
  · exact .inl h
  · exact .inr (.inl h)
  · exact .inr (.inr ⟨es, List.mem_cons_of_mem _ h⟩)
theorem hdO_minus {b : Addr} (h : hdO (M.plus p ds) ow b) : hdO M ow b ∨ b = p := by
  rcases h with h | h | ⟨es, h⟩
  · exact .inl (.inl h)
  · exact .inl (.inr (.inl h))
  · rcases List.mem_cons.mp h with e | h
    · cases e; exact .inr rfl
    · exact .inl (.inr (.inr ⟨es, h⟩))
theorem vis_minus : Same (hide (hdO (M.plus p ds) ow) H) (hide (hdO M ow) H) := hide_same fun b o n h => ⟨fun z => n (hdO_plus z), h⟩
/-- a list that is made is seen from now on -/
theorem AtW.minus (A : AtW K (M.plus p ds) σ H ρ ow) : AtW K M σ H ρ ow where
  evo := A.evo
  cok := A.cok
  sub := A.sub
  all := A.all
  len := A.len
  val := fun i d h => by
    obtain ⟨v, h1, h2⟩ := A.val i d h
    exact ⟨v, h1, h2.mono vis_minus⟩
  own := fun i ds h => by
    obtain ⟨p, xs, h1, h2, h3, h4⟩ := A.own i ds h
    exact ⟨p, xs, h1, h2, h3, h4.mono vis_minus⟩
  fre := A.fre
  inj := A.inj
  gho := fun q es h => by
    obtain ⟨h1, h2, xs, h3, h4⟩ := A.gho q es (List.mem_cons_of_mem _ h)
    exact ⟨h1, h2, xs, h3, h4.mono vis_minus⟩
  gnd := by
    have := A.gnd
    exact (List.nodup_cons.mp this).2
theorem At.free (A : At K (M.plus p ds) σ H ρ pv pd) : At K M σ H ρ (.ref p :: pv) (.list ds :: pd) := by
  obtain ⟨ow, A, h⟩ := A
  obtain ⟨h1, h2, xs, h3, h4⟩ := A.gho p ds (List.mem_cons_self ..)
  have np : ¬ hdO M ow p := fun z => by
    rcases z with z | ⟨i, z⟩ | ⟨es, z⟩
    · exact A.ne h1 z
    · exact h2 i z
    · have := (List.nodup_cons.mp A.gnd).1
      exact this (List.mem_map_of_mem (f := (·.1)) z)
  exact ⟨ow, A.minus, .cons (.lst (hide_some.mpr ⟨np, h3⟩) (h4.mono vis_minus)) (h.mono vis_minus)⟩
theorem AtW.plus {xs : List V} (A : AtW K M σ H ρ ow) (hp : H p = none) (h0 : M.H0 p = none) (g : DvAll K M.lc (hide (hdO M ow) H) xs ds) : AtW K (M.plus p ds) σ (upd H p (.lst xs)) ρ ow := by
  have e : Same H (upd H p (.lst xs)) := same_new hp
  have vis : Same (hide (hdO M ow) H) (hide (hdO (M.plus p ds) ow) (upd H p (.lst xs))) := hide_same fun b o n h => ⟨fun z => by
    rcases hdO_minus z with z | z
    · exact n z
    · subst z
      exact absurd h (by rw [hp]; exact fun z => nomatch z), e b o h⟩
  exact {
    evo := A.evo.trans (.of e)
    cok := A.cok.mono e
    sub := A.sub
    all := A.all
    len := A.len
    val := fun i d h => by
      obtain ⟨v, h1, h2⟩ := A.val i d h
      exact ⟨v, h1, h2.mono vis⟩
    own := fun i ds h => by
      obtain ⟨p, xs, h1, h2, h3, h4⟩ := A.own i ds h
      exact ⟨p, xs, h1, h2, e _ _ h3, h4.mono vis⟩
    fre := fun i q h => by
      obtain ⟨h1, xs, h2⟩ := A.fre i q h
      exact ⟨h1, xs, e q _ h2⟩
    inj := A.inj
    gho := fun q es h => by
      rcases List.mem_cons.mp h with z | z
      · cases z
        exact ⟨h0, (fun i hi => by
          obtain ⟨_, ys, h⟩ := A.fre i p hi
          rw [hp] at h
          exact nomatch h), xs, upd_same, g.mono vis⟩
      · obtain ⟨h1, h2, xs, h3, h4⟩ := A.gho q es z
        exact ⟨h1, h2, xs, e _ _ h3, h4.mono vis⟩
    gnd := List.nodup_cons.mpr ⟨fun z => by
      obtain ⟨⟨q, es⟩, h1, h2⟩ := List.mem_map.mp z
      cases h2
      obtain ⟨_, _, xs, h3, _⟩ := A.gho p es h1
      exact absurd h3 (by rw [hp]; exact fun z => nomatch z), A.gnd⟩ }
theorem AtW.none0 (A : AtW K M σ H ρ ow) (hp : H p = none) : M.H0 p = none := by
  cases q : M.H0 p with
  | none => rfl
  | some o =>
    by_cases hl : M.lc = some p
    · obtain ⟨⟨_, _, _, _, _, g, _⟩, _⟩ := A.cok p hl
      rw [hp] at g; cases g
    · rw [A.evo p o hl q] at hp; cases hp
theorem At.plus {vs : List V} (A : At K M σ H ρ (vs ++ pv) (ds ++ pd)) (hl : vs.length = ds.length) (hp : H p = none) : At K (M.plus p ds) σ (upd H p (.lst vs)) ρ pv pd := by
  obtain ⟨ow, A, h⟩ := A
  obtain ⟨g1, g2⟩ := DvAll.split hl h
  refine ⟨ow, A.plus hp (A.none0 hp) g1, g2.mono (hide_same fun b o n h => ⟨fun z => ?_, same_new hp b o h⟩)⟩
  rcases hdO_minus z with z | z
  · exact n z
  · subst z
    rw [hp] at h; cases h
theorem DF.de {e : Expr} {t : TE} {w : WF} (h : DF X e t w) : DE X e t (fun ρ P => w ρ fun ds ρ1 => P (.list ds) ρ1) := ⟨h.pe, fun M σ H ρ pv pd P Q A hw q => h.sd M σ H ρ pv pd _ _ A hw fun p ds H' ρ' A' hP => q _ _ _ _ A'.free hP⟩
def owOn (ow : Nat → Option Addr) (i : Nat) (p : Addr) : Nat → Option Addr := fun j => if j = i then some p else ow j
theorem owOn_same {ow : Nat → Option Addr} {i : Nat} {p : Addr} : owOn ow i p i = some p := by simp [owOn]
theorem owOn_ne {ow : Nat → Option Addr} {i j : Nat} {p : Addr} (h : j ≠ i) : owOn ow i p j = ow j := by simp [owOn, h]
/-- the list that is made goes to slot i -/
theorem AtW.keep (A : AtW K (M.plus p ds) σ H ρ ow) (i : Nat) : AtW K M (σ.set i (some (.ref p))) H (DL.put ρ i (.own ds)) (owOn ow i p) := by
  obtain ⟨h1, h2, xs, h3, h4⟩ := A.gho p ds (List.mem_cons_self ..)
  have ne1 : ∀ j, j ≠ i → (owOn ow i p) j = ow j := fun j hj => owOn_ne hj
  have eq1 : (owOn ow i p) i = some p := owOn_same
  have vis : Same (hide (hdO (M.plus p ds) ow) H) (hide (hdO M (owOn ow i p)) H) := hide_same fun b o n h => ⟨fun z => by
    rcases z with z | ⟨j, z⟩ | ⟨es, z⟩
    · exact n (.inl z)
    · by_cases hj : j = i
      · subst hj
        rw [owOn_same] at z
        cases z
        exact n (.inr (.inr ⟨ds, List.mem_cons_self ..⟩))
      · rw [owOn_ne hj] at z
        exact n (.inr (.inl ⟨j, z⟩))
    · exact n (.inr (.inr ⟨es, List.mem_cons_of_mem _ z⟩)), h⟩
  exact {
    evo := A.evo
    cok := A.cok
    sub := A.sub
    all := A.all
    len := by rw [List.length_set, put_length]; exact A.len
    val := fun j d hj => by
      by_cases hji : j = i
      · subst hji
        rcases look_put ρ j (.own ds) with z | z <;> (rw [z] at hj; cases hj)
      · rw [look_put_ne _ _ _ _ hji] at hj
        obtain ⟨u, g1, g2⟩ := A.val j d hj
        exact ⟨u, by rw [List.getElem?_set_ne (fun z => hji z.symm)]; exact g1, g2.mono vis⟩
    own := fun j es hj => by
      by_cases hji : j = i
      · subst hji
        have hlt : j < σ.length := by
          rw [A.len]
          have := look_lt _ j (show look (DL.put ρ j (.own ds)) j ≠ .un by rw [hj]; exact fun z => nomatch z)
          rwa [put_length] at this
        rcases look_put ρ j (.own ds) with z | z
        · rw [z] at hj
          cases hj
          exact ⟨p, xs, eq1, List.getElem?_set_self hlt, h3, h4.mono vis⟩
        · rw [z] at hj; cases hj
      · rw [look_put_ne _ _ _ _ hji] at hj
        obtain ⟨p', xs', g1, g2, g3, g4⟩ := A.own j es hj
        exact ⟨p', xs', by rw [ne1 j hji]; exact g1, by rw [List.getElem?_set_ne (fun z => hji z.symm)]; exact g2, g3, g4.mono vis⟩
    fre := fun j q hj => by
      by_cases hji : j = i
      · subst hji
        rw [owOn_same] at hj
        cases hj
        exact ⟨h1, xs, h3⟩
      · rw [ne1 j hji] at hj
        exact A.fre j q hj
    inj := fun j k q hj hk => by
      by_cases hji : j = i
      · subst hji
        rw [owOn_same] at hj
        cases hj
        by_cases hki : k = j
        · exact hki.symm
        · rw [ne1 k hki] at hk
          exact absurd hk (h2 k)
      · rw [ne1 j hji] at hj
        by_cases hki : k = i
        · subst hki
          rw [owOn_same] at hk
          cases hk
          exact absurd hj (h2 j)
        · rw [ne1 k hki] at hk
          exact A.inj j k q hj hk
    gho := fun q es h => by
      obtain ⟨g1, g2, ys, g3, g4⟩ := A.gho q es (List.mem_cons_of_mem _ h)
      refine ⟨g1, fun j hj => ?_, ys, g3, g4.mono vis⟩
      by_cases hji : j = i
      · subst hji
        rw [owOn_same] at hj
        cases hj
        exact (List.nodup_cons.mp A.gnd).1 (List.mem_map_of_mem (f := (·.1)) h)
      · rw [ne1 j hji] at hj
        exact g2 j hj
    gnd := (List.nodup_cons.mp A.gnd).2 }
theorem At.keep (A : At K (M.plus p ds) σ H ρ pv pd) (i : Nat) : At K M (σ.set i (some (.ref p))) H (DL.put ρ i (.own ds)) pv pd := by
  obtain ⟨ow, A, h⟩ := A
  refine ⟨_, A.keep i, h.mono (hide_same fun b o n h => ⟨fun z => ?_, h⟩)⟩
  rcases z with z | ⟨j, z⟩ | ⟨es, z⟩
  · exact n (.inl z)
  · by_cases hj : j = i
    · subst hj
      rw [owOn_same] at z
      cases z
      exact n (.inr (.inr ⟨ds, List.mem_cons_self ..⟩))
    · rw [owOn_ne hj] at z
      exact n (.inr (.inl ⟨j, z⟩))
  · exact n (.inr (.inr ⟨es, List.mem_cons_of_mem _ z⟩))
end
section
variable {X : Cx} {K : Fg} {a b c e : Expr} {es : List Expr} {ta tb : TE} {wa wb : WE} {t : TA} {wr : WA} {pos p p2 : Pos}
def wFLst (wa : WA) : WF := fun ρ P => wa ρ fun ds ρ1 => ds.length ≤ 100000 ∧ P ds ρ1
theorem df_lst (h : DA X es t wr) : DF X (.List es pos) (tLst t) (wFLst wr) := ⟨pe_lst h.pa, fun M σ H ρ pv pd P Q A hw q => by
  refine h.sd M σ H ρ pv pd _ _ A hw fun vs ds H1 ρ1 hl A1 h1 => ⟨by rw [hl]; exact size_ok h1.1, fun p hp => ?_⟩
  exact q p ds _ ρ1 (A1.plus hl hp) h1.2⟩
/-- an operation whose answer is a new list -/
def SnF2 (K : Fg) (r : R2) (w : D → D → (List D → Prop) → Prop) : Prop := ∀ (lc : Option Addr) (hd : Addr → Prop) (H : Hp) (x y : V) (a b : D) (P : List D → Prop) (Q : VK),
  (∀ p, hd p → H p ≠ none) → Dv K lc (hide hd H) x a → Dv K lc (hide hd H) y b → w a b P → (∀ xs ds p, DvAll K lc (hide hd H) xs ds → H p = none → P ds → Q (.ref p) (upd H p (.lst xs))) → r x y H Q
def SnFC (K : Fg) (r : List V → Hp → VK → Prop) (w : List D → (List D → Prop) → Prop) : Prop := ∀ (lc : Option Addr) (hd : Addr → Prop) (H : Hp) (xs : List V) (as : List D) (P : List D → Prop) (Q : VK),
  (∀ p, hd p → H p ≠ none) → DvAll K lc (hide hd H) xs as → w as P → (∀ ys ds p, DvAll K lc (hide hd H) ys ds → H p = none → P ds → Q (.ref p) (upd H p (.lst ys))) → r xs H Q
def wFBin (w2 : D → D → (List D → Prop) → Prop) (wa wb : WE) : WF := fun ρ P => wa ρ fun x ρ1 => wb ρ1 fun y ρ2 => w2 x y fun ds => P ds ρ2
def wFB (wc : List D → (List D → Prop) → Prop) (wa : WA) : WF := fun ρ P => wa ρ fun ds ρ1 => wc ds fun es => P es ρ1
theorem sndF_op {r : R2} {w2 : D → D → (List D → Prop) → Prop} (h2 : SnF2 K r w2) (ha : Snd K ta wa) (hb : Snd K tb wb) : SndF K (tOp r ta tb) (wFBin w2 wa wb) := fun M σ H ρ pv pd P Q A h q => by
  refine ha M σ H ρ pv pd _ _ A h fun x dx H1 ρ1 A1 h1 => ?_
  refine hb M σ H1 ρ1 _ _ _ _ A1 h1 fun y dy H2 ρ2 A2 h2' => ?_
  obtain ⟨ow, B, hp⟩ := A2
  cases hp with
  | cons gy hp =>
    cases hp with
    | cons gx hp =>
      refine h2 M.lc (hdO M ow) H2 x y dx dy _ _ B.hall gx gy h2' fun xs ds p g hn pp => ?_
      exact q p ds _ ρ2 (At.plus ⟨ow, B, g.app hp⟩ g.length hn) pp
theorem sndF_b {r : List V → Hp → VK → Prop} {wc : List D → (List D → Prop) → Prop} (hsn : SnFC K r wc) (h : SndA K t wr) : SndF K (tCB r t) (wFB wc wr) := fun M σ H ρ pv pd P Q A hw q => by
  refine h M σ H ρ pv pd _ _ A hw fun vs ds H1 ρ1 hl A1 h1 => ?_
  obtain ⟨ow, B, hp⟩ := A1
  obtain ⟨g1, g2⟩ := DvAll.split hl hp
  refine hsn M.lc (hdO M ow) H1 vs ds _ _ B.hall g1 h1 fun ys es p g hn pp => ?_
  exact q p es _ ρ1 (At.plus ⟨ow, B, g.app g2⟩ g.length hn) pp
def fRep : D → D → (List D → Prop) → Prop
  | .list a, .int k, P => -(2 ^ 63) ≤ k ∧ k < 2 ^ 63 ∧ a.length * k.toNat ≤ 100000 ∧ P (List.replicate k.toNat a).flatten
  | _, _, _ => False
theorem snf_rep : SnF2 K rRep fRep := fun lc hd H x y a b P Q al hx hy h q => by
  unfold fRep at h
  split at h
  · cases hy
    cases hx with
    | lst g1 g2 => exact ⟨_, _, _, rfl, rfl, hide_le _ _ g1, h.1, h.2.1, by rw [g2.length]; exact size_ok h.2.2.1, fun p hp => q _ _ p (Vrep g2 _) hp h.2.2.2⟩
  · exact h.elim
theorem df_rep (ha : DE X a ta wa) (hb : DE X b tb wb) : DF X (.BinOp a .Mult b pos) (tOp rRep ta tb) (wFBin fRep wa wb) := ⟨pe_op op_rep ha.pe hb.pe, sndF_op snf_rep ha.sd hb.sd⟩
def fList : List D → (List D → Prop) → Prop
  | [.tuple ds], P => P ds
  | [.list ds], P => P ds
  | _, _ => False
theorem snf_list : SnFC K (rListV K) fList := fun lc hd H xs as P Q al hx h q => by
  unfold fList at h
  split at h
  · obtain ⟨x, rfl, g⟩ := da1 hx
    cases g with
    | tup g1 g2 => exact ⟨_, _, rfl, .inr (same_t hide_le g1), fun l hl => q _ _ l g2 hl h⟩
  · obtain ⟨x, rfl, g⟩ := da1 hx
    cases g with
    | lst g1 g2 => exact ⟨_, _, rfl, .inl (.of (hide_le _ _ g1)), fun l hl => q _ _ l g2 hl h⟩
  · exact h.elim
theorem df_list (hg : Gl X "list") (hm : X.mg "list" = none) (ha : DA X (e :: es) t wr) (he : starEach (e :: es) X.env = (false, eval e X.env) :: starEach es X.env := by rfl) (hpl : (backTo pos (starEach es X.env)).any (·.1) = false := by rfl) :
    DF X (.Call (.Name "list" p) (e :: es) [] pos) (tCB (rListV X.K) t) (wFB fList wr) := ⟨pe_callTy call_list_of hg hm (by decide +kernel) ha.pa (by decide) (by decide) he hpl, sndF_b snf_list ha.sd⟩
end
end DL

namespace DL
open PySem PySem.Spec PyProof.Rows L2

/-! ## targets -/
abbrev WG := D → Rho → (Rho → Prop) → Prop
abbrev WGs := List D → Rho → (Rho → Prop) → Prop
def SndG (K : Fg) (g : TG) (w : WG) : Prop := ∀ (M : Amb) (σ : L2.St) (H : Hp) (ρ : Rho) (pv : List V) (pd : List D) (v : V) (d : D) (P : Rho → Prop) (Q : L2.St → Hp → Prop),
  At K M σ H ρ (v :: pv) (d :: pd) → w d ρ P → (∀ σ' H' ρ', At K M σ' H' ρ' pv pd → P ρ' → Q σ' H') → g v σ H Q
def SndGs (K : Fg) (g : TGs) (w : WGs) : Prop := ∀ (M : Amb) (σ : L2.St) (H : Hp) (ρ : Rho) (pv : List V) (pd : List D) (vs : List V) (ds : List D) (P : Rho → Prop) (Q : L2.St → Hp → Prop),
  vs.length = ds.length → At K M σ H ρ (vs ++ pv) (ds ++ pd) → w ds ρ P → (∀ σ' H' ρ', At K M σ' H' ρ' pv pd → P ρ' → Q σ' H') → g vs σ H Q
structure DG (X : Cx) (e : Expr) (g : TG) (w : WG) : Prop where
  pg : PG X e g
  sd : SndG X.K g w
structure DGs (X : Cx) (es : List Expr) (g : TGs) (w : WGs) : Prop where
  pg : PGs X es g
  sd : SndGs X.K g w
def wgName (i : Nat) : WG := fun d ρ P => P (put ρ i (.val d))
def wgNil : WGs := fun ds ρ P => ds = [] ∧ P ρ
def wgCons (w : WG) (u : WGs) : WGs := fun ds ρ P => match ds with
  | d :: r => w d ρ fun ρ1 => u r ρ1 P
  | [] => False
def wgTup (n : Nat) (u : WGs) : WG := fun d ρ P => match d with
  | .tuple ds => ds.length = n ∧ u ds ρ P
  | _ => False
section
variable {X : Cx} {K : Fg} {e : Expr} {es : List Expr} {pos : Pos} {g : TG} {gs : TGs} {w : WG} {u : WGs}
theorem sndg_name (i : Nat) : SndG K (gName i) (wgName i) := fun M σ H ρ pv pd v d P Q A h q => q _ _ _ (A.put i rfl rfl) h
theorem dg_name {i : Nat} {x : Str} (hN : X.N.Nodup) (hi : X.N[i]? = some x := by rfl) (hx : Loc X.env.scope x := by first | exact .inl rfl | exact .inr rfl) (hf : X.fn x = true ∨ X.env.scope.names.lookup x = some .local := by first | exact .inl rfl | exact .inr rfl | assumption) : DG X (.Name x pos) (gName i) (wgName i) := ⟨pg_name hN hi hx hf, sndg_name i⟩
theorem dgs_nil : DGs X [] gNil wgNil := ⟨pgs_nil, fun M σ H ρ pv pd vs ds P Q hl A h q => by
  obtain ⟨rfl, h⟩ := h
  have : vs = [] := List.eq_nil_of_length_eq_zero hl
  subst this
  exact ⟨rfl, q _ _ _ A h⟩⟩
theorem dgs_cons (h1 : DG X e g w) (h2 : DGs X es gs u) (hc : (assignEach (e :: es) X.env).map (·.2) = assign e X.env :: (assignEach es X.env).map (·.2) := by rfl) : DGs X (e :: es) (gCons g gs) (wgCons w u) := ⟨pgs_cons h1.pg h2.pg hc, fun M σ H ρ pv pd vs ds P Q hl A h q => by
  cases ds with
  | nil => exact h.elim
  | cons d ds =>
    cases vs with
    | nil => cases hl
    | cons v vs =>
      refine ⟨v, vs, rfl, h1.sd M σ H ρ (vs ++ pv) (ds ++ pd) v d _ _ A h fun σ' H' ρ' A' h' => ?_⟩
      exact h2.sd M σ' H' ρ' pv pd vs ds _ _ (by simpa using hl) A' h' q⟩
theorem dg_tup {n k : Nat} (hc : X.calm = true) (h : DGs X es gs u) (hn : (assignEach es X.env).length = n := by rfl) (hst : (assignEach es X.env).findIdx? (·.1) = none := by rfl) : DG X (.Tuple es k pos) (gTup X.K n gs) (wgTup n u) := ⟨pg_tup hc h.pg hn hst, fun M σ H ρ pv pd v d P Q A hw q => by
  cases d <;> first | exact hw.elim | skip
  obtain ⟨ow, B, hp⟩ := A
  cases hp with
  | cons g1 hp =>
    cases g1 with
    | tup g1 g2 =>
      exact ⟨_, _, rfl, same_t hide_le g1, by rw [g2.length]; exact hw.1, h.sd M σ H ρ pv pd _ _ _ _ g2.length ⟨ow, B, g2.app hp⟩ hw.2 q⟩⟩
end

/-! ## statements -/
structure DEnds where
  nx : Rho → Prop
  rt : D → Prop
  bk : Rho → Prop := fun _ => False
  ct : Rho → Prop := fun _ => False
abbrev WS := DEnds → Rho → Prop
structure Fin (K : Fg) (M : Amb) (pv : List V) (pd : List D) (DD : DEnds) (HD : Ends) : Prop where
  nx : ∀ σ H ρ, At K M σ H ρ pv pd → DD.nx ρ → HD.nx σ H
  rt : ∀ v d H, Evo M.lc M.H0 H → Cok K M.lc M.hc H → Dv K M.lc (hide M.hd H) v d → DD.rt d → HD.rt v H
  bk : ∀ σ H ρ, At K M σ H ρ pv pd → DD.bk ρ → HD.bk σ H
  ct : ∀ σ H ρ, At K M σ H ρ pv pd → DD.ct ρ → HD.ct σ H
def SndS (K : Fg) (t : TS) (w : WS) : Prop := ∀ (M : Amb) (σ : L2.St) (H : Hp) (ρ : Rho) (pv : List V) (pd : List D) (DD : DEnds) (HD : Ends),
  At K M σ H ρ pv pd → w DD ρ → Fin K M pv pd DD HD → t HD σ H
structure DS (X : Cx) (st : Stmt) (t : TS) (w : WS) : Prop where
  ps : PS X st t
  sd : SndS X.K t w
structure DSs (X : Cx) (sts : List Stmt) (t : TS) (w : WS) : Prop where
  ps : PSs X sts t
  sd : SndS X.K t w
def wNext : WS := fun DD ρ => DD.nx ρ
def wSeq (w u : WS) : WS := fun DD ρ => w { DD with nx := u DD } ρ
def wAsg (wa : WE) (wg : WG) : WS := fun DD ρ => wa ρ fun d ρ1 => wg d ρ1 DD.nx
def wKeep (i : Nat) (wf : WF) : WS := fun DD ρ => wf ρ fun ds ρ1 => DD.nx (put ρ1 i (.own ds))
def wDrop (wa : WE) : WS := fun DD ρ => wa ρ fun _ ρ1 => DD.nx ρ1
def wRet (wa : WE) : WS := fun DD ρ => wa ρ fun d _ => DD.rt d
def wRetN : WS := fun DD _ => DD.rt .none
def wIfS (wt : WT) (w u : WS) : WS := fun DD ρ => wt ρ fun b ρ1 => if b = true then w DD ρ1 else u DD ρ1
def wBreak : WS := fun DD ρ => DD.bk ρ
def wCont : WS := fun DD ρ => DD.ct ρ
def wNever : WS := fun _ _ => False
def wPar (i j : Nat) (wa : WA) : WS := fun DD ρ => wa ρ fun ds ρ1 => match ds with
  | [a, b] => DD.nx (put (put ρ1 i (.val a)) j (.val b))
  | _ => False
def wAug (i : Nat) (w2 : D → D → (D → Prop) → Prop) (wa : WE) : WS := fun DD ρ => match look ρ i with
  | .val x => wa ρ fun y ρ1 => w2 x y fun z => DD.nx (put ρ1 i (.val z))
  | _ => False
def wWhile (wt : WT) (wb : WS) : WS := fun DD ρ => ∃ (I : Rho → Prop) (μ : Rho → Nat), I ρ ∧ ∀ ρ, I ρ → wt ρ fun b ρ1 => if b = true then
  wb { DD with nx := fun ρ' => I ρ' ∧ μ ρ' < μ ρ, ct := fun ρ' => I ρ' ∧ μ ρ' < μ ρ, bk := DD.nx } ρ1 else DD.nx ρ1
/-- a loop over the items of a list or a tuple -/
def wForD (ds : List D) (wg : WG) (wb : WS) : WS := fun DD ρ => ∃ I : Nat → Rho → Prop, I 0 ρ ∧ (∀ i x ρ, ds[i]? = some x → I i ρ → wg x ρ fun ρ1 => wb { DD with nx := I (i + 1), ct := I (i + 1), bk := DD.nx } ρ1) ∧ ∀ ρ, I ds.length ρ → DD.nx ρ
def wFor (wI : Rho → (List D → Rho → Prop) → Prop) (wg : WG) (wb : WS) : WS := fun DD ρ => wI ρ fun ds ρ1 => wForD ds wg wb DD ρ1
def SrcOk (K : Fg) (J : It) (v : V) (d : D) (ds : List D) : Prop := ∀ (M : Amb) (σ : L2.St) (H : Hp) (ρ : Rho) (pv : List V) (pd : List D), At K M σ H ρ (v :: pv) (d :: pd) →
  (∀ i (hi : i < ds.length), J.go i H ∧ ∀ x H', J.yld i H x H' → At K M σ H' ρ (x :: v :: pv) (ds[i] :: d :: pd)) ∧ J.stop ds.length H
abbrev WI := Rho → (List D → Rho → Prop) → Prop
def SndI (K : Fg) (wi : TI) (w : WI) : Prop := ∀ (M : Amb) (σ : L2.St) (H : Hp) (ρ : Rho) (pv : List V) (pd : List D) (P : List D → Rho → Prop) (R : It → Hp → Prop),
  At K M σ H ρ pv pd → w ρ P → (∀ J H1 ρ1 v d ds, At K M σ H1 ρ1 (v :: pv) (d :: pd) → SrcOk K J v d ds → P ds ρ1 → R J H1) → wi σ H R
structure DI (X : Cx) (tg iter : Expr) (wi : TI) (w : WI) : Prop where
  pi : PI X tg iter wi
  sd : SndI X.K wi w
def wiTup (wa : WE) : WI := fun ρ P => wa ρ fun d ρ1 => match d with
  | .tuple ds => P ds ρ1
  | _ => False
def wiLst (wa : WE) : WI := fun ρ P => wa ρ fun d ρ1 => match d with
  | .list ds => P ds ρ1
  | _ => False
def rngOk (j : Int) : Prop := -(2 ^ 62) ≤ j ∧ j < 2 ^ 62
def rngD (lo : Int) (n : Nat) : List D := (List.range n).map fun k => .int (lo + (k : Nat))
theorem rngD_len (lo : Int) (n : Nat) : (rngD lo n).length = n := by simp [rngD]
theorem rngD_get {lo : Int} {n i : Nat} {x : D} (h : (rngD lo n)[i]? = some x) : i < n ∧ x = .int (lo + (i : Nat)) := by
  unfold rngD at h
  rw [List.getElem?_map] at h
  cases q : (List.range n)[i]? with
  | none => rw [q] at h; cases h
  | some k =>
    rw [q] at h
    obtain ⟨h1, h2⟩ := List.getElem?_eq_some_iff.mp q
    simp at h1 h2
    cases h
    exact ⟨h1, by rw [h2]⟩
def wiR1 (wa : WA) : WI := fun ρ P => wa ρ fun ds ρ1 => match ds with
  | [.int j] => rngOk j ∧ P (rngD 0 j.toNat) ρ1
  | _ => False
def wiR2 (wa : WA) : WI := fun ρ P => wa ρ fun ds ρ1 => match ds with
  | [.int i, .int j] => rngOk i ∧ rngOk j ∧ P (rngD i (j - i).toNat) ρ1
  | _ => False
section
variable {X : Cx} {K : Fg} {a b e tg : Expr} {ta : TE} {wa : WE} {t : TA} {wr : WA} {p p2 : Pos}
theorem src_tup {l : Addr} {ds : List D} : SrcOk K (Itt K l) (.ref l) (.tuple ds) ds := fun M σ H ρ pv pd A => by
  obtain ⟨ow, B, hp⟩ := A
  cases hp with
  | cons g3 hp =>
    cases g3 with
    | @tup _ ys _ g3 g4 =>
      have hS : SqT K H l ys := same_t hide_le g3
      refine ⟨fun i hi => ?_, ⟨ys, hS, by rw [g4.length]; omega⟩⟩
      obtain ⟨y, gy, gyd⟩ := g4.get (List.getElem?_eq_getElem hi)
      refine ⟨⟨ys, y, hS, gy⟩, fun x H' hy => ?_⟩
      obtain ⟨rfl, fv⟩ := hy
      have ex : x = y := Option.some.inj ((fv _ hS).symm.trans gy)
      subst ex
      exact ⟨ow, B, .cons gyd (.cons (.tup g3 g4) hp)⟩
theorem src_lst {l : Addr} {ds : List D} : SrcOk K (Itl K l) (.ref l) (.list ds) ds := fun M σ H ρ pv pd A => by
  obtain ⟨ow, B, hp⟩ := A
  cases hp with
  | cons g3 hp =>
    cases g3 with
    | @lst _ ys _ g3 g4 =>
      have hS : SqL K H l ys := .of (hide_le _ _ g3)
      refine ⟨fun i hi => ?_, ⟨ys, hS, by rw [g4.length]; omega⟩⟩
      obtain ⟨y, gy, gyd⟩ := g4.get (List.getElem?_eq_getElem hi)
      refine ⟨⟨ys, y, hS, gy⟩, fun x H' hy => ?_⟩
      obtain ⟨rfl, fv⟩ := hy
      have ex : x = y := Option.some.inj ((fv _ hS).symm.trans gy)
      subst ex
      exact ⟨ow, B, .cons gyd (.cons (.lst g3 g4) hp)⟩
theorem src_rng {lo : Int} {n : Nat} {v : V} {d : D} : SrcOk K (Itr lo n) v d (rngD lo n) := fun M σ H ρ pv pd A => by
  refine ⟨fun i hi => ?_, by rw [rngD_len]; exact Nat.le_refl n⟩
  have hi' : i < n := by rwa [rngD_len] at hi
  refine ⟨hi', fun x H' hy => ?_⟩
  obtain ⟨rfl, rfl⟩ := hy
  obtain ⟨ow, B, hp⟩ := A
  have e : (rngD lo n)[i] = .int (lo + (i : Nat)) := (rngD_get (List.getElem?_eq_getElem hi)).2
  rw [e]
  exact ⟨ow, B, .cons (.int _) hp⟩
theorem At.dum {M : Amb} {σ : L2.St} {H : Hp} {ρ : Rho} {pv : List V} {pd : List D} (A : At K M σ H ρ pv pd) : At K M σ H ρ (.non :: pv) (.none :: pd) := by
  obtain ⟨ow, B, hp⟩ := A
  exact ⟨ow, B, .cons .non hp⟩
theorem di_tup (hi : DE X e ta wa) : DI X tg e (iTup X.K ta) (wiTup wa) := ⟨pi_tup hi.pe, fun M σ H ρ pv pd P R A h q => by
  refine hi.sd M σ H ρ pv pd _ _ A h fun v d H1 ρ1 A1 h1 => ?_
  obtain ⟨ds, rfl⟩ : ∃ ds, d = .tuple ds := by cases d <;> first | exact ⟨_, rfl⟩ | exact h1.elim
  have A2 := A1
  obtain ⟨ow, B, hp⟩ := A1
  cases hp with
  | cons g1 hp =>
    cases g1 with
    | @tup l xs _ g1 g2 => exact ⟨l, rfl, ⟨xs, same_t hide_le g1⟩, q _ _ _ _ _ _ A2 src_tup h1⟩⟩
theorem di_lst (hi : DE X e ta wa) : DI X tg e (iList X.K ta) (wiLst wa) := ⟨pi_list hi.pe, fun M σ H ρ pv pd P R A h q => by
  refine hi.sd M σ H ρ pv pd _ _ A h fun v d H1 ρ1 A1 h1 => ?_
  obtain ⟨ds, rfl⟩ : ∃ ds, d = .list ds := by cases d <;> first | exact ⟨_, rfl⟩ | exact h1.elim
  have A2 := A1
  obtain ⟨ow, B, hp⟩ := A1
  cases hp with
  | cons g1 hp =>
    cases g1 with
    | @lst l xs _ g1 g2 => exact ⟨l, rfl, ⟨xs, .of (hide_le _ _ g1)⟩, q _ _ _ _ _ _ A2 src_lst h1⟩⟩
theorem di_rng1 (hgl : Gl X "range") (hm : X.mg "range" = none) (ha : DA X [a] t wr) (hs : starEach [a] X.env = [(false, eval a X.env)] := by rfl) : DI X tg (.Call (.Name "range" p) [a] [] p2) (iRng1 t) (wiR1 wr) := ⟨pi_range1 hgl hm ha.pa hs, fun M σ H ρ pv pd P R A h q => by
  refine ha.sd M σ H ρ pv pd _ _ A h fun vs ds H1 ρ1 hl A1 h1 => ?_
  split at h1
  · next j =>
    have A2 := (At.popA A1 hl).dum
    obtain ⟨ow, B, hp⟩ := A1
    obtain ⟨v, rfl, gv⟩ := da1 (DvAll.split hl hp).1
    cases gv
    exact ⟨j, rfl, h1.1.1, h1.1.2, q _ _ _ _ _ _ A2 src_rng h1.2⟩
  · exact h1.elim⟩
theorem di_rng2 (hgl : Gl X "range") (hm : X.mg "range" = none) (ha : DA X [a, b] t wr) (hs : starEach [a, b] X.env = [(false, eval a X.env), (false, eval b X.env)] := by rfl) (hs2 : starEach [b] X.env = [(false, eval b X.env)] := by rfl) : DI X tg (.Call (.Name "range" p) [a, b] [] p2) (iRng2 t) (wiR2 wr) := ⟨pi_range2 hgl hm ha.pa hs hs2, fun M σ H ρ pv pd P R A h q => by
  refine ha.sd M σ H ρ pv pd _ _ A h fun vs ds H1 ρ1 hl A1 h1 => ?_
  split at h1
  · next i j =>
    have A2 := (At.popA A1 hl).dum
    obtain ⟨ow, B, hp⟩ := A1
    obtain ⟨v, v', rfl, gv, gv'⟩ := da2 (DvAll.split hl hp).1
    cases gv
    cases gv'
    exact ⟨i, j, rfl, ⟨h1.1.1, h1.1.2, h1.2.1.1, h1.2.1.2⟩, q _ _ _ _ _ _ A2 src_rng h1.2.2⟩
  · exact h1.elim⟩
end
section
variable {X : Cx} {K : Fg} {a b c e : Expr} {es : List Expr} {ta tb : TE} {wa wb : WE} {tt : TT} {wt : WT} {t : TA} {wr : WA} {pos p p2 : Pos} {g : TG} {wg : WG} {st : Stmt} {sts sts2 : List Stmt} {ts tu : TS} {w u : WS}
theorem dss_nil : DSs X [] tNext wNext := ⟨pss_nil, fun M σ H ρ pv pd DD HD A h F => F.nx σ H ρ A h⟩
theorem snds_seq (h1 : SndS K ts w) (h2 : SndS K tu u) : SndS K (tSeq ts tu) (wSeq w u) := fun M σ H ρ pv pd DD HD A h F =>
  h1 M σ H ρ pv pd _ { HD with nx := tu HD } A h ⟨fun σ' H' ρ' A' h' => h2 M σ' H' ρ' pv pd _ _ A' h' F, F.rt, F.bk, F.ct⟩
theorem dss_cons (h1 : DS X st ts w) (h2 : DSs X sts tu u) : DSs X (st :: sts) (tSeq ts tu) (wSeq w u) := ⟨pss_cons h1.ps h2.ps, snds_seq h1.sd h2.sd⟩
theorem dss_one (h1 : DS X st ts w) : DSs X [st] ts w := ⟨pss_one h1.ps, h1.sd⟩
theorem ds_pass : DS X (.Pass pos) tNext wNext := ⟨ps_pass, fun M σ H ρ pv pd DD HD A h F => F.nx σ H ρ A h⟩
theorem ds_break : DS X (.Break pos) tBreak wBreak := ⟨ps_break, fun M σ H ρ pv pd DD HD A h F => F.bk σ H ρ A h⟩
theorem ds_cont : DS X (.Continue pos) tCont wCont := ⟨ps_continue, fun M σ H ρ pv pd DD HD A h F => F.ct σ H ρ A h⟩
theorem ds_never : DS X st tNever wNever := ⟨ps_never, fun M σ H ρ pv pd DD HD A h F => h.elim⟩
theorem dss_never : DSs X sts tNever wNever := ⟨pss_never, fun M σ H ρ pv pd DD HD A h F => h.elim⟩
theorem ds_doc {x : Str} {j pos'} : DS X (.Expr (.Constant (.str x) j pos) pos') tNext wNext := ⟨ps_doc, fun M σ H ρ pv pd DD HD A h F => F.nx σ H ρ A h⟩
theorem snds_asg (ha : Snd K ta wa) (hg : SndG K g wg) : SndS K (tAsg ta g) (wAsg wa wg) := fun M σ H ρ pv pd DD HD A h F =>
  ha M σ H ρ pv pd _ _ A h fun v d H1 ρ1 A1 h1 => hg M σ H1 ρ1 pv pd v d _ _ A1 h1 fun σ' H' ρ' A' h' => F.nx σ' H' ρ' A' h'
theorem ds_set {i : Nat} {x : Str} {pos' : Pos} (hN : X.N.Nodup) (he : DE X e ta wa) (hi : X.N[i]? = some x := by rfl) (hx : Loc X.env.scope x := by first | exact .inl rfl | exact .inr rfl) (hs : swapsWith e (some (.Name x pos')) pos.line X.env = pure false := by rfl)
    (hf : X.fn x = true ∨ X.env.scope.names.lookup x = some .local := by first | exact .inl rfl | exact .inr rfl | assumption) : DS X (.Assign [.Name x pos'] e pos) (tAsg ta (gName i)) (wAsg wa (wgName i)) := ⟨ps_set hN hi hx he.pe hs hf, snds_asg he.sd (sndg_name i)⟩
theorem ds_asg {tg : Expr} (he : DE X e ta wa) (hg : DG X tg g wg) (hs : swapsWithSole [tg] e pos.line X.env = pure false := by rfl) (hw : swappedStores [tg] e X.env = pure none := by rfl) (h1 : (assignEach [tg] X.env).map (·.2) = [assign tg X.env] := by rfl) : DS X (.Assign [tg] e pos) (tAsg ta g) (wAsg wa wg) := ⟨ps_asg he.pe hg.pg hs hw h1, snds_asg he.sd hg.sd⟩
theorem ds_keep {i : Nat} {x : Str} {pos' : Pos} {wf : WF} (hN : X.N.Nodup) (he : DF X e ta wf) (hi : X.N[i]? = some x := by rfl) (hx : Loc X.env.scope x := by first | exact .inl rfl | exact .inr rfl) (hs : swapsWith e (some (.Name x pos')) pos.line X.env = pure false := by rfl)
    (hf : X.fn x = true ∨ X.env.scope.names.lookup x = some .local := by first | exact .inl rfl | exact .inr rfl | assumption) : DS X (.Assign [.Name x pos'] e pos) (tAsg ta (gName i)) (wKeep i wf) := ⟨ps_set hN hi hx he.pe hs hf, fun M σ H ρ pv pd DD HD A h F =>
  he.sd M σ H ρ pv pd _ _ A h fun p ds H' ρ' A' h' => F.nx _ _ _ (A'.keep i) h'⟩
theorem ds_expr (he : DE X e ta wa) (hs : swapsWith e none pos.line X.env = pure false := by rfl) : DS X (.Expr e pos) (tDrop ta) (wDrop wa) := ⟨ps_expr he.pe hs, fun M σ H ρ pv pd DD HD A h F => he.sd M σ H ρ pv pd _ _ A h fun v d H' ρ' A' h' => F.nx _ _ _ A'.pop h'⟩
theorem ds_ret (he : DE X e ta wa) : DS X (.Return (some e) pos) (tRet ta) (wRet wa) := ⟨ps_ret he.pe, fun M σ H ρ pv pd DD HD A h F => he.sd M σ H ρ pv pd _ _ A h fun v d H' ρ' A' h' => by
  obtain ⟨ow, B, hp⟩ := A'
  cases hp with
  | cons g1 g2 => exact F.rt v d H' B.evo B.cok (g1.mono (hide_same fun b o n h => ⟨fun z => n (.inl z), h⟩)) h'⟩
theorem ds_retN : DS X (.Return none pos) tRetN wRetN := ⟨ps_retN, fun M σ H ρ pv pd DD HD A h F => by
  obtain ⟨ow, B, hp⟩ := A
  exact F.rt _ _ H B.evo B.cok .non h⟩
theorem ds_if {c : Expr} (hc : DT X c tt wt) (ha : DSs X sts ts w) (hb : DSs X sts2 tu u) : DS X (.If c sts sts2 pos) (tIfS tt ts tu) (wIfS wt w u) := ⟨ps_if hc.pt ha.ps hb.ps, fun M σ H ρ pv pd DD HD A h F => by
  refine hc.sd M σ H ρ pv pd _ _ A h fun b H1 ρ1 A1 h1 => ?_
  cases b with
  | true =>
    rw [if_pos rfl] at h1 ⊢
    exact ha.sd M σ H1 ρ1 pv pd _ _ A1 h1 F
  | false =>
    rw [if_neg Bool.false_ne_true] at h1 ⊢
    exact hb.sd M σ H1 ρ1 pv pd _ _ A1 h1 F⟩
theorem ds_par {i j : Nat} {x y : Str} {px py pt : Pos} {kt k2 pt2} (hc : X.calm = true) (hN : X.N.Nodup) (ha : DA X [a, b] t wr) (hi : X.N[i]? = some x := by rfl) (hj : X.N[j]? = some y := by rfl) (hij : i ≠ j := by decide)
    (hx : X.env.scope.names.lookup x = some .local := by rfl) (hy : X.env.scope.names.lookup y = some .local := by rfl)
    (hw : swappedStores [.Tuple [.Name x px, .Name y py] kt pt] (.Tuple [a, b] k2 pt2) X.env = pure (some [x, y]) := by rfl)
    (hs : swapsWithSole [.Tuple [.Name x px, .Name y py] kt pt] (.Tuple [a, b] k2 pt2) pos.line X.env = pure false := by rfl) :
    DS X (.Assign [.Tuple [.Name x px, .Name y py] kt pt] (.Tuple [a, b] k2 pt2) pos) (tPar i j t) (wPar i j wr) := ⟨ps_par hc hN hi hj hij hx hy ha.pa hw hs, fun M σ H ρ pv pd DD HD A h F => by
  refine ha.sd M σ H ρ pv pd _ _ A h fun vs ds H1 ρ1 hl A1 h1 => ?_
  match ds, vs, hl, A1, h1 with
  | [d1, d2], [v1, v2], _, A1, h1 =>
    refine ⟨v1, v2, rfl, F.nx _ _ _ (At.put (At.put A1 i rfl rfl) j rfl rfl) h1⟩⟩
theorem snds_aug {i : Nat} {r : TIp} {w2 : D → D → (D → Prop) → Prop} (h2 : Sn2 K r w2) (ha : Snd K ta wa) : SndS K (tAug i ta r) (wAug i w2 wa) := fun M σ H ρ pv pd DD HD A h F => by
  unfold wAug at h
  split at h
  · next x e =>
    obtain ⟨ow, B, hp⟩ := A
    obtain ⟨v, h1, g1⟩ := B.val i x e
    refine ⟨v, h1, ?_⟩
    refine ha M σ H ρ (v :: pv) (x :: pd) _ _ ⟨ow, B, .cons g1 hp⟩ h fun y dy H1 ρ1 A1 h1 => ?_
    obtain ⟨ow1, B1, hp1⟩ := A1
    cases hp1 with
    | cons gy hp1 =>
      cases hp1 with
      | cons gx hp1 =>
        refine h2 M.lc (hdO M ow1) H1 v y x dy _ _ B1.hall gx gy h1 fun z d H' e g pp => ?_
        refine F.nx _ _ _ (At.put (v := z) (d := d) ⟨ow1, B1.step (.of e) (B1.cok.mono e), .cons g (hp1.mono (B1.vis (.of e)))⟩ i rfl rfl) pp
  · exact h.elim
theorem ds_aug {i : Nat} {x : Str} {op : Operator} {r : TIp} {w2 : D → D → (D → Prop) → Prop} {pos' : Pos} (hN : X.N.Nodup) (ho : PIp X op r) (h2 : Sn2 X.K r w2) (he : DE X e ta wa) (hi : X.N[i]? = some x := by rfl) (hx : Loc X.env.scope x := by first | exact .inl rfl | exact .inr rfl)
    (hf : X.fn x = true ∨ X.env.scope.names.lookup x = some .local := by first | exact .inl rfl | exact .inr rfl | assumption) : DS X (.AugAssign (.Name x pos') op e pos) (tAug i ta r) (wAug i w2 wa) := ⟨ps_aug hN hi hx he.pe ho hf, snds_aug h2 he.sd⟩
theorem ds_while {c : Expr} (hp : PassesOwn (model X.prog X.w) X.A X.env X.xe) (hc : DT X c tt wt) (hb : DSs X sts ts w) : DS X (.While c sts [] pos) (tWhile tt ts) (wWhile wt w) := ⟨ps_while hp hc.pt hb.ps, fun M σ H ρ pv pd DD HD A h F => by
  obtain ⟨I, μ, h0, hs⟩ := h
  refine ⟨fun m σ' H' => ∃ ρ', At X.K M σ' H' ρ' pv pd ∧ I ρ' ∧ μ ρ' = m, ⟨_, ρ, A, h0, rfl⟩, ?_⟩
  rintro m σ1 H1 ⟨ρ1, A1, i1, rfl⟩
  refine hc.sd M σ1 H1 ρ1 pv pd _ _ A1 (hs ρ1 i1) fun b H2 ρ2 A2 h2 => ?_
  cases b with
  | true =>
    rw [if_pos rfl] at h2 ⊢
    refine ⟨fun σ' H' => ∃ ρ', At X.K M σ' H' ρ' pv pd ∧ I ρ' ∧ μ ρ' < μ ρ1, fun σ' H' ⟨ρ', A', i', l⟩ => ⟨_, l, ρ', A', i', rfl⟩, ?_⟩
    exact hb.sd M σ1 H2 ρ2 pv pd _ _ A2 h2 ⟨fun σ' H' ρ' A' h' => ⟨ρ', A', h'⟩, F.rt, F.nx, fun σ' H' ρ' A' h' => ⟨ρ', A', h'⟩⟩
  | false =>
    rw [if_neg Bool.false_ne_true] at h2 ⊢
    exact F.nx _ _ _ A2 h2⟩
/-- what a loop or a comprehension walks: the items as data -/
theorem ds_for {iter : Expr} {wi : TI} {wI : Rho → (List D → Rho → Prop) → Prop} (hN : PassesOwn (model X.prog X.w) X.A X.env X.xe) (hc : X.calm = true) (hi : DI X a iter wi wI) (hg : DG X a g wg) (hb : DSs X sts ts w) (hfs : ∀ x, foldedSetIterable iter X.env x = pure x := by intro _; rfl) :
    DS X (.For a iter sts [] pos) (tFor wi g ts) (wFor wI wg w) := ⟨ps_for hN hc hi.pi hg.pg hb.ps hfs, fun M σ H ρ pv pd DD HD A h F => by
  refine hi.sd M σ H ρ pv pd _ _ A h fun J H1 ρ1 v d ds A1 sk h1 => ?_
  obtain ⟨I, h0, hs, hd⟩ := h1
  refine ⟨fun i m σ' H' => ∃ ρ', At X.K M σ' H' ρ' (v :: pv) (d :: pd) ∧ I i ρ' ∧ i + m = ds.length, ⟨ds.length, ρ1, A1, h0, by omega⟩, ?_⟩
  rintro i m σ2 H2 ⟨ρ2, A2, i2, em⟩
  by_cases hi : i < ds.length
  · obtain ⟨g1, g2⟩ := (sk M σ2 H2 ρ2 pv pd A2).1 i hi
    refine .inr ⟨g1, fun σ' H' => ∃ ρ', At X.K M σ' H' ρ' (v :: pv) (d :: pd) ∧ I (i + 1) ρ', fun σ' H' ⟨ρ', A', i'⟩ => ⟨m - 1, by omega, ρ', A', i', by omega⟩, fun x H' hy => ?_⟩
    refine hg.sd M σ2 _ ρ2 (v :: pv) (d :: pd) x ds[i] _ _ (g2 x H' hy) (hs i ds[i] ρ2 (List.getElem?_eq_getElem hi) i2) fun σ' H'' ρ' A' h' => ?_
    exact hb.sd M σ' H'' ρ' _ _ _ _ A' h' ⟨fun σ' H' ρ' A' h' => ⟨ρ', A', h'⟩, F.rt, fun σ' H' ρ' A' h' => F.nx _ _ _ A'.pop h', fun σ' H' ρ' A' h' => ⟨ρ', A', h'⟩⟩
  · have ei : i = ds.length := by omega
    subst ei
    exact .inl ⟨(sk M σ2 H2 ρ2 pv pd A2).2, F.nx _ _ _ A2.pop (hd _ i2)⟩⟩
end

/-! ## a def -/
def env0 (N : List Str) (ds : List D) : Rho := ds.map .val ++ List.replicate (N.length - ds.length) .un
theorem look_val : ∀ (ds : List D) (n i : Nat) (d : D), look (ds.map .val ++ List.replicate n .un) i = .val d → ds[i]? = some d
  | [], n, i, d, h => by
    exfalso
    induction n generalizing i with
    | zero => exact nomatch h
    | succ n ih =>
      cases i with
      | zero => exact nomatch h
      | succ i => exact ih i h
  | c :: ds, n, 0, d, h => by
    have : Slot.val c = .val d := h
    cases this
    rfl
  | c :: ds, n, i + 1, d, h => look_val ds n i d h
theorem look_own : ∀ (ds : List D) (n i : Nat) (es : List D), look (ds.map .val ++ List.replicate n .un) i ≠ .own es
  | [], n, i, es, h => by
    induction n generalizing i with
    | zero => exact nomatch h
    | succ n ih =>
      cases i with
      | zero => exact nomatch h
      | succ i => exact ih i h
  | c :: ds, n, 0, es, h => nomatch h
  | c :: ds, n, i + 1, es, h => look_own ds n i es h
section
variable {P : Program} {w : World} {K : Fg} {mg : Str → Option Value} {base : Heap}
theorem at_start {N : List Str} {lc : Option Addr} {hc hd : Addr → Prop} {H : Hp} {vs : List V} {ds : List D} (g : DvAll K lc (hide hd H) vs ds) (c : Cok K lc hc H) (s : ∀ b, hc b → hd b) (al : ∀ b, hd b → H b ≠ none) :
    At K ⟨lc, hc, hd, H, []⟩ (L2.start N vs) H (env0 N ds) [] [] := by
  have vis : Same (hide hd H) (hide (hdO ⟨lc, hc, hd, H, []⟩ fun _ => none) H) := hide_same fun b o n h => ⟨fun z => by
    rcases z with z | ⟨i, z⟩ | ⟨es, z⟩
    · exact n z
    · exact (nomatch z)
    · exact (nomatch z), h⟩
  refine ⟨fun _ => none, ?_, .nil⟩
  exact {
    evo := .refl H
    cok := c
    sub := s
    all := al
    len := by simp [L2.start, env0, g.length]
    val := fun i d h => by
      have e := look_val ds _ i d h
      obtain ⟨v, e1, e2⟩ := g.get e
      refine ⟨v, ?_, e2.mono vis⟩
      have hlt : i < vs.length := (List.getElem?_eq_some_iff.mp e1).1
      unfold L2.start
      rw [List.getElem?_append_left (by simpa using hlt), List.getElem?_map, e1]
      rfl
    own := fun i es h => absurd h (look_own ds _ i es)
    fre := fun i p h => nomatch h
    inj := fun i j p h => nomatch h
    gho := fun p es h => nomatch h
    gnd := .nil }
/-- THE RULE for a def -/
theorem fn_ok {x qual : Str} {st : Stmt} {f : Addr} {fd : FuncData} {N ps : List Str} {k : Nat} {pre : List D → Prop} {post : List D → D → Prop} (F : Fun K x qual st f fd) (S : FnScope N ps (defScope st)) (len : ∀ ds, pre ds → ds.length = ps.length)
    (body : ∀ (cdv : Value) (A : Around) (outer : List PySem.Env) (s : Shared) (H : Hp) (E : XK), Room k (A.deeper (envOfC qual (defScope st) s.heap.objs.size f cdv)) →
      ∃ t u, DSs (cxOf CX0 P w K mg base N qual (defScope st) f cdv A outer s H E).nox (defBody st) t u ∧ ∀ ds, pre ds → u { nx := fun _ => post ds .none, rt := post ds } (env0 N ds)) :
    FnOk P w K mg base CX0 (k + 1) f fd ps (SpD K pre post) := by
  refine F.ok S (fun vs H Q E h => ?_) (fun cdv A outer s H vs Q E hr h => ?_)
  · obtain ⟨lc, hc, hd, ds, g, c, sb, al, p, q⟩ := h
    rw [g.length]
    exact len ds p
  · obtain ⟨lc, hc, hd, ds, g, c, sb, al, p, q⟩ := h
    obtain ⟨t, u, b, hu⟩ := body cdv A outer s H E hr
    refine ⟨t, b.ps, b.sd ⟨lc, hc, hd, H, []⟩ (L2.start N vs) H (env0 N ds) [] [] _ _ (at_start g c sb al) (hu ds p) ⟨fun σ' H' ρ' A' h' => ?_, fun v d H' e c' g' h' => q v d H' e c' g' h', fun _ _ _ _ h => h.elim, fun _ _ _ _ h => h.elim⟩⟩
    obtain ⟨ow, B, _⟩ := A'
    exact q _ _ H' B.evo B.cok .non h'
end
end DL

namespace DL
open PySem PySem.Spec PyProof.Rows L2

/-! ## comprehensions -/
theorem put_put : ∀ (ρ : Rho) (i : Nat) (s t : Slot), put (put ρ i s) i t = put ρ i t
  | [], _, _, _ => rfl
  | _ :: r, 0, _, _ => rfl
  | x :: r, n + 1, s, t => congrArg (x :: ·) (put_put r n s t)
section
variable {X : Cx} {K : Fg} {M : Amb} {H H' : Hp} {σ : L2.St} {ρ : Rho} {pv : List V} {pd : List D} {ow : Nat → Option Addr} {p : Addr} {ds : List D}
/-- nothing is known of slot i any more -/
theorem At.unset (A : At K M σ H ρ pv pd) (i : Nat) {σ' : L2.St} (hl : σ'.length = σ.length) (e : ∀ j, j ≠ i → σ'[j]? = σ[j]?) : At K M σ' H (DL.put ρ i .un) pv pd := by
  obtain ⟨ow, A, h⟩ := A
  refine ⟨owOff ow i, ?_, h.mono (vis_off ow i H)⟩
  exact {
    evo := A.evo
    cok := A.cok
    sub := A.sub
    all := A.all
    len := by rw [put_length, hl]; exact A.len
    val := fun j d hj => by
      by_cases hji : j = i
      · subst hji
        rcases look_put ρ j .un with z | z <;> (rw [z] at hj; cases hj)
      · rw [look_put_ne _ _ _ _ hji] at hj
        obtain ⟨u, g1, g2⟩ := A.val j d hj
        exact ⟨u, by rw [e j hji]; exact g1, g2.mono (vis_off ow i H)⟩
    own := fun j es hj => by
      by_cases hji : j = i
      · subst hji
        rcases look_put ρ j .un with z | z <;> (rw [z] at hj; cases hj)
      · rw [look_put_ne _ _ _ _ hji] at hj
        obtain ⟨p', xs', g1, g2, g3, g4⟩ := A.own j es hj
        exact ⟨p', xs', by rw [owOff_ne ow hji]; exact g1, by rw [e j hji]; exact g2, g3, g4.mono (vis_off ow i H)⟩
    fre := fun j p hj => A.fre j p (owOff_some hj).2
    inj := fun j k p hj hk => A.inj j k p (owOff_some hj).2 (owOff_some hk).2
    gho := fun p ds h => by
      obtain ⟨h1, h2, xs, h3, h4⟩ := A.gho p ds h
      exact ⟨h1, fun j hj => h2 j (owOff_some hj).2, xs, h3, h4.mono (vis_off ow i H)⟩
    gnd := A.gnd }
theorem hdO_swap {ds es : List D} {b : Addr} (h : hdO (M.plus p ds) ow b) : hdO (M.plus p es) ow b := by
  rcases h with h | h | ⟨cs, h⟩
  · exact .inl h
  · exact .inr (.inl h)
  · rcases List.mem_cons.mp h with e | h
    · cases e
      exact .inr (.inr ⟨es, List.mem_cons_self ..⟩)
    · exact .inr (.inr ⟨cs, List.mem_cons_of_mem _ h⟩)
/-- a list that is being made gets another content -/
theorem AtW.ghset {es : List D} {ys : List V} (A : AtW K (M.plus p ds) σ H ρ ow) (g : DvAll K M.lc (hide (hdO (M.plus p ds) ow) H) ys es) : AtW K (M.plus p es) σ (upd H p (.lst ys)) ρ ow ∧ Same (hide (hdO (M.plus p ds) ow) H) (hide (hdO (M.plus p es) ow) (upd H p (.lst ys))) := by
  obtain ⟨h1, h2, xs, h3, h4⟩ := A.gho p ds (List.mem_cons_self ..)
  have hid : hdO (M.plus p ds) ow p := .inr (.inr ⟨ds, List.mem_cons_self ..⟩)
  have vis : Same (hide (hdO (M.plus p ds) ow) H) (hide (hdO (M.plus p es) ow) (upd H p (.lst ys))) := hide_same fun b o n h => by
    have hb : b ≠ p := fun z => n (z ▸ hid)
    exact ⟨fun z => n (hdO_swap z), by rw [upd_ne hb]; exact h⟩
  have nl : M.lc ≠ some p := A.nel h1
  have nd : ¬ M.hd p := A.ne h1
  refine ⟨?_, vis⟩
  exact {
    evo := fun b o n h => by
      have hb : b ≠ p := fun z => by
        subst z
        have : (M.plus b es).H0 b = none := h1
        rw [this] at h; cases h
      rw [upd_ne hb]; exact A.evo b o n h
    cok := fun b hb => by
      obtain ⟨⟨q, ns, pos, dig, cnt, e1, e2, e3, e4, e5, e6⟩, e7⟩ := A.cok b hb
      have hbp : b ≠ p := fun z => nl (z ▸ hb)
      have hqp : q ≠ p := fun z => nd (z ▸ A.sub q e6)
      refine ⟨⟨q, ns, pos, dig, cnt, by rw [upd_ne hbp]; exact e1, ?_, e3, e4, e5, e6⟩, e7⟩
      rcases e2 with (e2 | ⟨o, e2⟩) | e2
      · exact .inl (.inl (by rw [upd_ne hqp]; exact e2))
      · exact .inl (.inr ⟨o, by rw [upd_ne hqp]; exact e2⟩)
      · exact .inr e2
    sub := A.sub
    all := A.all
    len := A.len
    val := fun j d hj => by
      obtain ⟨u, g1, g2⟩ := A.val j d hj
      exact ⟨u, g1, g2.mono vis⟩
    own := fun j cs hj => by
      obtain ⟨p', xs', g1, g2, g3, g4⟩ := A.own j cs hj
      have hb : p' ≠ p := fun z => h2 j (z ▸ g1)
      exact ⟨p', xs', g1, g2, by rw [upd_ne hb]; exact g3, g4.mono vis⟩
    fre := fun j q hj => by
      have hb : q ≠ p := fun z => h2 j (z ▸ hj)
      rw [upd_ne hb]
      exact A.fre j q hj
    inj := A.inj
    gho := fun q cs h => by
      rcases List.mem_cons.mp h with z | z
      · cases z
        exact ⟨h1, h2, ys, upd_same, g.mono vis⟩
      · obtain ⟨k1, k2, zs, k3, k4⟩ := A.gho q cs (List.mem_cons_of_mem _ z)
        have hb : q ≠ p := fun w => by
          subst w
          exact (List.nodup_cons.mp A.gnd).1 (List.mem_map_of_mem (f := (·.1)) z)
        exact ⟨k1, k2, zs, by rw [upd_ne hb]; exact k3, k4.mono vis⟩
    gnd := A.gnd }
theorem At.grow {v : V} {d : D} {xs : List V} (A : At K (M.plus p ds) σ H ρ (v :: pv) (d :: pd)) (e : H p = some (.lst xs)) : At K (M.plus p (ds ++ [d])) σ (upd H p (.lst (xs ++ [v]))) ρ pv pd := by
  obtain ⟨ow, A, h⟩ := A
  obtain ⟨h1, h2, xs', h3, h4⟩ := A.gho p ds (List.mem_cons_self ..)
  cases h3.symm.trans e
  cases h with
  | cons g1 g2 =>
    obtain ⟨B, vis⟩ := A.ghset (h4.app (.cons g1 .nil))
    exact ⟨ow, B, g2.mono vis⟩
theorem At.gh (A : At K (M.plus p ds) σ H ρ pv pd) : ∃ xs, H p = some (.lst xs) ∧ xs.length = ds.length := by
  obtain ⟨ow, A, h⟩ := A
  obtain ⟨h1, h2, xs, h3, h4⟩ := A.gho p ds (List.mem_cons_self ..)
  exact ⟨xs, h3, h4.length⟩
end
def wCompD (ds : List D) (i : Nat) (wt : WT) (we : WE) : WF := fun ρ P => ∃ I : Nat → List D → Prop, I 0 [] ∧
  (∀ j x acc, ds[j]? = some x → I j acc → wt (put ρ i (.val x)) fun b ρ2 => ρ2 = put ρ i (.val x) ∧ if b = true then we ρ2 fun y ρ3 => ρ3 = put ρ i (.val x) ∧ acc.length < 100000 ∧ I (j + 1) (acc ++ [y]) else I (j + 1) acc) ∧
  ∀ acc, I ds.length acc → P acc (put ρ i .un)
def wComp (wI : WI) (i : Nat) (wt : WT) (we : WE) : WF := fun ρ P => wI ρ fun ds ρ1 => wCompD ds i wt we ρ1 P
def wYes : WT := fun ρ P => P true ρ
structure DTs (X : Cx) (ifs : List Expr) (t : TT) (w : WT) : Prop where
  pt : PTs X ifs t
  sd : SndT X.K t w
theorem dts_nil {X : Cx} : DTs X [] tYes wYes := ⟨pts_nil, fun M σ H ρ pv pd P Q A h q => q true H ρ A h⟩
theorem dts_one {X : Cx} {c : Expr} {t : TT} {w : WT} (h : DT X c t w) : DTs X [c] t w := ⟨pts_one h.pt, h.sd⟩
/-- the same in a block, whose own reading says nothing of the block's start -/
structure DEb (X : Cx) (e : Expr) (t : TE) (w : WE) : Prop where
  ex : ∃ t', DE X e t' w ∧ t' = t
structure DTb (X : Cx) (ifs : List Expr) (t : TT) (w : WT) : Prop where
  ex : ∃ t', DTs X ifs t' w ∧ t' = t
theorem DEb.de {X : Cx} {e : Expr} {t : TE} {w : WE} (h : DEb X e t w) : DE X e t w := by
  obtain ⟨t', h1, rfl⟩ := h.ex
  exact h1
theorem DTb.dt {X : Cx} {e : List Expr} {t : TT} {w : WT} (h : DTb X e t w) : DTs X e t w := by
  obtain ⟨t', h1, rfl⟩ := h.ex
  exact h1
theorem df_comp {X : Cx} {elt tg iter : Expr} {ifs : List Expr} {scope : Scope} {i : Nat} {x : Str} {pos : Pos} {wi : TI} {tt : TT} {te : TE} {wI : WI} {wt : WT} {we : WE} (hc : X.calm = true) (hN : X.N.Nodup) (hi : DI X tg iter wi wI) (ok : BlkOk X.N X.env.scope scope [(x, i)])
    (hg : ∀ (s : Shared) (H : Hp) (C : Addr) (cl : List (Str × Addr)) (fp : List Addr), PG (X.blk s H scope (compEnvC scope cl C X.env) fp) tg (gName i)) (ht' : ∀ (s : Shared) (H : Hp) (C : Addr) (cl : List (Str × Addr)) (fp : List Addr), DTb (X.blk s H scope (compEnvC scope cl C X.env) fp) ifs tt wt)
    (he' : ∀ (s : Shared) (H : Hp) (C : Addr) (cl : List (Str × Addr)) (fp : List Addr), DEb (X.blk s H scope (compEnvC scope cl C X.env) fp) elt te we) (hs : ∀ x, foldedSetIterable iter X.env x = pure x := by intro _; rfl) :
    DF X (.ListComp elt [⟨tg, iter, ifs, 0⟩] scope pos) (tLc wi (gName i) tt te [i]) (wComp wI i wt we) := by
  have ht := fun s H C cl fp => (ht' s H C cl fp).dt
  have he := fun s H C cl fp => (he' s H C cl fp).de
  have sT : SndT X.K tt wt := (ht X.s_0 (fun _ => none) 0 [] []).sd
  have sE : Snd X.K te we := (he X.s_0 (fun _ => none) 0 [] []).sd
  refine ⟨pe_lc (own := [(x, i)]) (g := gName i) hc hN hi.pi ok hg (fun s H C cl fp => (ht s H C cl fp).pt) (fun s H C cl fp => (he s H C cl fp).pe) hs, fun M σ H ρ pv pd P Q A h q => ?_⟩
  refine hi.sd M σ H ρ pv pd _ _ A h fun J H1 ρ1 v d ds A1 sk h1 => ?_
  obtain ⟨I, h0, hs, hd⟩ := h1
  intro D0 hD
  have w0 : ∀ σ' : L2.St, wipe σ' [i] = σ'.set i none := fun σ' => rfl
  have l0 : ∀ σ' : L2.St, (wipe σ' [i]).length = σ'.length := fun σ' => wipe_length _ _
  have A1' : At X.K M (wipe σ [i]) H1 (put ρ1 i .un) (v :: pv) (d :: pd) := A1.unset i (l0 σ) fun j hj => by rw [w0, List.getElem?_set_ne (fun z => hj z.symm)]
  refine ⟨fun j m H' => ∃ acc, At X.K (M.plus D0 acc) (wipe σ [i]) H' (put ρ1 i .un) (v :: pv) (d :: pd) ∧ I j acc ∧ j + m = ds.length, ⟨ds.length, [], ?_, h0, by omega⟩, ?_⟩
  · exact At.plus (vs := []) (ds := []) A1' rfl hD
  rintro j m H2 ⟨acc, A2, i2, em⟩
  by_cases hi : j < ds.length
  · obtain ⟨g1, g2⟩ := (sk _ _ H2 _ pv pd A2).1 j hi
    refine .inr ⟨g1, fun H' => ∃ acc, At X.K (M.plus D0 acc) (wipe σ [i]) H' (put ρ1 i .un) (v :: pv) (d :: pd) ∧ I (j + 1) acc, fun H' ⟨acc, A', i'⟩ => ⟨m - 1, by omega, acc, A', i', by omega⟩, fun y H' hy => ?_⟩
    have A3 : At X.K (M.plus D0 acc) ((wipe σ [i]).set i (some y)) H' (put ρ1 i (.val ds[j])) (v :: pv) (d :: pd) := by
      have := At.put (g2 y H' hy) i rfl rfl
      rwa [put_put] at this
    have back : ∀ {H' : Hp} {acc : List D}, At X.K (M.plus D0 acc) ((wipe σ [i]).set i (some y)) H' (put ρ1 i (.val ds[j])) (v :: pv) (d :: pd) → At X.K (M.plus D0 acc) (wipe σ [i]) H' (put ρ1 i .un) (v :: pv) (d :: pd) := fun {H' acc} A => by
      have := A.unset i (σ' := wipe σ [i]) (by rw [List.length_set]) fun k hk => by rw [List.getElem?_set_ne (fun z => hk z.symm)]
      rwa [put_put] at this
    refine ⟨by rw [w0, w0, List.set_set, List.set_set], ?_⟩
    refine sT _ _ _ _ _ _ _ _ A3 (hs j ds[j] acc (List.getElem?_eq_getElem hi) i2) fun b H3 ρ2 A4 h4 => ?_
    obtain ⟨rfl, h4⟩ := h4
    cases b with
    | true =>
      rw [if_pos rfl] at h4 ⊢
      refine sE _ _ _ _ _ _ _ _ A4 h4 fun z dz H4 ρ3 A5 h5 => ?_
      obtain ⟨rfl, hz, h5⟩ := h5
      obtain ⟨xs, e1, e2⟩ := A5.gh
      exact ⟨xs, e1, by rw [e2]; exact size_lt hz, _, back (A5.grow e1), h5⟩
    | false =>
      rw [if_neg Bool.false_ne_true] at h4 ⊢
      exact ⟨acc, back A4, h4⟩
  · have ei : j = ds.length := by omega
    subst ei
    refine .inl ⟨(sk _ _ H2 _ pv pd A2).2, q D0 acc H2 _ ?_ (hd acc i2)⟩
    have := A2.pop.unset i (σ' := σ) (l0 σ).symm fun k hk => by rw [w0, List.getElem?_set_ne (fun z => hk z.symm)]
    rwa [put_put] at this

/-! ## slices -/
section
variable {X : Cx} {K : Fg} {a e : Expr} {lo hi : Option Expr} {ta tb : TE} {wa wb : WE} {pos p2 : Pos}
abbrev WO := Rho → (Option Int → Rho → Prop) → Prop
def SndO (K : Fg) (t : TO) (w : WO) : Prop := ∀ (M : Amb) (σ : L2.St) (H : Hp) (ρ : Rho) (pv : List V) (pd : List D) (P : Option Int → Rho → Prop) (Q : Option Int → Hp → Prop),
  At K M σ H ρ pv pd → w ρ P → (∀ o H' ρ', At K M σ H' ρ' pv pd → P o ρ' → Q o H') → t σ H Q
structure DO (X : Cx) (e : Option Expr) (t : TO) (w : WO) : Prop where
  po : PO X e t
  sd : SndO X.K t w
def wNoPart : WO := fun ρ P => P none ρ
def wPart (wa : WE) : WO := fun ρ P => wa ρ fun d ρ1 => match d with
  | .int i => P (some i) ρ1
  | _ => False
theorem do_none : DO X none tNoPart wNoPart := ⟨po_none, fun M σ H ρ pv pd P Q A h q => q _ _ _ A h⟩
theorem do_some (h : DE X e ta wa) : DO X (some e) (tPart ta) (wPart wa) := ⟨po_some h.pe, fun M σ H ρ pv pd P Q A hw q => by
  refine h.sd M σ H ρ pv pd _ _ A hw fun v d H1 ρ1 A1 h1 => ?_
  have A2 := A1.pop
  obtain ⟨ow, B, hp⟩ := A1
  cases hp with
  | cons g1 hp =>
    cases g1 with
    | int i => exact ⟨i, rfl, q _ _ _ A2 h1⟩
    | _ => exact h1.elim⟩
def cutD (xs : List D) (lo hi : Option Int) : List D := (xs.drop (HT.sIx xs.length 0 lo)).take (HT.sIx xs.length xs.length hi - HT.sIx xs.length 0 lo)
theorem cut_dv {lc : Option Addr} {H : Hp} {ds : List D} {vs : List V} {lo hi : Option Int} (h : DvAll K lc H vs ds) : DvAll K lc H (cutV vs lo hi) (cutD ds lo hi) := by
  unfold cutV cutD
  rw [h.length]
  exact (h.drop _).take _
def wSlL (wa : WE) (w1 w2 : WO) : WF := fun ρ P => wa ρ fun d ρ1 => w1 ρ1 fun lo ρ2 => w2 ρ2 fun hi ρ3 => match d with
  | .list ds => P (cutD ds lo hi) ρ3
  | _ => False
variable {t1 t2 : TO} {w1 w2 : WO}
theorem df_slice (he : DE X e ta wa) (hl : DO X lo t1 w1) (hu : DO X hi t2 w2) : DF X (.Subscript e (.Slice lo hi none p2) pos) (tSl (rSlL X.K) ta t1 t2) (wSlL wa w1 w2) := ⟨pe_slice sl_list he.pe hl.po hu.po, fun M σ H ρ pv pd P Q A h q => by
  refine he.sd M σ H ρ pv pd _ _ A h fun v d H1 ρ1 A1 h1 => ?_
  refine hl.sd M σ H1 ρ1 _ _ _ _ A1 h1 fun lo H2 ρ2 A2 h2 => ?_
  refine hu.sd M σ H2 ρ2 _ _ _ _ A2 h2 fun hi H3 ρ3 A3 h3 => ?_
  obtain ⟨ow, B, hp⟩ := A3
  cases hp with
  | cons g1 hp =>
    obtain ⟨ds, rfl⟩ : ∃ ds, d = .list ds := by cases d <;> first | exact ⟨_, rfl⟩ | exact h3.elim
    cases g1 with
    | @lst l xs _ g1 g2 =>
      refine ⟨l, xs, rfl, .of (hide_le _ _ g1), fun p hp0 => q p _ _ _ (At.plus ⟨ow, B, (cut_dv g2).app hp⟩ (cut_dv g2).length hp0) h3⟩⟩
def wSlT (wa : WE) (w1 w2 : WO) : WE := fun ρ P => wa ρ fun d ρ1 => w1 ρ1 fun lo ρ2 => w2 ρ2 fun hi ρ3 => match d with
  | .tuple ds => P (.tuple (cutD ds lo hi)) ρ3
  | _ => False
theorem de_slice (he : DE X e ta wa) (hl : DO X lo t1 w1) (hu : DO X hi t2 w2) : DE X (.Subscript e (.Slice lo hi none p2) pos) (tSl (rSlA X.K) ta t1 t2) (wSlT wa w1 w2) := ⟨pe_slice sl_tupA he.pe hl.po hu.po, fun M σ H ρ pv pd P Q A h q => by
  refine he.sd M σ H ρ pv pd _ _ A h fun v d H1 ρ1 A1 h1 => ?_
  refine hl.sd M σ H1 ρ1 _ _ _ _ A1 h1 fun lo H2 ρ2 A2 h2 => ?_
  refine hu.sd M σ H2 ρ2 _ _ _ _ A2 h2 fun hi H3 ρ3 A3 h3 => ?_
  obtain ⟨ow, B, hp⟩ := A3
  cases hp with
  | cons g1 hp =>
    obtain ⟨ds, rfl⟩ : ∃ ds, d = .tuple ds := by cases d <;> first | exact ⟨_, rfl⟩ | exact h3.elim
    cases g1 with
    | @tup l xs _ g1 g2 =>
      refine ⟨l, xs, rfl, same_t hide_le g1, fun z => ?_, fun z p hp0 => ?_⟩
      · have e : cutD ds lo hi = ds := by
          have hl := g2.length
          rw [hl] at z
          unfold cutD
          rw [z.1, z.2]
          simp
        have h3' : P (.tuple (cutD ds lo hi)) ρ3 := h3
        rw [e] at h3'
        exact q _ _ _ _ ⟨ow, B, .cons (.tup g1 g2) hp⟩ h3'
      · have e := same_new (o := .tup (cutV xs lo hi)) hp0
        exact q _ _ _ _ ⟨ow, B.step (.of e) (B.cok.mono e), .cons (.tup (.of (new_vis B.hall hp0)) ((cut_dv g2).mono (vis_of e))) (hp.mono (B.vis (.of e)))⟩ h3⟩
end
end DL

namespace DL
open PySem PySem.Spec PyProof.Rows L2
/-- += of ints -/
def dAddI : D → D → (D → Prop) → Prop
  | .int i, .int j, P => P (.int (i + j))
  | _, _, _ => False
theorem sn2_iadd {K : Fg} : Sn2 K (rI0 fun i j => .int (i + j)) dAddI := sn2_I0 fun a b P h => by
  cases a <;> cases b <;> first | exact ⟨_, _, rfl, rfl, h⟩ | exact h.elim
def wFree (wf : WF) : WE := fun ρ P => wf ρ fun ds ρ1 => P (.list ds) ρ1
/-! ## facts about == of data -/
theorem eqOk_int (i j : Int) : eqOk (.int i) (.int j) := ⟨rfl, rfl, .inl (by simp [PyData.depth])⟩
theorem dEq_int {i j : Int} {P : D → Prop} (h : P (.bool (decide (i = j)))) : dEq (.int i) (.int j) P := ⟨eqOk_int i j, by
  have e : PyData.eqv (.int i) (.int j) = decide (i = j) := by simp [PyData.eqv, Bool.beq_eq_decide_eq]
  rw [e]; exact h⟩
theorem dNe_int {i j : Int} {P : D → Prop} (h : P (.bool (!decide (i = j)))) : dNe (.int i) (.int j) P := ⟨eqOk_int i j, by
  have e : PyData.eqv (.int i) (.int j) = decide (i = j) := by simp [PyData.eqv, Bool.beq_eq_decide_eq]
  rw [e]; exact h⟩
theorem dEq_ii {i j : Int} {P : D → Prop} : dEq (.int i) (.int j) P = P (.bool (decide (i = j))) := propext ⟨fun h => by
  have e : PyData.eqv (.int i) (.int j) = decide (i = j) := by simp [PyData.eqv, Bool.beq_eq_decide_eq]
  rw [← e]; exact h.2, dEq_int⟩
theorem dNe_ii {i j : Int} {P : D → Prop} : dNe (.int i) (.int j) P = P (.bool (!decide (i = j))) := propext ⟨fun h => by
  have e : PyData.eqv (.int i) (.int j) = decide (i = j) := by simp [PyData.eqv, Bool.beq_eq_decide_eq]
  rw [← e]; exact h.2, dNe_int⟩
theorem dIx_t {ds : List D} {i : Int} {P : D → Prop} {d : D} (h : atI ds i = some d) : dIx (.tuple ds) (.int i) P = P d := propext ⟨fun ⟨e, h1, h2⟩ => by
  rw [h] at h1; cases h1; exact h2, fun p => ⟨d, h, p⟩⟩
theorem dIx_t0 {a : D} {ds : List D} {P : D → Prop} : dIx (.tuple (a :: ds)) (.int 0) P = P a := dIx_t (atI_nat (j := 0) rfl)
theorem dIx_t1 {a b : D} {ds : List D} {P : D → Prop} : dIx (.tuple (a :: b :: ds)) (.int 1) P = P b := dIx_t (atI_nat (j := 1) rfl)
theorem dIx_t2 {a b c : D} {ds : List D} {P : D → Prop} : dIx (.tuple (a :: b :: c :: ds)) (.int 2) P = P c := dIx_t (atI_nat (j := 2) rfl)
theorem dIx_l {ds : List D} {i : Int} {P : D → Prop} {d : D} (h : atI ds i = some d) : dIx (.list ds) (.int i) P = P d := propext ⟨fun ⟨e, h1, h2⟩ => by
  rw [h] at h1; cases h1; exact h2, fun p => ⟨d, h, p⟩⟩
theorem dIx_l0 {a : D} {ds : List D} {P : D → Prop} : dIx (.list (a :: ds)) (.int 0) P = P a := dIx_l (atI_nat (j := 0) rfl)
theorem dIx_l1 {a b : D} {ds : List D} {P : D → Prop} : dIx (.list (a :: b :: ds)) (.int 1) P = P b := dIx_l (atI_nat (j := 1) rfl)
theorem dIx_l2 {a b c : D} {ds : List D} {P : D → Prop} : dIx (.list (a :: b :: c :: ds)) (.int 2) P = P c := dIx_l (atI_nat (j := 2) rfl)
theorem divOk_of {j : Int} {b : Nat} (h : j ≠ 0) (hb : j.natAbs < 2 ^ b) (h0 : 0 < b) (h9 : b ≤ 9000) : divOk j := ⟨h, Nat.lt_of_lt_of_le (PySem.Flt.log2_lt_of h0 hb) h9⟩
theorem mulOk_of {i j : Int} {a b : Nat} (ha : i.natAbs < 2 ^ a) (hb : j.natAbs < 2 ^ b) (h0 : 0 < a) (h1 : 0 < b) (h : a + b ≤ 1000000) : mulOk i j := .inr (wide_mul ha hb h0 h1 h)
end DL
namespace DL
open PySem PySem.Spec PyProof.Rows L2
theorem atI_in {α : Type} {xs : List α} {i : Int} (h0 : 0 ≤ i) (h1 : i < xs.length) : ∃ v, atI xs i = some v ∧ v ∈ xs ∧ xs[i.toNat]? = some v := by
  have hlt : i.toNat < xs.length := by omega
  refine ⟨xs[i.toNat], ?_, List.getElem_mem hlt, List.getElem?_eq_getElem hlt⟩
  have := atI_nat (xs := xs) (j := i.toNat) (v := xs[i.toNat]) (List.getElem?_eq_getElem hlt)
  rwa [Int.toNat_of_nonneg h0] at this
theorem dIx_mem {ds : List D} {i : Int} {P : D → Prop} (h0 : 0 ≤ i) (h1 : i < ds.length) (h : ∀ d, ds[i.toNat]? = some d → P d) : dIx (.list ds) (.int i) P := by
  obtain ⟨v, e, _, e2⟩ := atI_in h0 h1
  exact ⟨v, e, h v e2⟩
theorem dIx_memT {ds : List D} {i : Int} {P : D → Prop} (h0 : 0 ≤ i) (h1 : i < ds.length) (h : ∀ d, ds[i.toNat]? = some d → P d) : dIx (.tuple ds) (.int i) P := by
  obtain ⟨v, e, _, e2⟩ := atI_in h0 h1
  exact ⟨v, e, h v e2⟩
theorem wForD_of {ds : List D} {wg : WG} {wb : WS} {DD : DEnds} {ρ : Rho} (I : Nat → Rho → Prop) (h0 : I 0 ρ) (hs : ∀ i x ρ, ds[i]? = some x → I i ρ → wg x ρ fun ρ1 => wb { DD with nx := I (i + 1), ct := I (i + 1), bk := DD.nx } ρ1) (hd : ∀ ρ, I ds.length ρ → DD.nx ρ) : wForD ds wg wb DD ρ := ⟨I, h0, hs, hd⟩
theorem wForN_of {lo : Int} {n : Nat} {wg : WG} {wb : WS} {DD : DEnds} {ρ : Rho} (I : Nat → Rho → Prop) (h0 : I 0 ρ) (hs : ∀ i ρ, i < n → I i ρ → wg (.int (lo + i)) ρ fun ρ1 => wb { DD with nx := I (i + 1), ct := I (i + 1), bk := DD.nx } ρ1) (hd : ∀ ρ, I n ρ → DD.nx ρ) : wForD (rngD lo n) wg wb DD ρ :=
  ⟨I, h0, fun i x ρ hx hi => by
    obtain ⟨h1, rfl⟩ := rngD_get hx
    exact hs i ρ h1 hi, fun ρ h => hd ρ (by rwa [rngD_len] at h)⟩
theorem isi_ii (i : Int) : isiD "int" (.int i) = some true := by show kitB "int" "int" = some true; decide +kernel
theorem isi_ib (b : Bool) : isiD "int" (.bool b) = some true := by show kitB "bool" "int" = some true; decide +kernel
theorem isi_in : isiD "int" .none = some false := by show kitB "NoneType" "int" = some false; decide +kernel
theorem isi_is (s : Str) : isiD "int" (.str s) = some false := by show kitB "str" "int" = some false; decide +kernel
theorem isi_il (s : List D) : isiD "int" (.list s) = some false := by show kitB "list" "int" = some false; decide +kernel
theorem isi_it (s : List D) : isiD "int" (.tuple s) = some false := by show kitB "tuple" "int" = some false; decide +kernel
theorem isi_bi (i : Int) : isiD "bool" (.int i) = some false := by show kitB "int" "bool" = some false; decide +kernel
theorem isi_bb (b : Bool) : isiD "bool" (.bool b) = some true := by show kitB "bool" "bool" = some true; decide +kernel
theorem isi_bn : isiD "bool" .none = some false := by show kitB "NoneType" "bool" = some false; decide +kernel
theorem isi_bs (s : Str) : isiD "bool" (.str s) = some false := by show kitB "str" "bool" = some false; decide +kernel
theorem isi_bl (s : List D) : isiD "bool" (.list s) = some false := by show kitB "list" "bool" = some false; decide +kernel
theorem isi_bt (s : List D) : isiD "bool" (.tuple s) = some false := by show kitB "tuple" "bool" = some false; decide +kernel
theorem isi_ti (i : Int) : isiD "tuple" (.int i) = some false := by show kitB "int" "tuple" = some false; decide +kernel
theorem isi_tb (b : Bool) : isiD "tuple" (.bool b) = some false := by show kitB "bool" "tuple" = some false; decide +kernel
theorem isi_tn : isiD "tuple" .none = some false := by show kitB "NoneType" "tuple" = some false; decide +kernel
theorem isi_ts (s : Str) : isiD "tuple" (.str s) = some false := by show kitB "str" "tuple" = some false; decide +kernel
theorem isi_tl (s : List D) : isiD "tuple" (.list s) = some false := by show kitB "list" "tuple" = some false; decide +kernel
theorem isi_tt (s : List D) : isiD "tuple" (.tuple s) = some true := by show kitB "tuple" "tuple" = some true; decide +kernel
end DL

namespace DL
open PySem PySem.Spec PyProof.Rows L2
/-! ## math.isqrt, math.lcm -/
def bIsqrt : List D → (D → Prop) → Prop
  | [.int i], P => 0 ≤ i ∧ i.toNat.log2 < 13000 ∧ ∀ r : Nat, r * r ≤ i.toNat → i.toNat < (r + 1) * (r + 1) → P (.int (r : Nat))
  | _, _ => False
def rIsqrt : List V → Hp → VK → Prop := fun vs H Q => ∃ a : Int, vs = [.int a] ∧ 0 ≤ a ∧ a.toNat.log2 < 13000 ∧ Q (.int ((Float64.isqrt a.toNat : Nat) : Int)) H
theorem cr_isqrt {X : Cx} : CallR X (.builtin "math.isqrt") rIsqrt := by
  intro pins s σ H vs us Q I r h
  obtain ⟨a, rfl, h0, h1, q⟩ := h
  obtain ⟨u, rfl, ru⟩ := Vals.one r
  obtain ⟨t, rfl⟩ := ru
  exact call_function_meets PySem.W.MGF.kind_isqrt PySem.W.MGF.plain_isqrt PySem.W.MGF.entry_isqrt (PySem.W.MGF.args_isqrt _) (PySem.W.mg_run_isqrt a t (by omega) (by omega) (by omega)).meets ⟨.int _, H, I.tok _, ⟨_, rfl⟩, q⟩
theorem snc_isqrt {K : Fg} : SnC K rIsqrt bIsqrt := fun lc hd H xs as P Q al hx h q => by
  unfold bIsqrt at h
  split at h
  · obtain ⟨x, rfl, g⟩ := da1 hx
    cases g
    exact ⟨_, rfl, h.1, h.2.1, q _ _ H (Same.refl H) (.int _) (h.2.2 _ (Float64.isqrt_spec _).1 (Float64.isqrt_spec _).2)⟩
  · exact h.elim
def lcmOk (a b : Int) : Prop := a.natAbs.log2 < 13000 ∧ b.natAbs.log2 < 13000
def bLcm : List D → (D → Prop) → Prop
  | [.int i, .int j], P => lcmOk i j ∧ P (.int (Nat.lcm i.natAbs j.natAbs : Nat))
  | _, _ => False
def rLcm : List V → Hp → VK → Prop := fun vs H Q => ∃ a b : Int, vs = [.int a, .int b] ∧ lcmOk a b ∧ Q (.int ((Nat.lcm a.natAbs b.natAbs : Nat) : Int)) H
theorem log2_lt {n k : Nat} (h : n.log2 < k) : n < 2 ^ k := by
  by_cases h0 : n = 0
  · subst h0; exact Nat.pow_pos (by decide)
  · exact (Nat.log2_lt h0).mp h
theorem log2_le_of {n k : Nat} (hk : 0 < k) (h : n < 2 ^ k) : n.log2 < k := PySem.Flt.log2_lt_of hk h
set_option exponentiation.threshold 30000 in
theorem cr_lcm {X : Cx} : CallR X (.builtin "math.lcm") rLcm := by
  intro pins s σ H vs us Q I r h
  obtain ⟨a, b, rfl, ⟨h0, h1⟩, q⟩ := h
  obtain ⟨t, u, rfl⟩ := Vals.int2 r
  have l0 := log2_lt h0
  have l1 := log2_lt h1
  have e1 : Nat.lcm 1 a.natAbs = a.natAbs := by simp
  have hl : (Nat.lcm a.natAbs b.natAbs) < 2 ^ 26000 := by
    have : Nat.lcm a.natAbs b.natAbs ≤ a.natAbs * b.natAbs := Nat.div_le_self _ _
    have m := Nat.mul_lt_mul'' l0 l1
    rw [← Nat.pow_add] at m
    omega
  have g := PySem.W.mg_run_lcm a t b u
    (by
      have : (max 1 a.natAbs) < 2 ^ 13000 := by
        have := Nat.one_lt_two_pow (n := 13000) (by decide)
        omega
      have := log2_le_of (k := 13000) (by decide) this
      omega)
    (by
      have : (max a.natAbs b.natAbs) < 2 ^ 13000 := by omega
      have := log2_le_of (k := 13000) (by decide) this
      omega)
    (by
      rw [e1]
      show ((Nat.lcm a.natAbs b.natAbs : Nat) : Int).natAbs.log2 < bitsLine
      rw [Int.natAbs_natCast]
      have := log2_le_of (k := 26000) (by decide) hl
      have e : bitsLine = 134217728 := by decide
      omega)
  rw [e1] at g
  exact call_function_meets PySem.W.MGF.kind_lcm PySem.W.MGF.plain_lcm PySem.W.MGF.entry_lcm (PySem.W.MGF.args_lcm _ _) g.meets ⟨.int _, H, I.tok _, ⟨_, rfl⟩, q⟩
theorem snc_lcm {K : Fg} : SnC K rLcm bLcm := fun lc hd H xs as P Q al hx h q => by
  unfold bLcm at h
  split at h
  · obtain ⟨x, y, rfl, g, g'⟩ := da2 hx
    cases g
    cases g'
    exact ⟨_, _, rfl, h.1, q _ _ H (Same.refl H) (.int _) h.2⟩
  · exact h.elim
theorem fdiv_pos {a b : Int} (h : 0 ≤ b) : a.fdiv b = a / b := Int.fdiv_eq_ediv_of_nonneg a h
theorem absite (a : Int) : (if a < 0 then -a else a) = (a.natAbs : Int) := by split <;> omega
theorem lt_pow_of {n m k l : Nat} (h : n < 2 ^ k) (h1 : m ≤ n + 1) (h2 : k < l) : m < 2 ^ l := by
  have : 2 ^ (k + 1) ≤ 2 ^ l := Nat.pow_le_pow_right (by decide) h2
  have e : 2 ^ (k + 1) = 2 ^ k * 2 := Nat.pow_succ 2 k
  have p : 0 < 2 ^ k := Nat.pow_pos (by decide)
  omega
theorem abs_mul_le {x y : Int} {a b : Nat} (h1 : x.natAbs ≤ a) (h2 : y.natAbs ≤ b) : (x * y).natAbs ≤ a * b := by rw [Int.natAbs_mul]; exact Nat.mul_le_mul h1 h2
theorem fmod_bd {x m : Int} (hm : 0 < m) : 0 ≤ x.fmod m ∧ x.fmod m < m := ⟨Int.fmod_nonneg_of_pos x hm, Int.fmod_lt_of_pos x hm⟩
theorem e19 : (10 : Int) ^ (19 : Int).toNat = 10000000000000000000 := by decide
theorem p19 : CPow 10 19 := ⟨by decide, by decide, by decide⟩
theorem mem_cases {ds : List D} {i : Nat} {d : D} (h : ds[i]? = some d) : d ∈ ds := List.mem_of_getElem? h
theorem eqOk_t {xs ys : List Int} : eqOk (.tuple (xs.map .int)) (.tuple (ys.map .int)) := by
  have p : ∀ zs : List Int, PyData.plainAll (zs.map .int) = true := fun zs => by
    induction zs with
    | nil => rfl
    | cons z zs ih => simp [PyData.plainAll, PyData.plain, ih]
  have d : ∀ zs : List Int, PyData.depthAll (zs.map PyData.int) ≤ 1 := fun zs => by
    induction zs with
    | nil => simp [PyData.depthAll]
    | cons z zs ih => simp [PyData.depthAll, PyData.depth]; omega
  refine ⟨by simp [PyData.plain, p], by simp [PyData.plain, p], .inl ?_⟩
  have := d xs
  simp [PyData.depth]
  omega
theorem dEq_t2 {a b c d : Int} {P : D → Prop} : dEq (.tuple [.int a, .int b]) (.tuple [.int c, .int d]) P = P (.bool (decide (a = c ∧ b = d))) := propext ⟨fun h => by
  have e : PyData.eqv (.tuple [.int a, .int b]) (.tuple [.int c, .int d]) = decide (a = c ∧ b = d) := by simp [PyData.eqv, PyData.eqvAll, Bool.beq_eq_decide_eq]
  rw [← e]; exact h.2, fun h => ⟨eqOk_t (xs := [a, b]) (ys := [c, d]), by
  have e : PyData.eqv (.tuple [.int a, .int b]) (.tuple [.int c, .int d]) = decide (a = c ∧ b = d) := by simp [PyData.eqv, PyData.eqvAll, Bool.beq_eq_decide_eq]
  rw [e]; exact h⟩⟩
theorem dNe_t2 {a b c d : Int} {P : D → Prop} : dNe (.tuple [.int a, .int b]) (.tuple [.int c, .int d]) P = P (.bool (!decide (a = c ∧ b = d))) := propext ⟨fun h => by
  have e : PyData.eqv (.tuple [.int a, .int b]) (.tuple [.int c, .int d]) = decide (a = c ∧ b = d) := by simp [PyData.eqv, PyData.eqvAll, Bool.beq_eq_decide_eq]
  rw [← e]; exact h.2, fun h => ⟨eqOk_t (xs := [a, b]) (ys := [c, d]), by
  have e : PyData.eqv (.tuple [.int a, .int b]) (.tuple [.int c, .int d]) = decide (a = c ∧ b = d) := by simp [PyData.eqv, PyData.eqvAll, Bool.beq_eq_decide_eq]
  rw [e]; exact h⟩⟩
end DL

namespace DL
open PySem PySem.Spec PyProof.Rows L2

/-! ## lists that a name of the def owns: stores, and reading them without letting go -/
mutual
/-- no list lies within -/
def noList : D → Bool
  | .list _ => false
  | .tuple ds => noListA ds
  | .dict _ => false
  | _ => true
def noListA : List D → Bool
  | [] => true
  | d :: ds => noList d && noListA ds
end
section
variable {K : Fg} {lc : Option Addr} {H H' : Hp}
mutual
theorem Dv.strict (e : ∀ a o, H a = some o → (∀ xs, o ≠ .lst xs) → H' a = some o) : ∀ {d : D} {v : V}, noList d = true → Dv K lc H v d → Dv K lc H' v d
  | .none, _, _, h => by cases h; exact .non
  | .bool b, _, _, h => by cases h; exact .bl b
  | .int b, _, _, h => by cases h; exact .int b
  | .str b, _, _, h => by cases h; exact .str b
  | .list ds, _, n, h => by simp [noList] at n
  | .tuple ds, _, n, h => by
    cases h with
    | @tup a xs _ hs ha =>
      refine .tup ?_ (DvAll.strict e (by simpa [noList] using n) ha)
      rcases hs with (hs | ⟨o, hs⟩) | hs
      · exact .inl (.inl (e _ _ hs fun xs z => nomatch z))
      · exact .inl (.inr ⟨o, e _ _ hs fun xs z => nomatch z⟩)
      · exact .inr hs
  | .dict _, _, n, h => by simp [noList] at n
theorem DvAll.strict (e : ∀ a o, H a = some o → (∀ xs, o ≠ .lst xs) → H' a = some o) : ∀ {ds : List D} {vs : List V}, noListA ds = true → DvAll K lc H vs ds → DvAll K lc H' vs ds
  | [], _, _, h => by cases h; exact .nil
  | d :: ds, _, n, h => by
    cases h with
    | cons h1 h2 =>
      have q : noList d = true ∧ noListA ds = true := by simpa [noListA] using n
      exact .cons (Dv.strict e q.1 h1) (DvAll.strict e q.2 h2)
end
end
def noOw : Nat → Option Addr := fun _ => none
section
variable {K : Fg} {M : Amb} {H H' : Hp} {σ : L2.St} {ρ : Rho} {pv : List V} {pd : List D} {ow : Nat → Option Addr}
theorem hdO_noOw {b : Addr} (h : hdO M noOw b) : hdO M ow b := by
  rcases h with h | ⟨i, h⟩ | h
  · exact .inl h
  · exact nomatch h
  · exact .inr (.inr h)
theorem vis_noOw : Same (hide (hdO M ow) H) (hide (hdO M noOw) H) := hide_same fun b o n h => ⟨fun z => n (hdO_noOw z), h⟩
/-- data without lists doesn't meet what is owned -/
theorem AtW.strict (A : AtW K M σ H ρ ow) {v : V} {d : D} (n : noList d = true) (g : Dv K M.lc (hide (hdO M noOw) H) v d) : Dv K M.lc (hide (hdO M ow) H) v d :=
  Dv.strict (fun a o h hl => by
    obtain ⟨h1, h2⟩ := hide_some.mp h
    refine hide_some.mpr ⟨fun z => ?_, h2⟩
    rcases z with z | ⟨i, z⟩ | z
    · exact h1 (.inl z)
    · obtain ⟨f0, xs, f1⟩ := A.fre i a z
      rw [h2] at f1
      exact hl xs (Option.some.inj f1)
    · exact h1 (.inr (.inr z))) n g
/-- the owned list of slot i gets another content -/
theorem AtW.owset {i : Nat} {ds es : List D} {p : Addr} {ys : List V} (A : AtW K M σ H ρ ow) (e : look ρ i = .own ds) (hp : ow i = some p) (g : DvAll K M.lc (hide (hdO M ow) H) ys es) : AtW K M σ (upd H p (.lst ys)) (DL.put ρ i (.own es)) ow ∧ Same (hide (hdO M ow) H) (hide (hdO M ow) (upd H p (.lst ys))) := by
  obtain ⟨h1, xs, h3⟩ := A.fre i p hp
  have hid : hdO M ow p := .inr (.inl ⟨i, hp⟩)
  have vis : Same (hide (hdO M ow) H) (hide (hdO M ow) (upd H p (.lst ys))) := hide_same fun b o n h => by
    have hb : b ≠ p := fun z => n (z ▸ hid)
    exact ⟨n, by rw [upd_ne hb]; exact h⟩
  have nl : M.lc ≠ some p := A.nel h1
  have nd : ¬ M.hd p := A.ne h1
  refine ⟨?_, vis⟩
  exact {
    evo := fun b o n h => by
      have hb : b ≠ p := fun z => by
        subst z
        rw [h1] at h; cases h
      rw [upd_ne hb]; exact A.evo b o n h
    cok := fun b hb => by
      obtain ⟨⟨q, ns, pos, dig, cnt, e1, e2, e3, e4, e5, e6⟩, e7⟩ := A.cok b hb
      have hbp : b ≠ p := fun z => nl (z ▸ hb)
      have hqp : q ≠ p := fun z => nd (z ▸ A.sub q e6)
      refine ⟨⟨q, ns, pos, dig, cnt, by rw [upd_ne hbp]; exact e1, ?_, e3, e4, e5, e6⟩, e7⟩
      rcases e2 with (e2 | ⟨o, e2⟩) | e2
      · exact .inl (.inl (by rw [upd_ne hqp]; exact e2))
      · exact .inl (.inr ⟨o, by rw [upd_ne hqp]; exact e2⟩)
      · exact .inr e2
    sub := A.sub
    all := A.all
    len := by rw [put_length]; exact A.len
    val := fun j d hj => by
      by_cases hji : j = i
      · subst hji
        rcases look_put ρ j (.own es) with z | z <;> (rw [z] at hj; cases hj)
      · rw [look_put_ne _ _ _ _ hji] at hj
        obtain ⟨u, g1, g2⟩ := A.val j d hj
        exact ⟨u, g1, g2.mono vis⟩
    own := fun j cs hj => by
      by_cases hji : j = i
      · subst hji
        rcases look_put ρ j (.own es) with z | z
        · rw [z] at hj
          cases hj
          obtain ⟨p', xs', g1, g2, g3, g4⟩ := A.own j ds e
          cases hp.symm.trans g1
          exact ⟨p, ys, hp, g2, upd_same, g.mono vis⟩
        · rw [z] at hj; cases hj
      · rw [look_put_ne _ _ _ _ hji] at hj
        obtain ⟨p', xs', g1, g2, g3, g4⟩ := A.own j cs hj
        have hb : p' ≠ p := fun z => hji (A.inj j i p (z ▸ g1) hp)
        exact ⟨p', xs', g1, g2, by rw [upd_ne hb]; exact g3, g4.mono vis⟩
    fre := fun j q hj => by
      obtain ⟨f1, zs, f2⟩ := A.fre j q hj
      by_cases hb : q = p
      · subst hb
        exact ⟨f1, ys, upd_same⟩
      · exact ⟨f1, zs, by rw [upd_ne hb]; exact f2⟩
    inj := A.inj
    gho := fun q cs h => by
      obtain ⟨k1, k2, zs, k3, k4⟩ := A.gho q cs h
      have hb : q ≠ p := fun w => k2 i (w ▸ hp)
      exact ⟨k1, k2, zs, by rw [upd_ne hb]; exact k3, k4.mono vis⟩
    gnd := A.gnd }
end

/-! ### stores -/
def wApp (i : Nat) (wa : WE) : WS := fun DD ρ => match look ρ i with
  | .own _ => wa ρ fun d ρ1 => match look ρ1 i with
    | .own ds => ds.length < 100000 ∧ DD.nx (put ρ1 i (.own (ds ++ [d])))
    | _ => False
  | _ => False
def wSetIx (i : Nat) (wa wk : WE) : WS := fun DD ρ => wa ρ fun d ρ1 => match look ρ1 i with
  | .own _ => wk ρ1 fun k ρ2 => match k, look ρ2 i with
    | .int k, .own ds => ∃ j, ixN ds.length k = some j ∧ DD.nx (put ρ2 i (.own (ds.set j d)))
    | _, _ => False
  | _ => False
section
variable {X : Cx} {K : Fg} {a b e : Expr} {ta tb : TE} {wa wb : WE} {pos p p2 : Pos}
theorem ds_app {i : Nat} {x : Str} {px p1 p2 p3 : Pos} (he : DE X e ta wa) (hn : PE X (.Name x px) (tVar i)) (hbase : attributeBase (.Name x px) "append" X.env (eval (.Name x px) X.env) = eval (.Name x px) X.env := by rfl)
    (hfew : ((backTo p2 (starEach (e :: []) X.env)).all (fun x => !x.1) && (backToKw p2 (keywordEach [] X.env)).all (fun x => x.1.isSome) && decide ((e :: []).length + ([] : List Keyword).length + (if ([] : List Keyword).isEmpty then 0 else 1) < 30)) = true := by rfl)
    (hline : (p1.endLine == p2.line) = true := by rfl) (hs : starEach (e :: []) X.env = (false, eval e X.env) :: starEach [] X.env := by rfl) (hplain : (backTo p2 (starEach [] X.env)).any (·.1) = false := by rfl)
    (hsw : swapsWith (.Call (.Attribute (.Name x px) "append" p1) [e] [] p2) none p3.line X.env = pure false := by rfl) :
    DS X (.Expr (.Call (.Attribute (.Name x px) "append" p1) [e] [] p2) p3) (tDrop (tBM X.K "list" rAppend (tVar i) (tCons ta tNil))) (wApp i wa) :=
  ⟨ps_expr (pe_bm PySem.F.plainAttrs_list PySem.F.slot_list_append PySem.F.type_list_append mt_append hn (pa_cons he.pe pa_nil hs) hbase hfew hline hs hplain) hsw, fun M σ H ρ pv pd DD HD A h F => by
  have A0 := A
  obtain ⟨ow, B, hp⟩ := A
  unfold wApp at h
  split at h
  · next ds hds =>
    obtain ⟨q, xs, h1, h2, h3, h4⟩ := B.own i ds hds
    refine ⟨.ref q, h2, .inl ⟨rfl, xs, .of h3⟩, ?_⟩
    refine he.sd M σ H ρ pv pd _ _ A0 h fun v d H1 ρ1 A1 h1' => ?_
    split at h1'
    · next ds1 e1 =>
      obtain ⟨ow1, B1, hp1⟩ := A1
      cases hp1 with
      | cons gv hp1 =>
        obtain ⟨q1, xs1, k1, k2, k3, k4⟩ := B1.own i ds1 e1
        have : q1 = q := by
          rw [h2] at k2
          cases k2; rfl
        subst this
        refine ⟨q1, xs1, v, rfl, rfl, k3, ?_, ?_⟩
        · rw [k4.length]; exact size_lt h1'.1
        · obtain ⟨C, vis⟩ := B1.owset e1 k1 (k4.app (.cons gv .nil))
          exact F.nx _ _ _ ⟨ow1, C, hp1.mono vis⟩ h1'.2
    · exact h1'.elim
  · exact h.elim⟩
/-- x[k] = e, x a list of the def's own -/
theorem ds_setix {i : Nat} {x : Str} {px ps : Pos} (he : DE X e ta wa) (hk : DE X b tb wb) (hg : PG X (.Subscript (.Name x px) b p2) (gSub (tVar i) tb rSetL)) (hs : swapsWithSole [.Subscript (.Name x px) b p2] e ps.line X.env = pure false := by rfl) (hw : swappedStores [.Subscript (.Name x px) b p2] e X.env = pure none := by rfl)
    (h1 : (assignEach [.Subscript (.Name x px) b p2] X.env).map (·.2) = [assign (.Subscript (.Name x px) b p2) X.env] := by rfl)
    : DS X (.Assign [.Subscript (.Name x px) b p2] e ps) (tAsg ta (gSub (tVar i) tb rSetL)) (wSetIx i wa wb) :=
  ⟨ps_asg he.pe hg hs hw h1, fun M σ H ρ pv pd DD HD A h F => by
  refine he.sd M σ H ρ pv pd _ _ A h fun v d H1 ρ1 A1 h1 => ?_
  split at h1
  · next ds0 e0 =>
    have A1' := A1
    obtain ⟨ow0, B0, hp0⟩ := A1
    obtain ⟨q, xs0, k1, k2, k3, k4⟩ := B0.own i ds0 e0
    refine ⟨.ref q, k2, ?_⟩
    refine hk.sd M σ H1 ρ1 _ _ _ _ A1' h1 fun kk dk H2 ρ2 A2 h2 => ?_
    obtain ⟨ow2, B2, hp2⟩ := A2
    cases hp2 with
    | cons gk hp2 =>
      cases hp2 with
      | cons gv hp2 =>
        split at h2
        · next k ds e2 =>
          cases gk
          obtain ⟨j, ej, hnx⟩ := h2
          obtain ⟨q2, xs, l1, l2, l3, l4⟩ := B2.own i ds e2
          have : q2 = q := by
            rw [k2] at l2
            cases l2; rfl
          subst this
          obtain ⟨C, vis⟩ := B2.owset e2 l1 (l4.set gv j)
          exact ⟨q2, xs, k, j, rfl, rfl, l3, by rw [l4.length]; exact ej, F.nx _ _ _ ⟨ow2, C, hp2.mono vis⟩ hnx⟩
        · exact h2.elim
  · exact h1.elim⟩
end

/-! ### reading what is owned: names and ints alone, the heap stays as it is -/
def pureD : Rho → Nat → Option D := fun ρ i => match look ρ i with
  | .val d => some d
  | .own ds => some (.list ds)
  | .un => none
/-- a pure expression: its data from the names -/
abbrev WP := Rho → Option D
def SndP (K : Fg) (t : TE) (w : WP) : Prop := ∀ (M : Amb) (σ : L2.St) (H : Hp) (ρ : Rho) (ow : Nat → Option Addr) (d : D), AtW K M σ H ρ ow → w ρ = some d → ∃ v, Dv K M.lc (hide (hdO M noOw) H) v d ∧ ∀ Q : VK, Q v H → t σ H Q
structure DP (X : Cx) (e : Expr) (t : TE) (w : WP) : Prop where
  pe : PE X e t
  sd : SndP X.K t w
abbrev WPs := Rho → Option (List D)
def SndPs (K : Fg) (t : TA) (w : WPs) : Prop := ∀ (M : Amb) (σ : L2.St) (H : Hp) (ρ : Rho) (ow : Nat → Option Addr) (ds : List D), AtW K M σ H ρ ow → w ρ = some ds → ∃ vs, DvAll K M.lc (hide (hdO M noOw) H) vs ds ∧ ∀ Q : List V → Hp → Prop, Q vs H → t σ H Q
structure DPs (X : Cx) (es : List Expr) (t : TA) (w : WPs) : Prop where
  pa : PA X es t
  sd : SndPs X.K t w
def pNil : WPs := fun _ => some []
def pCons (a : WP) (r : WPs) : WPs := fun ρ => match a ρ, r ρ with
  | some d, some ds => some (d :: ds)
  | _, _ => none
def pName (i : Nat) : WP := fun ρ => pureD ρ i
def pC (d : D) : WP := fun _ => some d
section
variable {X : Cx} {K : Fg} {a b e : Expr} {es : List Expr} {ta tb : TE} {wa wb : WP} {t : TA} {wr : WPs} {pos p p2 : Pos}
theorem sndp_name (i : Nat) : SndP K (tVar i) (pName i) := fun M σ H ρ ow d A h => by
  unfold pName pureD at h
  split at h
  · next d' e =>
    cases h
    obtain ⟨v, h1, h2⟩ := A.val i _ e
    exact ⟨v, h2.mono vis_noOw, fun Q q => ⟨v, h1, q⟩⟩
  · next ds e =>
    cases h
    obtain ⟨q, xs, h1, h2, h3, h4⟩ := A.own i ds e
    refine ⟨.ref q, .lst (hide_some.mpr ⟨fun z => ?_, h3⟩) (h4.mono vis_noOw), fun Q q => ⟨_, h2, q⟩⟩
    rcases z with z | ⟨j, z⟩ | ⟨cs, z⟩
    · exact A.ne (A.fre i q h1).1 z
    · exact nomatch z
    · exact (A.gho q cs z).2.1 i h1
  · cases h
theorem dp_name (i : Nat) {x : Str} (hN : X.N[i]? = some x := by rfl) (hv : Vis X.env.scope x := by first | exact Or.inl rfl | exact Or.inr (Or.inl rfl) | exact Or.inr (Or.inr rfl)) (hd : (x == ("__debug__" : Str)) = false := by decide)
    (hcd : (x == ("__classdict__" : Str)) = false := by decide) : DP X (.Name x pos) (tVar i) (pName i) := ⟨pe_var hN hv hd hcd, sndp_name i⟩
theorem dp_int {i : Int} {j} : DP X (.Constant (.int i) j pos) (tC (.int i)) (pC (.int i)) := ⟨pe_int, fun M σ H ρ ow d A h => by cases h; exact ⟨_, .int i, fun Q q => q⟩⟩
theorem dps_nil : DPs X [] tNil pNil := ⟨pa_nil, fun M σ H ρ ow ds A h => by cases h; exact ⟨[], .nil, fun Q q => q⟩⟩
theorem dps_cons (ha : DP X e ta wa) (hr : DPs X es t wr) (hs : starEach (e :: es) X.env = (false, eval e X.env) :: starEach es X.env := by rfl) : DPs X (e :: es) (tCons ta t) (pCons wa wr) := ⟨pa_cons ha.pe hr.pa hs, fun M σ H ρ ow ds A h => by
  unfold pCons at h
  split at h
  · next d r e1 e2 =>
    cases h
    obtain ⟨v, g1, q1⟩ := ha.sd M σ H ρ ow d A e1
    obtain ⟨vs, g2, q2⟩ := hr.sd M σ H ρ ow r A e2
    exact ⟨v :: vs, .cons g1 g2, fun Q q => q1 _ (q2 _ q)⟩
  · cases h⟩
def wCallP (pre : List D → Prop) (post : List D → D → Prop) (wp : WPs) : WE := fun ρ P => match wp ρ with
  | some ds => pre ds ∧ ∀ d, post ds d → noList d = true ∧ P d ρ
  | none => False
theorem AtW.hallN {M : Amb} {σ : L2.St} {H : Hp} {ρ : Rho} {ow : Nat → Option Addr} (A : AtW K M σ H ρ ow) (b : Addr) (z : hdO M noOw b) : H b ≠ none := A.hall b (hdO_noOw z)
theorem snd_callP {pre : List D → Prop} {post : List D → D → Prop} {E : XK} (h : SndPs K t wr) : Snd K (tCall (SpD K pre post) [] E t) (wCallP pre post wr) := fun M σ H ρ pv pd P Q A hw q => by
  unfold wCallP at hw
  split at hw
  · next ds e1 =>
    obtain ⟨ow, B, hp⟩ := A
    obtain ⟨vs, g, k⟩ := h M σ H ρ ow ds B e1
    refine k _ ?_
    show SpD K pre post (vs ++ []) H Q E
    rw [List.append_nil]
    refine ⟨M.lc, M.hc, hdO M noOw, ds, g, B.cok, fun b z => .inl (B.sub b z), B.hallN, hw.1, fun v d H' e c g p => ?_⟩
    obtain ⟨nl, pp⟩ := hw.2 d p
    have B' := B.step e c
    exact q v d H' ρ ⟨ow, B', .cons (B'.strict nl g) (hp.mono (B.vis e))⟩ pp
  · exact hw.elim
theorem de_callP {CX : CXT} {k : Nat} {f : Addr} {fd : FuncData} {ps : List Str} {pre : List D → Prop} {post : List D → D → Prop} {E : XK} {x : Str} {K' : Fg} (F : FnOk X.prog X.w X.K X.mg X.base CX k f fd ps (SpD K' pre post)) (hr : Room k X.A) (hg : Gl X x) (hm : X.mg x = some (.ref f))
    (hk : PySem.W.keepIn X.K (.ref f) = true) (hb : Binds X.K fd ps []) (hx : Passes CX X E) (ha : DPs X (e :: es) t wr) (hK : X.K = K' := by rfl) (hdb : (x == ("__debug__" : Str)) = false := by decide) (he : starEach (e :: es) X.env = (false, eval e X.env) :: starEach es X.env := by rfl)
    (hpl : (backTo pos (starEach es X.env)).any (·.1) = false := by rfl) : DE X (.Call (.Name x p) (e :: es) [] pos) (tCall (SpD K' pre post) [] E t) (wCallP pre post wr) :=
  ⟨pe_call F hr hg hm hk hb .nil hx ha.pa hdb he hpl, by subst hK; exact snd_callP ha.sd⟩
/-- a comparison, an item of what names hold -/
def wBinP (w2 : D → D → (D → Prop) → Prop) (wa wb : WP) : WE := fun ρ P => match wa ρ, wb ρ with
  | some a, some b => w2 a b fun d => noList d = true ∧ P d ρ
  | _, _ => False
theorem snd_opP {r : R2} {w2 : D → D → (D → Prop) → Prop} (h2 : Sn2 K r w2) (ha : SndP K ta wa) (hb : SndP K tb wb) : Snd K (tOp r ta tb) (wBinP w2 wa wb) := fun M σ H ρ pv pd P Q A hw q => by
  unfold wBinP at hw
  split at hw
  · next x y e1 e2 =>
    obtain ⟨ow, B, hp⟩ := A
    obtain ⟨v, g1, k1⟩ := ha M σ H ρ ow x B e1
    obtain ⟨u, g2, k2⟩ := hb M σ H ρ ow y B e2
    refine k1 _ (k2 _ ?_)
    refine h2 M.lc (hdO M noOw) H v u x y _ _ B.hallN g1 g2 hw fun z d H' e g p => ?_
    have B' := B.step (.of e) (B.cok.mono e)
    exact q z d H' ρ ⟨ow, B', .cons (B'.strict p.1 g) (hp.mono (B.vis (.of e)))⟩ p.2
  · exact hw.elim
theorem de_cmpP {op : CmpOp} {r : R2} {w2 : D → D → (D → Prop) → Prop} (ho : OpR X (compareOp op) r) (h2 : Sn2 X.K r w2) (ha : DP X a ta wa) (hb : DP X b tb wb) (hm : behindInMarks op b = false := by first | exact nomark _ | rfl) : DE X (.Compare a [op] [b] pos) (tOp r ta tb) (wBinP w2 wa wb) := ⟨pe_cmpR ho ha.pe hb.pe hm, snd_opP h2 ha.sd hb.sd⟩
theorem dt_cmpP {op : CmpOp} {r : R2} {w2 : D → D → (D → Prop) → Prop} (ho : OpR X (compareOp op) r) (h2 : Sn2 X.K r w2) (ha : DP X a ta wa) (hb : DP X b tb wb) (hm : behindInMarks op b = false := by first | exact nomark _ | rfl) : DT X (.Compare a [op] [b] pos) (tTest (tOp r ta tb)) (wTest (wBinP w2 wa wb)) := ⟨pt_cmpR ho ha.pe hb.pe hm, snd_test (snd_opP h2 ha.sd hb.sd)⟩
theorem de_ixP {r : R2} {w2 : D → D → (D → Prop) → Prop} (ho : IxR X r) (h2 : Sn2 X.K r w2) (ha : DP X a ta wa) (hb : DP X b tb wb) (hs : PlainIx b := by exact fun _ _ => rfl) : DE X (.Subscript a b pos) (tOp r ta tb) (wBinP w2 wa wb) := ⟨pe_ix ho ha.pe hb.pe hs, snd_opP h2 ha.sd hb.sd⟩
def wTruP (wa : WP) : WT := fun ρ P => match wa ρ with
  | some a => match truD a with
    | some b => P b ρ
    | none => False
  | none => False
theorem dt_truP (ha : DP X a ta wa) (he : ∀ whole, isTrue a X.env whole = (do let v ← whole; standAt a.pos; holding [v] (truthy v)) := by intro _; rfl) :
    DT X a (fun σ H Q => ta σ H fun x H' => ∃ k, TruV X.K x H' k ∧ Q k H') (wTruP wa) := ⟨pt_truth ha.pe he, fun M σ H ρ pv pd P Q A hw q => by
  unfold wTruP at hw
  split at hw
  · next x e1 =>
    split at hw
    · next b e2 =>
      have A' := A
      obtain ⟨ow, B, hp⟩ := A
      obtain ⟨v, g1, k1⟩ := ha.sd M σ H ρ ow x B e1
      exact k1 _ ⟨b, tru_of e2 g1, q _ _ _ A' hw⟩
    · exact hw.elim
  · exact hw.elim⟩
def wBP (wc : List D → (D → Prop) → Prop) (wp : WPs) : WE := fun ρ P => match wp ρ with
  | some ds => wc ds fun d => noList d = true ∧ P d ρ
  | none => False
theorem snd_bP {r : List V → Hp → VK → Prop} {wc : List D → (D → Prop) → Prop} (hsn : SnC K r wc) (h : SndPs K t wr) : Snd K (tCB r t) (wBP wc wr) := fun M σ H ρ pv pd P Q A hw q => by
  unfold wBP at hw
  split at hw
  · next ds e1 =>
    obtain ⟨ow, B, hp⟩ := A
    obtain ⟨vs, g, k⟩ := h M σ H ρ ow ds B e1
    refine k _ ?_
    refine hsn M.lc (hdO M noOw) H vs ds _ _ B.hallN g hw fun v d H' e g p => ?_
    have B' := B.step (.of e) (B.cok.mono e)
    exact q v d H' ρ ⟨ow, B', .cons (B'.strict p.1 g) (hp.mono (B.vis (.of e)))⟩ p.2
  · exact hw.elim
theorem de_callBP {id : String} {x : Str} {r : List V → Hp → VK → Prop} {wc : List D → (D → Prop) → Prop} (hc : CallR X (.builtin id) r) (hs : SnC X.K r wc) (hg : Gl X x) (hm : X.mg x = none) (hv : bootBuiltins x = some (.builtin id)) (ha : DPs X (e :: es) t wr) (hn : x ≠ "__name__" := by decide)
    (hdb : (x == ("__debug__" : Str)) = false := by decide) (he : starEach (e :: es) X.env = (false, eval e X.env) :: starEach es X.env := by rfl) (hpl : (backTo pos (starEach es X.env)).any (·.1) = false := by rfl) : DE X (.Call (.Name x p) (e :: es) [] pos) (tCB r t) (wBP wc wr) :=
  ⟨pe_callB hc hg hm hv ha.pa hn hdb he hpl, snd_bP hs ha.sd⟩
/-- list(x) of an owned list: a new list of the same items, no list among them -/
def wFBP (wc : List D → (List D → Prop) → Prop) (wp : WPs) : WF := fun ρ P => match wp ρ with
  | some ds => wc ds fun es => noListA es = true ∧ P es ρ
  | none => False
theorem df_listP (hg : Gl X "list") (hm : X.mg "list" = none) (ha : DPs X (e :: es) t wr) (he : starEach (e :: es) X.env = (false, eval e X.env) :: starEach es X.env := by rfl) (hpl : (backTo pos (starEach es X.env)).any (·.1) = false := by rfl) :
    DF X (.Call (.Name "list" p) (e :: es) [] pos) (tCB (rListV X.K) t) (wFBP fList wr) := ⟨pe_callTy call_list_of hg hm (by decide +kernel) ha.pa (by decide) (by decide) he hpl, fun M σ H ρ pv pd P Q A hw q => by
  unfold wFBP at hw
  split at hw
  · next ds e1 =>
    obtain ⟨ow, B, hp⟩ := A
    obtain ⟨vs, g, k⟩ := ha.sd M σ H ρ ow ds B e1
    refine k _ ?_
    refine snf_list M.lc (hdO M noOw) H vs ds _ _ B.hallN g hw fun ys cs p g hn pp => ?_
    have gs : DvAll X.K M.lc (hide (hdO M ow) H) ys cs := DvAll.strict (fun a o h hl => by
      obtain ⟨h1, h2⟩ := hide_some.mp h
      refine hide_some.mpr ⟨fun z => ?_, h2⟩
      rcases z with z | ⟨i, z⟩ | z
      · exact h1 (.inl z)
      · obtain ⟨f0, xs, f1⟩ := B.fre i a z
        rw [h2] at f1
        exact hl xs (Option.some.inj f1)
      · exact h1 (.inr (.inr z))) pp.1 g
    exact q p cs _ ρ (At.plus ⟨ow, B, gs.app hp⟩ gs.length hn) pp.2
  · exact hw.elim⟩
end
end DL

namespace DL
open PySem PySem.Spec PyProof.Rows L2
/-! ## range with a step above zero -/
def rngC (lo c : Int) (n : Nat) : List D := (List.range n).map fun k => .int (lo + (k : Nat) * c)
theorem rngC_len (lo c : Int) (n : Nat) : (rngC lo c n).length = n := by simp [rngC]
theorem rngC_get {lo c : Int} {n i : Nat} {x : D} (h : (rngC lo c n)[i]? = some x) : i < n ∧ x = .int (lo + (i : Nat) * c) := by
  unfold rngC at h
  rw [List.getElem?_map] at h
  cases q : (List.range n)[i]? with
  | none => rw [q] at h; cases h
  | some k =>
    rw [q] at h
    obtain ⟨h1, h2⟩ := List.getElem?_eq_some_iff.mp q
    simp at h1 h2
    cases h
    exact ⟨h1, by rw [h2]⟩
def stepN (i j c : Int) : Nat := ((j - i + c - 1) / c).toNat
def wiR3 (wa : WA) : WI := fun ρ P => wa ρ fun ds ρ1 => match ds with
  | [.int i, .int j, .int c] => rngOk i ∧ rngOk j ∧ 0 < c ∧ c < 1000000 ∧ P (rngC i c (stepN i j c)) ρ1
  | _ => False
theorem src_rngC {K : Fg} {lo c : Int} {n : Nat} {v : V} {d : D} : SrcOk K (Itc lo c n) v d (rngC lo c n) := fun M σ H ρ pv pd A => by
  refine ⟨fun i hi => ?_, by rw [rngC_len]; exact Nat.le_refl n⟩
  have hi' : i < n := by rwa [rngC_len] at hi
  refine ⟨hi', fun x H' hy => ?_⟩
  obtain ⟨rfl, rfl⟩ := hy
  obtain ⟨ow, B, hp⟩ := A
  have e : (rngC lo c n)[i] = .int (lo + (i : Nat) * c) := (rngC_get (List.getElem?_eq_getElem hi)).2
  rw [e]
  exact ⟨ow, B, .cons (.int _) hp⟩
theorem rgC_pos {i j c : Int} (hi : rngOk i) (hj : rngOk j) (h0 : 0 < c) (h1 : c < 1000000) : RgC i j c (stepN i j c) := by
  obtain ⟨i1, i2⟩ := hi
  obtain ⟨j1, j2⟩ := hj
  have sz : Builtin.Range.rangeSize i j c = ((stepN i j c : Nat) : Int) := by
    unfold Builtin.Range.rangeSize stepN
    rw [if_pos h0]
    split
    · next h =>
      have e : j - i + c - 1 = (j - i - 1) + c := by omega
      rw [e, Int.add_ediv_of_dvd_right (Int.dvd_refl c), Int.ediv_self (by omega)]
      have := Int.ediv_nonneg (show 0 ≤ j - i - 1 by omega) (Int.le_of_lt h0)
      omega
    · next h =>
      have : (j - i + c - 1) / c ≤ 0 := by
        have : (j - i + c - 1) / c < 1 := Int.ediv_lt_of_lt_mul h0 (by omega)
        omega
      omega
  have szl : Builtin.Range.rangeSize i j c ≤ 2 ^ 63 - 1 ∧ 0 ≤ Builtin.Range.rangeSize i j c := by
    refine ⟨?_, by rw [sz]; exact Int.natCast_nonneg _⟩
    unfold Builtin.Range.rangeSize
    rw [if_pos h0]
    have p62 : (2 : Int) ^ 62 = 4611686018427387904 := by decide
    have p63 : (2 : Int) ^ 63 = 9223372036854775808 := by decide
    split
    · have := Int.ediv_le_self (a := j - i - 1) c (by omega)
      omega
    · omega
  have p62 : (2 : Int) ^ 62 = 4611686018427387904 := by decide
  have p63 : (2 : Int) ^ 63 = 9223372036854775808 := by decide
  have fits : ∀ x : Int, -9223372036854775808 ≤ x → x ≤ 9223372036854775807 → Builtin.Range.rangeFitsLong x = true := fun x h1 h2 => by
    unfold Builtin.Range.rangeFitsLong
    simp
    omega
  refine ⟨by omega, by omega, ?_, sz⟩
  unfold Builtin.Range.small
  rw [fits i (by omega) (by omega), fits j (by omega) (by omega), fits c (by omega) (by omega), fits _ (by omega) (by omega), if_pos h0, fits _ (by omega) (by omega)]
  simp
theorem da3 {K : Fg} {lc : Option Addr} {H : Hp} {xs : List V} {a b c : D} (h : DvAll K lc H xs [a, b, c]) : ∃ x y z, xs = [x, y, z] ∧ Dv K lc H x a ∧ Dv K lc H y b ∧ Dv K lc H z c := by
  cases h with
  | cons h1 h2 =>
    obtain ⟨y, z, rfl, h3, h4⟩ := da2 h2
    exact ⟨_, _, _, rfl, h1, h3, h4⟩
theorem di_rng3 {X : Cx} {tg a b c : Expr} {t : TA} {wr : WA} {p p2 : Pos} (hgl : Gl X "range") (hm : X.mg "range" = none) (ha : DA X [a, b, c] t wr) (hs : starEach [a, b, c] X.env = (false, eval a X.env) :: starEach [b, c] X.env := by rfl) (hpl : (backTo p2 (starEach [b, c] X.env)).any (·.1) = false := by rfl) :
    DI X tg (.Call (.Name "range" p) [a, b, c] [] p2) (iRng3 t) (wiR3 wr) := ⟨pi_range3 hgl hm ha.pa hs hpl, fun M σ H ρ pv pd P R A h q => by
  refine ha.sd M σ H ρ pv pd _ _ A h fun vs ds H1 ρ1 hl A1 h1 => ?_
  split at h1
  · next i j c =>
    have A2 := (At.popA A1 hl).dum
    obtain ⟨ow, B, hp⟩ := A1
    obtain ⟨v, v', v'', rfl, gv, gv', gv''⟩ := da3 (DvAll.split hl hp).1
    cases gv
    cases gv'
    cases gv''
    exact ⟨i, j, c, _, rfl, rgC_pos h1.1 h1.2.1 h1.2.2.1 h1.2.2.2.1, q _ _ _ _ _ _ A2 src_rngC h1.2.2.2.2⟩
  · exact h1.elim⟩
theorem wForC_of {lo c : Int} {n : Nat} {wg : WG} {wb : WS} {DD : DEnds} {ρ : Rho} (I : Nat → Rho → Prop) (h0 : I 0 ρ) (hs : ∀ i ρ, i < n → I i ρ → wg (.int (lo + i * c)) ρ fun ρ1 => wb { DD with nx := I (i + 1), ct := I (i + 1), bk := DD.nx } ρ1) (hd : ∀ ρ, I n ρ → DD.nx ρ) : wForD (rngC lo c n) wg wb DD ρ :=
  ⟨I, h0, fun i x ρ hx hi => by
    obtain ⟨h1, rfl⟩ := rngC_get hx
    exact hs i ρ h1 hi, fun ρ h => hd ρ (by rwa [rngC_len] at h)⟩
theorem eqOk_bb (a b : Bool) : eqOk (.bool a) (.bool b) := ⟨rfl, rfl, .inl (by simp [PyData.depth])⟩
theorem dNe_bb {a b : Bool} {P : D → Prop} : dNe (.bool a) (.bool b) P = P (.bool (!(a == b))) := propext ⟨fun h => by
  have e : PyData.eqv (.bool a) (.bool b) = (a == b) := by simp [PyData.eqv]
  rw [← e]; exact h.2, fun h => ⟨eqOk_bb a b, by
  have e : PyData.eqv (.bool a) (.bool b) = (a == b) := by simp [PyData.eqv]
  rw [e]; exact h⟩⟩
theorem dEq_bb {a b : Bool} {P : D → Prop} : dEq (.bool a) (.bool b) P = P (.bool (a == b)) := propext ⟨fun h => by
  have e : PyData.eqv (.bool a) (.bool b) = (a == b) := by simp [PyData.eqv]
  rw [← e]; exact h.2, fun h => ⟨eqOk_bb a b, by
  have e : PyData.eqv (.bool a) (.bool b) = (a == b) := by simp [PyData.eqv]
  rw [e]; exact h⟩⟩
end DL

namespace DL
open PySem PySem.Spec PyProof.Rows L2
/-! ## a call that is never reached -/
def pre_never : List D → Prop := fun _ => False
def post_never : List D → D → Prop := fun _ _ => False
theorem fn_never {P : Program} {w : World} {K K' : Fg} {mg : Str → Option Value} {base : Heap} {CX : CXT} {k : Nat} {f : Addr} {fd : FuncData} {ps : List Str} : FnOk P w K mg base CX k f fd ps (SpD K' pre_never post_never) where
  len := fun vs H Q E h => by
    obtain ⟨_, _, _, _, _, _, _, _, p, _⟩ := h
    exact p.elim
  run := fun A outer s H args us vs Q E _ _ _ _ h => by
    obtain ⟨_, _, _, _, _, _, _, _, p, _⟩ := h
    exact p.elim
/-! ## own[i + j] -/
section
variable {X : Cx} {K : Fg} {a b e : Expr} {ta tb : TE} {wa wb : WP} {pos : Pos}
def pAdd (wa wb : WP) : WP := fun ρ => match wa ρ, wb ρ with
  | some (.int i), some (.int j) => some (.int (i + j))
  | _, _ => none
def pSub (wa wb : WP) : WP := fun ρ => match wa ρ, wb ρ with
  | some (.int i), some (.int j) => some (.int (i - j))
  | _, _ => none
theorem dp_add (ha : DP X a ta wa) (hb : DP X b tb wb) : DP X (.BinOp a .Add b pos) (tOp (rAddD X.K) ta tb) (pAdd wa wb) := ⟨pe_op op_addD ha.pe hb.pe, fun M σ H ρ ow d A h => by
  unfold pAdd at h
  split at h
  · next i j e1 e2 =>
    cases h
    obtain ⟨v, g1, k1⟩ := ha.sd M σ H ρ ow _ A e1
    obtain ⟨u, g2, k2⟩ := hb.sd M σ H ρ ow _ A e2
    cases g1
    cases g2
    exact ⟨_, .int _, fun Q q => k1 _ (k2 _ (.inl ⟨_, _, rfl, rfl, q⟩))⟩
  · cases h⟩
theorem dp_sub (ha : DP X a ta wa) (hb : DP X b tb wb) : DP X (.BinOp a .Sub b pos) (tOp (rI0 fun i j => .int (i - j)) ta tb) (pSub wa wb) := ⟨pe_op op_sub ha.pe hb.pe, fun M σ H ρ ow d A h => by
  unfold pSub at h
  split at h
  · next i j e1 e2 =>
    cases h
    obtain ⟨v, g1, k1⟩ := ha.sd M σ H ρ ow _ A e1
    obtain ⟨u, g2, k2⟩ := hb.sd M σ H ρ ow _ A e2
    cases g1
    cases g2
    exact ⟨_, .int _, fun Q q => k1 _ (k2 _ ⟨_, _, rfl, rfl, q⟩)⟩
  · cases h⟩
end
/-! ## equality of texts -/
theorem dEq_ss {a b : Str} {P : D → Prop} : dEq (.str a) (.str b) P = P (.bool (a == b)) := propext ⟨fun h => by
  have e : PyData.eqv (.str a) (.str b) = (a == b) := by simp [PyData.eqv]
  rw [← e]; exact h.2, fun h => ⟨⟨rfl, rfl, .inl (by simp [PyData.depth])⟩, by
  have e : PyData.eqv (.str a) (.str b) = (a == b) := by simp [PyData.eqv]
  rw [e]; exact h⟩⟩
theorem dNe_ss {a b : Str} {P : D → Prop} : dNe (.str a) (.str b) P = P (.bool (!(a == b))) := propext ⟨fun h => by
  have e : PyData.eqv (.str a) (.str b) = (a == b) := by simp [PyData.eqv]
  rw [← e]; exact h.2, fun h => ⟨⟨rfl, rfl, .inl (by simp [PyData.depth])⟩, by
  have e : PyData.eqv (.str a) (.str b) = (a == b) := by simp [PyData.eqv]
  rw [e]; exact h⟩⟩
abbrev tQ : Str := Str.ofString "Q"
abbrev tF : Str := Str.ofString "F"
abbrev tP : Str := Str.ofString "P"
abbrev tZ : Str := Str.ofString "Z"
theorem s_QQ : (Str.ofString "Q" == Str.ofString "Q") = true := by decide +kernel
theorem s_FF : (Str.ofString "F" == Str.ofString "F") = true := by decide +kernel
theorem s_PP : (Str.ofString "P" == Str.ofString "P") = true := by decide +kernel
theorem s_ZZ : (Str.ofString "Z" == Str.ofString "Z") = true := by decide +kernel
theorem s_QF : (Str.ofString "Q" == Str.ofString "F") = false := by decide +kernel
theorem s_QP : (Str.ofString "Q" == Str.ofString "P") = false := by decide +kernel
theorem s_QZ : (Str.ofString "Q" == Str.ofString "Z") = false := by decide +kernel
theorem s_FQ : (Str.ofString "F" == Str.ofString "Q") = false := by decide +kernel
theorem s_FP : (Str.ofString "F" == Str.ofString "P") = false := by decide +kernel
theorem s_FZ : (Str.ofString "F" == Str.ofString "Z") = false := by decide +kernel
theorem s_PQ : (Str.ofString "P" == Str.ofString "Q") = false := by decide +kernel
theorem s_PF : (Str.ofString "P" == Str.ofString "F") = false := by decide +kernel
theorem s_PZ : (Str.ofString "P" == Str.ofString "Z") = false := by decide +kernel
theorem s_ZQ : (Str.ofString "Z" == Str.ofString "Q") = false := by decide +kernel
theorem s_ZF : (Str.ofString "Z" == Str.ofString "F") = false := by decide +kernel
theorem s_ZP : (Str.ofString "Z" == Str.ofString "P") = false := by decide +kernel
/-- equality of what is equal or not for a known reason -/
theorem dEq_of {x y : D} {b : Bool} {P : D → Prop} (h : eqOk x y) (e : PyData.eqv x y = b) : dEq x y P = P (.bool b) := propext ⟨fun z => e ▸ z.2, fun z => ⟨h, by rw [e]; exact z⟩⟩
theorem dNe_of {x y : D} {b : Bool} {P : D → Prop} (h : eqOk x y) (e : PyData.eqv x y = b) : dNe x y P = P (.bool (!b)) := propext ⟨fun z => e ▸ z.2, fun z => ⟨h, by rw [e]; exact z⟩⟩
end DL
namespace DL
open PySem PySem.Spec PyProof.Rows L2
theorem cutD_pre {xs : List D} {m : Nat} (h : m ≤ xs.length) : cutD xs none (some (m : Int)) = xs.take m := by
  unfold cutD
  rw [HT.sIx_none, HT.sIx_nat, Nat.min_eq_left h, Nat.sub_zero, List.drop_zero]
theorem cutD_suf {xs : List D} {m : Nat} (h : m ≤ xs.length) : cutD xs (some (m : Int)) none = xs.drop m := by
  unfold cutD
  rw [HT.sIx_none, HT.sIx_nat, Nat.min_eq_left h]
  exact List.take_of_length_le (by simp)
end DL
namespace DL
open PySem PySem.Spec PyProof.Rows L2
/-- a comprehension over range(N), without a condition, its items g j -/
theorem wCompR_of {N i : Nat} {we : WE} {ρ : Rho} {P : List D → Rho → Prop} (g : Nat → D) (hN : N ≤ 100000)
    (hs : ∀ (j : Nat) (Q : D → Rho → Prop), j < N → Q (g j) (put ρ i (.val (.int j))) → we (put ρ i (.val (.int j))) Q)
    (hP : P ((List.range N).map g) (put ρ i .un)) : wCompD (rngD 0 N) i wYes we ρ P := by
  refine ⟨fun j acc => acc = (List.range j).map g, rfl, fun j x acc hx hI => ?_, fun acc hI => ?_⟩
  · obtain ⟨h1, rfl⟩ := rngD_get hx
    subst hI
    refine ⟨rfl, ?_⟩
    rw [if_pos rfl, Int.zero_add]
    refine hs j _ h1 ⟨rfl, by simp; omega, ?_⟩
    show _ = (List.range (j + 1)).map g
    rw [List.range_succ, List.map_append]
    rfl
  · rw [rngD_len] at hI
    subst hI
    exact hP
end DL
namespace DL
open PySem PySem.Spec PyProof.Rows L2
/-- a comprehension over given items, without a condition, its answer es -/
theorem wCompL_of {ds es : List D} {i : Nat} {we : WE} {ρ : Rho} {P : List D → Rho → Prop} (hl : es.length = ds.length) (hN : ds.length ≤ 100000)
    (hs : ∀ (j : Nat) (x y : D) (Q : D → Rho → Prop), ds[j]? = some x → es[j]? = some y → Q y (put ρ i (.val x)) → we (put ρ i (.val x)) Q)
    (hP : P es (put ρ i .un)) : wCompD ds i wYes we ρ P := by
  refine ⟨fun j acc => acc = es.take j, rfl, fun j x acc hx hI => ?_, fun acc hI => ?_⟩
  · subst hI
    refine ⟨rfl, ?_⟩
    rw [if_pos rfl]
    have hj : j < ds.length := (List.getElem?_eq_some_iff.mp hx).1
    have hy : es[j]? = some es[j] := List.getElem?_eq_getElem (by omega)
    refine hs j x es[j] _ hx hy ⟨rfl, by simp; omega, ?_⟩
    show _ = es.take (j + 1)
    rw [List.take_succ, hy]
    rfl
  · rw [← hl, List.take_length] at hI
    subst hI
    exact hP
end DL

namespace DL
open PySem PySem.Spec PyProof.Rows L2
/-! ## enumerate(list), enumerate(list, start=k): pairs of a number and an item -/
def Itn (K : Fg) (k0 : Int) (a : Addr) : It where
  go i H := ∃ (ys : List V) (y : V), SqL K H a ys ∧ ys[i]? = some y
  yld i H v H' := ∃ T y, v = V.ref T ∧ H T = none ∧ H' = upd H T (.tup [.int (k0 + (i : Nat)), y]) ∧ (∀ ys, SqL K H a ys → ys[i]? = some y)
  stop i H := ∃ ys : List V, SqL K H a ys ∧ ys.length = i
def tnE (k0 : Int) (a e c : Addr) (i : Nat) (h : Heap) : Prop := (∃ old, IsEnum h e c (k0 + (i : Nat)) old) ∧ (h.IsListIter c a i ∧ e ≠ c)
theorem mem2 {b e c : Addr} (h : b ∈ [e, c]) : b = e ∨ b = c := by simpa using h
theorem turn_n {P : Program} {w : World} {K : Fg} {es : List Expr} {kk : Nat} {tp : Pos} (k0 : Int) (a e c : Addr) : Turn P w K (.Tuple es kk tp) (Itn K k0 a) [e, c] e (tnE k0 a e c) where
  mem := List.mem_cons_self ..
  obj i h st b hb := by
    have ⟨⟨_, he⟩, ⟨o, ho, _, hd⟩, _⟩ := st
    cases mem2 hb with
    | inl z => subst z; exact ⟨_, he, fun v q => nomatch q⟩
    | inr z => subst z; exact ⟨o, ho, fun v q => by rw [hd] at q; cases q⟩
  keep i h h' st k := by
    have ⟨⟨old, he⟩, hi, hne⟩ := st
    exact ⟨⟨old, k e (List.mem_cons_self ..) _ he⟩, (hi.at fun o q => k c (by simp) o q), hne⟩
  item := by
    intro X hP hw hK hc i pins s σ H E I hf st hg
    cases hP; cases hw; cases hK
    have ⟨⟨old, he⟩, hit, hne⟩ := st
    have ⟨ys, y, hq, hy⟩ := hg
    obtain ⟨its, rv, pl, _⟩ := I.list hq
    obtain ⟨u, hu, ru⟩ := rv.get hy
    have le := Heap.lt_size he
    have lc : c < s.heap.objs.size := by have ⟨_, q, _⟩ := hit; exact Heap.lt_size q
    have nea : e ≠ a := fun z => by
      have ⟨o, q1, q2⟩ := pl.isList
      rw [z] at he
      have z2 := q1.symm.trans he
      injection z2 with z2
      rw [z2] at q2
      exact absurd q2.1 (by simp)
    have hh := I.ok.hd hc
    have nca : a ≠ c := fun z => by
      have ⟨o, q1, q2⟩ := pl.isList
      have ⟨o', q3, q4, _⟩ := hit
      rw [← z] at q3
      have z2 := q1.symm.trans q3
      injection z2 with z2
      rw [z2] at q2
      exact absurd (q4.symm.trans q2.1) (by simp)
    have hlt : i < its.toArray.size := by
      have := (List.getElem?_eq_some_iff.mp hu).1
      simpa using this
    refine wpAny_pyNext_enum_itemC (Draws.list (A := X.A.in1) hh c a nca its.toArray) he ⟨hit, pl.isList⟩ hlt hne (by simp [hne, nea]) (fun x h1 tk hx ho hst1 hT hsz hk => ⟨_, rfl, wpAny_letOwnedTupleGo_enum (s := { s with heap := h1, toks := tk + 1 }) ho (fun h2 he2 sb => ?_)⟩)
    have hit1 := hst1.1
    have ex : x = u := by
      have : its[i]? = some x := by simpa using hx
      exact Option.some.inj (this.symm.trans hu)
    subst ex
    have hT2 := (sb.2 _ (Nat.ne_of_gt le)).trans hT
    have new : ObjOk X.prog X.w (upd H s.heap.objs.size (.tup [.int (k0 + (i : Nat)), y])) h2 s.heap.objs.size (.tup [.int (k0 + (i : Nat)), y]) := by
      refine ⟨?_, [.int (k0 + (i : Nat)) tk, x], .cons ⟨_, rfl⟩ (.cons ru .nil), _, hT2, rfl, _, rfl⟩
      show 2 ≤ sizeLine
      decide
    have I1 : Inv X pins σ (upd H s.heap.objs.size (.tup [.int (k0 + (i : Nat)), y])) { s with heap := h2, toks := tk + 1 } := by
      refine I.turnedNew (ch := [e, c]) (fun b ob hb q => ?_) hf (Nat.le_refl _) new
      have be : b ≠ e := fun z => hb (by simp [z])
      have bc : b ≠ c := fun z => hb (by simp [z])
      exact (sb.2 b be).trans (hk b ob be bc q)
    refine ⟨.ref s.heap.objs.size, _, I1, rfl, ⟨_, y, rfl, I.hok.fresh (Nat.le_refl _), rfl, fun zs hz => ?_⟩, ⟨⟨x, ?_⟩, hit1.at (fun o q => (sb.2 c (Ne.symm hne)).trans q), hne⟩, fun b hb => ?_⟩
    · rw [I.list_inj hz hq]; exact hy
    · rw [show k0 + ((i + 1 : Nat) : Int) = k0 + (i : Nat) + 1 by omega]
      exact he2
    · have hb' : b < s.heap.objs.size := by
        rcases mem2 hb with z | z <;> (rw [z]; assumption)
      rw [upd_ne (Nat.ne_of_lt hb')]
      exact (hf b hb).1
  done := by
    intro X hP hw hK hc i pins s σ H E I hf st hg
    cases hP; cases hw; cases hK
    have ⟨⟨old, he⟩, hit, hne⟩ := st
    have ⟨ys, hq, hy⟩ := hg
    obtain ⟨its, rv, pl, _⟩ := I.list hq
    have ⟨f0, f1, f2, f3, f4, f5⟩ := hf c (by simp)
    have hl := rv.length
    have hh := I.ok.hd hc
    have nca : a ≠ c := fun z => by
      have ⟨o, q1, q2⟩ := pl.isList
      have ⟨o', q3, q4, _⟩ := hit
      rw [← z] at q3
      have z2 := q1.symm.trans q3
      injection z2 with z2
      rw [z2] at q2
      exact absurd (q4.symm.trans q2.1) (by simp)
    refine wpAny_pyNext_enum_endD (Draws.list (A := X.A.in1) hh c a nca its.toArray) he ⟨?_, pl.isList⟩ (fun h' eb => ⟨rfl, ?_⟩)
    · have e : its.toArray.size = i := by simp; omega
      rw [e]; exact hit
    exact I.turned (t' := s.toks) (fun b o hb q => eb b o hb q) f0 f1 f3 f4 f5
  self A i s Q E st h := by
    have ⟨⟨_, he⟩, _⟩ := st
    exact wpAny_pyIter_enum he h
def iEnumD (K : Fg) (ta : TA) : TI := fun σ H R => ta σ H fun vs H1 => ∃ a ys, vs = [V.ref a] ∧ SqL K H1 a ys ∧ R (Itn K 0 a) H1
def iEnumS (K : Fg) (ta tb : TA) : TI := fun σ H R => ta σ H fun vs H1 => tb σ H1 fun ks H2 => ∃ a ys k, vs = [V.ref a] ∧ ks = [V.int k] ∧ -(2 ^ 62) ≤ k ∧ k < 2 ^ 62 ∧ SqL K H2 a ys ∧ R (Itn K k a) H2
theorem callWith_typeKw {M : Model} {A : Around} {E : Value → Shared → Prop} {s : Shared} {pos : Pos} {T : String} {first : List Value} {args : List (Bool × Sem Value)} {kws : List (Option Str × Sem Value)} {Q : Value → Shared → Prop} (hp : args.any (·.1) = false) (hk : kws.any (·.1.isNone) = false)
    (h : wpAny M A (evalArgs (.type T) true args kws) (fun a s1 => wpAny M A (call (.type T) (first ++ a.pos) a.kw) Q E s1) E s) : wpAny M A (callWith pos (.type T) first args kws) Q E s := by
  rw [callWith]
  refine wpAny_bind (wpAny_holding (wpAny_mono h (fun a s1 h1 => ?_) fun _ _ z => z))
  refine wpAny_bind (wpAny_standAt ?_)
  simp only [hp, hk, Bool.or_false]
  refine wpAny_bind (wpAny_pure (wpAny_bind (wpAny_mono h1 (fun r s2 hr => ?_) fun _ _ z => z)))
  exact wpAny_bind (wpAny_holding (wpAny_point (wpAny_pure hr)))
theorem vals_one {vs : List V} {us : List Value} {v : V} (h : Vals vs us) (e : vs = [v]) : ∃ u, us = [u] ∧ RelV v u := by
  subst e
  cases h with
  | cons r rr => cases rr; exact ⟨_, rfl, r⟩
theorem new2 {X : Cx} {pins : List (Addr × Obj)} {σ : L2.St} {H : Hp} {s : Shared} (I : Inv X pins σ H s) (b : Addr) (hb : b ∈ [s.heap.objs.size + 1, s.heap.objs.size]) : FpOk X pins H b := by
  have hle : s.heap.objs.size ≤ b := by
    rcases mem2 hb with z | z
    · rw [z]; exact Nat.le_succ _
    · rw [z]; exact Nat.le_refl _
  exact I.fpOk hle (I.hok.fresh hle)
section
variable {X : Cx} {e e2 : Expr} {ta tb : TA} {p pos tp kp : Pos} {es : List Expr} {kk : Nat}
theorem pi_enumD (hg : Gl X "enumerate") (hm : X.mg "enumerate" = none) (ha : PA X [e] ta) (hs : starEach [e] X.env = [(false, eval e X.env)] := by rfl) : PI X (.Tuple es kk tp) (.Call (.Name "enumerate" p) [e] [] pos) (iEnumD X.K ta) := by
  refine ⟨fun pins s σ H R I h => Call_ (ld_blt I hg hm boot_enumerate (PyProof.Rows.callWith_type1 (thn (ha.run pos pins s σ H _ I h) fun us s1 ⟨vs, H1, I1, r1, q1⟩ => ?_) hs rfl))⟩
  obtain ⟨a, ys, ex, hq, q⟩ := q1
  obtain ⟨u, rfl, ru⟩ := vals_one r1 ex
  cases ru
  obtain ⟨its, rv, pl, _⟩ := I1.list hq
  refine call_enumerate_list pl.isList (fun h1 he hit hsz hk => wpAny_pyIter_enum he ?_)
  exact ⟨s1.heap.objs.size + 1, [s1.heap.objs.size + 1, s1.heap.objs.size], _, _, H1, rfl, I1.kept (t' := s1.toks) hk, turn_n 0 a (s1.heap.objs.size + 1) s1.heap.objs.size, ⟨⟨.none, he⟩, hit, Nat.succ_ne_self _⟩, new2 (I1.kept (t' := s1.toks) hk |> fun _ => I1), q⟩
theorem pi_enumS (hg : Gl X "enumerate") (hm : X.mg "enumerate" = none) (ha : PA X [e] ta) (hb : PK X [⟨some (Str.ofString "start"), e2, kp⟩] tb) (hs : backTo pos (starEach [e] X.env) = [(false, eval e X.env)] := by rfl)
    (hall : (backToKw pos (keywordEach [⟨some (Str.ofString "start"), e2, kp⟩] X.env)).all (·.1.isSome) = true := by rfl) (hno : (backToKw pos (keywordEach [⟨some (Str.ofString "start"), e2, kp⟩] X.env)).any (·.1.isNone) = false := by rfl)
    (hks : (backToKw pos (keywordEach [⟨some (Str.ofString "start"), e2, kp⟩] X.env)).filterMap (·.1) = [Str.ofString "start"] := by rfl) :
    PI X (.Tuple es kk tp) (.Call (.Name "enumerate" p) [e] [⟨some (Str.ofString "start"), e2, kp⟩] pos) (iEnumS X.K ta tb) := by
  refine ⟨fun pins s σ H R I h => wpAny_Call_Name_kw (ld_blt I hg hm boot_enumerate (callWith_typeKw (by rw [hs]; rfl) hno ?_))⟩
  rw [hs]
  refine PyProof.Rows.evalArgs_kwB hall ?_
  have hr := ha.run pos pins s σ H _ I h
  rw [hs] at hr
  refine thn hr fun us s1 ⟨vs, H1, I1, r1, q1⟩ => thn (hb.run pos pins s1 σ H1 _ I1 q1) fun ws s2 ⟨zs, H2, I2, r2, q2⟩ => ?_
  rw [hks]
  obtain ⟨a, ys, k, ex, ez, k0, k1, hq, q⟩ := q2
  obtain ⟨u, rfl, ru⟩ := vals_one r1 ex
  obtain ⟨z, rfl, rz⟩ := vals_one r2 ez
  cases ru
  obtain ⟨t, rfl⟩ := rz
  obtain ⟨its, rv, pl, _⟩ := I2.list hq
  refine enum_begins_start (begins_list a its.toArray) pl.isList (by omega) (by omega) (fun h1 he hit hsz hk => wpAny_pyIter_enum he ?_)
  refine ⟨s2.heap.objs.size + 1, [s2.heap.objs.size + 1, s2.heap.objs.size], _, _, H2, rfl, I2.kept (t' := s2.toks) hk, turn_n k a (s2.heap.objs.size + 1) s2.heap.objs.size, ⟨⟨.none, ?_⟩, ⟨_, hit, rfl, rfl⟩, Nat.succ_ne_self _⟩, new2 I2, q⟩
  rw [show k + ((0 : Nat) : Int) = k by omega]
  exact he
end
/-- the pairs -/
def enD (k0 : Int) (ds : List D) : List D := ds.mapIdx fun i d => .tuple [.int (k0 + (i : Nat)), d]
theorem enD_len (k0 : Int) (ds : List D) : (enD k0 ds).length = ds.length := by simp [enD]
theorem enD_get {k0 : Int} {ds : List D} {i : Nat} {x : D} (h : (enD k0 ds)[i]? = some x) : ∃ d, ds[i]? = some d ∧ x = .tuple [.int (k0 + (i : Nat)), d] := by
  unfold enD at h
  rw [List.getElem?_mapIdx] at h
  cases q : ds[i]? with
  | none => rw [q] at h; cases h
  | some d => rw [q] at h; cases h; exact ⟨d, rfl, rfl⟩
theorem src_n {K : Fg} {k0 : Int} {l : Addr} {ds : List D} : SrcOk K (Itn K k0 l) (.ref l) (.list ds) (enD k0 ds) := fun M σ H ρ pv pd A => by
  obtain ⟨ow, B, hp⟩ := A
  cases hp with
  | cons g3 hp =>
    cases g3 with
    | @lst _ ys _ g3 g4 =>
      have hS : SqL K H l ys := .of (hide_le _ _ g3)
      refine ⟨fun i hi => ?_, ⟨ys, hS, by rw [g4.length, enD_len]⟩⟩
      have hi' : i < ds.length := by rwa [enD_len] at hi
      obtain ⟨y, gy, gyd⟩ := g4.get (List.getElem?_eq_getElem hi')
      refine ⟨⟨ys, y, hS, gy⟩, fun x H' hy => ?_⟩
      obtain ⟨T, z, rfl, hT, rfl, fv⟩ := hy
      have ex : z = y := Option.some.inj ((fv _ hS).symm.trans gy)
      subst ex
      obtain ⟨d, hd, ee⟩ := enD_get (List.getElem?_eq_getElem hi)
      rw [ee]
      have : d = ds[i] := Option.some.inj (hd.symm.trans (List.getElem?_eq_getElem hi'))
      subst this
      have e : Same H (upd H T (.tup [.int (k0 + (i : Nat)), z])) := same_new hT
      refine ⟨ow, B.step (.of e) (B.cok.mono e), .cons (.tup (.of (new_vis B.hall hT)) (.cons (.int _) (.cons (gyd.mono (vis_of e)) .nil))) ?_⟩
      exact DvAll.mono (vis_of e) (.cons (.lst g3 g4) hp)
def wiEnum (wr : WA) : WI := fun ρ P => wr ρ fun ds ρ1 => match ds with
  | [.list es] => P (enD 0 es) ρ1
  | _ => False
def wiEnumS (wr wk : WA) : WI := fun ρ P => wr ρ fun ds ρ1 => wk ρ1 fun ks ρ2 => match ds, ks with
  | [.list es], [.int k] => rngOk k ∧ P (enD k es) ρ2
  | _, _ => False
section
variable {X : Cx} {K : Fg} {a b e tg : Expr} {ta tb : TE} {wa wb : WE} {t u : TA} {wr wk : WA} {p pos tp kp : Pos} {es : List Expr} {kk : Nat}
theorem di_enum (hg : Gl X "enumerate") (hm : X.mg "enumerate" = none) (ha : DA X [e] t wr) (hs : starEach [e] X.env = [(false, eval e X.env)] := by rfl) : DI X (.Tuple es kk tp) (.Call (.Name "enumerate" p) [e] [] pos) (iEnumD X.K t) (wiEnum wr) := ⟨pi_enumD hg hm ha.pa hs, fun M σ H ρ pv pd P R A h q => by
  refine ha.sd M σ H ρ pv pd _ _ A h fun vs ds H1 ρ1 hl A1 h1 => ?_
  split at h1
  · next es' =>
    obtain ⟨ow, B, hp⟩ := A1
    obtain ⟨g1, g2⟩ := DvAll.split hl hp
    obtain ⟨v, rfl, gv⟩ := da1 g1
    cases gv with
    | lst g3 g4 => exact ⟨_, _, rfl, .of (hide_le _ _ g3), q _ _ _ _ _ _ ⟨ow, B, .cons (.lst g3 g4) g2⟩ src_n h1⟩
  · exact h1.elim⟩
theorem di_enumS (hg : Gl X "enumerate") (hm : X.mg "enumerate" = none) (ha : DA X [e] t wr) (hb : DE X b tb wb) (hs : backTo pos (starEach [e] X.env) = [(false, eval e X.env)] := by rfl)
    (hall : (backToKw pos (keywordEach [⟨some (Str.ofString "start"), b, kp⟩] X.env)).all (·.1.isSome) = true := by rfl) (hno : (backToKw pos (keywordEach [⟨some (Str.ofString "start"), b, kp⟩] X.env)).any (·.1.isNone) = false := by rfl)
    (hks : (backToKw pos (keywordEach [⟨some (Str.ofString "start"), b, kp⟩] X.env)).filterMap (·.1) = [Str.ofString "start"] := by rfl) (hst : starEach [b] X.env = (false, eval b X.env) :: starEach [] X.env := by rfl) :
    DI X (.Tuple es kk tp) (.Call (.Name "enumerate" p) [e] [⟨some (Str.ofString "start"), b, kp⟩] pos) (iEnumS X.K t (tCons tb tNil)) (wiEnumS wr (wCons wb wNil)) := ⟨pi_enumS hg hm ha.pa (pk_cons hb.pe pk_nil) hs hall hno hks, fun M σ H ρ pv pd P R A h q => by
  refine ha.sd M σ H ρ pv pd _ _ A h fun vs ds H1 ρ1 hl A1 h1 => ?_
  refine (da_cons hb da_nil hst).sd M σ H1 ρ1 _ _ _ _ A1 h1 fun zs ks H2 ρ2 hl2 A2 h2 => ?_
  split at h2
  · next es' k =>
    obtain ⟨ow, B, hp⟩ := A2
    obtain ⟨g1, g2⟩ := DvAll.split hl2 hp
    obtain ⟨g3, g4⟩ := DvAll.split hl g2
    obtain ⟨v, rfl, gv⟩ := da1 g3
    obtain ⟨z, rfl, gz⟩ := da1 g1
    cases gz
    cases gv with
    | lst g5 g6 => exact ⟨_, _, k, rfl, rfl, h2.1.1, h2.1.2, .of (hide_le _ _ g5), q _ _ _ _ _ _ ⟨ow, B, .cons (.lst g5 g6) g4⟩ src_n h2.2⟩
  · exact h2.elim⟩
end
/-! ## own[k] op= e, own.pop() -/
def rGetL : V → V → Hp → VK → Prop := fun o i H Q => ∃ p xs k v, o = V.ref p ∧ i = V.int k ∧ H p = some (.lst xs) ∧ 0 ≤ k ∧ xs[k.toNat]? = some v ∧ Q v H
theorem get_lst {X : Cx} : PGet X rGetL := by
  intro pins s σ H o i ov iv Q I ro ri h
  obtain ⟨p, xs, k, v, rfl, rfl, hp, h0, hv, q⟩ := h
  cases ro
  obtain ⟨t, rfl⟩ := ri
  obtain ⟨its, r, pl, hz⟩ := I.list (.of hp)
  obtain ⟨u, hu, ru⟩ := r.get hv
  have hlt := (List.getElem?_eq_some_iff.mp hv).1
  have hn := line63
  exact wpAny_getItem_list pl.isList h0 (by omega) (by simpa using hu) ⟨v, H, I, ru, q⟩
def wAugIx (i : Nat) (op : Int → Int → Int) (wk : WP) (we : WE) : WS := fun DD ρ => match look ρ i, wk ρ with
  | .own ds, some (.int k) => 0 ≤ k ∧ k.toNat < ds.length ∧ ∃ x, ds[k.toNat]? = some (.int x) ∧ we ρ fun y ρ1 => match y, look ρ1 i with
    | .int y, .own ds1 => ds1 = ds ∧ DD.nx (put ρ1 i (.own (ds.set k.toNat (.int (op x y)))))
    | _, _ => False
  | _, _ => False
theorem ixN_nat {n : Nat} {k : Int} (h : 0 ≤ k) (hk : k.toNat < n) : ixN n k = some k.toNat := by
  unfold ixN
  rw [if_pos h, if_pos (by omega)]
section
variable {X : Cx} {K : Fg} {a b e : Expr} {ta tb : TE} {wa wb : WE} {wk : WP} {pos p p2 : Pos}
theorem snds_augix {i : Nat} {op : Int → Int → Int} (hk : SndP K tb wk) (he : Snd K ta wa) : SndS K (tAugS (tVar i) tb ta rGetL (ipI op) rSetL) (wAugIx i op wk wa) := fun M σ H ρ pv pd DD HD A h F => by
  have A0 := A
  obtain ⟨ow, B, hp⟩ := A
  unfold wAugIx at h
  split at h
  · next ds k e1 e2 =>
    obtain ⟨h0, hlt, x, hx, h⟩ := h
    obtain ⟨q, xs, h1, h2, h3, h4⟩ := B.own i ds e1
    refine ⟨.ref q, h2, ?_⟩
    obtain ⟨kv, gk, hQ⟩ := hk M σ H ρ ow _ B e2
    cases gk
    refine hQ _ ?_
    obtain ⟨xv, hxv, gx⟩ := h4.get hx
    cases gx
    refine ⟨q, xs, k, _, rfl, rfl, h3, h0, hxv, ?_⟩
    refine he M σ H ρ pv pd _ _ A0 h fun y dy H1 ρ1 A1 h' => ?_
    split at h'
    · next y ds1 e3 =>
      obtain ⟨rfl, h'⟩ := h'
      obtain ⟨ow1, B1, hp1⟩ := A1
      cases hp1 with
      | cons gy hp1 =>
        cases gy
        refine ⟨x, y, rfl, rfl, ?_⟩
        obtain ⟨q1, xs1, k1, k2, k3, k4⟩ := B1.own i ds1 e3
        have : q1 = q := by
          rw [h2] at k2
          cases k2; rfl
        subst this
        obtain ⟨C, vis⟩ := B1.owset e3 k1 (k4.set (.int (op x y)) k.toNat)
        refine ⟨q1, xs1, k, k.toNat, rfl, rfl, k3, ixN_nat h0 (by rw [k4.length]; exact hlt), F.nx _ _ _ ⟨ow1, C, hp1.mono vis⟩ h'⟩
    · exact h'.elim
  · exact h.elim
theorem ds_augix {i : Nat} {x : Str} {px p3 : Pos} {op : Operator} {f : Int → Int → Int} (ho : PIp X op (ipI f)) (hn : PE X (.Name x px) (tVar i)) (hk : DP X b tb wk) (he : DE X e ta wa)
    (ha : ∀ ov iv new, augStore b ov iv new = (do holding [new, ov, iv] (setItem ov iv new); release [new, ov, iv] []; pure .next) := by intros; rfl) : DS X (.AugAssign (.Subscript (.Name x px) b p2) op e p3) (tAugS (tVar i) tb ta rGetL (ipI f) rSetL) (wAugIx i f wk wa) :=
  ⟨ps_augS hn hk.pe get_lst he.pe ho set_list ha, snds_augix hk.sd he.sd⟩
def wPop (i : Nat) : WE := fun ρ P => match look ρ i with
  | .own ds => ∃ d, ds[ds.length - 1]? = some d ∧ P d (put ρ i (.own ds.dropLast))
  | _ => False
theorem snd_pop {i : Nat} : Snd K (tBM0 K "list" rPop (tVar i)) (wPop i) := fun M σ H ρ pv pd P Q A h q => by
  obtain ⟨ow, B, hp⟩ := A
  unfold wPop at h
  split at h
  · next ds e1 =>
    obtain ⟨d, hd, h⟩ := h
    obtain ⟨a, xs, h1, h2, h3, h4⟩ := B.own i ds e1
    obtain ⟨v, hv, gv⟩ := h4.get hd
    obtain ⟨C, vis⟩ := B.owset e1 h1 h4.dropLast
    exact ⟨.ref a, h2, .inl ⟨rfl, xs, .of h3⟩, a, xs, v, rfl, rfl, h3, by rw [h4.length]; exact hv, q v d _ _ ⟨ow, C, .cons (gv.mono vis) (hp.mono vis)⟩ h⟩
  · exact h.elim
theorem de_pop {i : Nat} {x : Str} {px p1 : Pos} (hn : PE X (.Name x px) (tVar i)) (hbase : attributeBase (.Name x px) "pop" X.env (eval (.Name x px) X.env) = eval (.Name x px) X.env := by rfl) (hline : (p1.endLine == p2.line) = true := by rfl) :
    DE X (.Call (.Attribute (.Name x px) "pop" p1) [] [] p2) (tBM0 X.K "list" rPop (tVar i)) (wPop i) := ⟨pe_bm0 PySem.F.plainAttrs_list PySem.F.slot_list_pop PySem.F.type_list_pop mt_pop hn hbase hline, snd_pop⟩
/-! ## k.bit_length(), k >> j, k & j -/
def wBits (wa : WE) : WE := fun ρ P => wa ρ fun x ρ1 => match x with
  | .int i => P (.int (Builtin.Int.intBits i : Nat)) ρ1
  | _ => False
theorem de_bits {p1 : Pos} (ha : DE X a ta wa) (hbase : attributeBase a "bit_length" X.env (eval a X.env) = eval a X.env := by rfl) (hline : (p1.endLine == p2.line) = true := by rfl) :
    DE X (.Call (.Attribute a "bit_length" p1) [] [] p2) (tBits ta) (wBits wa) := ⟨pe_bits ha.pe hbase hline, fun M σ H ρ pv pd P Q A h q => by
  refine ha.sd M σ H ρ pv pd _ _ A h fun x dx H1 ρ1 A1 h1 => ?_
  split at h1
  · next i =>
    have A2 := A1.pop
    obtain ⟨ow, B, hp⟩ := A1
    cases hp with
    | cons g hp =>
      cases g
      obtain ⟨ow2, B2, hp2⟩ := A2
      exact ⟨i, rfl, q _ _ _ _ ⟨ow2, B2, .cons (.int _) hp2⟩ h1⟩
  · exact h1.elim⟩
def dShr : D → D → (D → Prop) → Prop
  | .int i, .int j, P => 0 ≤ j ∧ P (.int (i / 2 ^ j.toNat))
  | _, _, _ => False
def dAnd : D → D → (D → Prop) → Prop
  | .int i, .int j, P => P (.int (Builtin.bitAnd i j))
  | _, _, _ => False
theorem sn2_shr : Sn2 K (rI (fun _ j => 0 ≤ j) fun i j => .int (i / 2 ^ j.toNat)) dShr := fun lc hd H x y a b P Q al hx hy h q => by
  cases a <;> cases b <;> first | exact h.elim | skip
  cases hx
  cases hy
  exact ⟨_, _, rfl, rfl, h.1, q _ _ H (Same.refl H) (.int _) h.2⟩
theorem sn2_and : Sn2 K (rI0 fun i j => .int (Builtin.bitAnd i j)) dAnd := fun lc hd H x y a b P Q al hx hy h q => by
  cases a <;> cases b <;> first | exact h.elim | skip
  cases hx
  cases hy
  exact ⟨_, _, rfl, rfl, q _ _ H (Same.refl H) (.int _) h⟩
theorem bitAnd_one (i : Int) : Builtin.bitAnd i 1 = i % 2 := by
  have h := Bits.bit_at (x := i) 0
  simpa using h
/-! ## range(i, j, -1) -/
def wiR3n (wa : WA) : WI := fun ρ P => wa ρ fun ds ρ1 => match ds with
  | [.int i, .int j, .int c] => rngOk i ∧ rngOk j ∧ c = -1 ∧ P (rngC i (-1) (i - j).toNat) ρ1
  | _ => False
theorem di_rng3n {tg c : Expr} {t : TA} {wr : WA} (hgl : Gl X "range") (hm : X.mg "range" = none) (ha : DA X [a, b, c] t wr) (hs : starEach [a, b, c] X.env = (false, eval a X.env) :: starEach [b, c] X.env := by rfl) (hpl : (backTo p2 (starEach [b, c] X.env)).any (·.1) = false := by rfl) :
    DI X tg (.Call (.Name "range" p) [a, b, c] [] p2) (iRng3 t) (wiR3n wr) := ⟨pi_range3 hgl hm ha.pa hs hpl, fun M σ H ρ pv pd P R A h q => by
  refine ha.sd M σ H ρ pv pd _ _ A h fun vs ds H1 ρ1 hl A1 h1 => ?_
  split at h1
  · next i j c =>
    have A2 := (At.popA A1 hl).dum
    obtain ⟨ow, B, hp⟩ := A1
    obtain ⟨x, y, z, rfl, gx, gy, gz⟩ := da3 (DvAll.split hl hp).1
    cases gx
    cases gy
    cases gz
    obtain ⟨hi, hj, rfl, h1⟩ := h1
    exact ⟨i, j, -1, _, rfl, RgC.neg hi.1 hi.2 hj.1 hj.2, q _ _ _ _ _ _ A2 src_rngC h1⟩
  · exact h1.elim⟩
end
end DL
namespace DL
open PySem PySem.Spec PyProof.Rows L2
/-- a comprehension over a range with a condition, the answers known -/
theorem wCompF_of {lo : Int} {N i : Nat} {wt : WT} {we : WE} {ρ : Rho} {P : List D → Rho → Prop} (c : Nat → Bool) (g : Nat → D) (hN : N ≤ 100000)
    (ht : ∀ (j : Nat) (Q : Bool → Rho → Prop), j < N → Q (c j) (put ρ i (.val (.int (lo + j)))) → wt (put ρ i (.val (.int (lo + j)))) Q)
    (hs : ∀ (j : Nat) (Q : D → Rho → Prop), j < N → c j = true → Q (g j) (put ρ i (.val (.int (lo + j)))) → we (put ρ i (.val (.int (lo + j)))) Q)
    (hP : P (((List.range N).filter c).map g) (put ρ i .un)) : wCompD (rngD lo N) i wt we ρ P := by
  refine ⟨fun j acc => acc = ((List.range j).filter c).map g, rfl, fun j x acc hx hI => ?_, fun acc hI => ?_⟩
  · obtain ⟨h1, rfl⟩ := rngD_get hx
    subst hI
    refine ht j _ h1 ⟨rfl, ?_⟩
    have e : List.range (j + 1) = List.range j ++ [j] := List.range_succ
    cases hc : c j with
    | true =>
      rw [if_pos rfl]
      refine hs j _ h1 hc ⟨rfl, ?_, ?_⟩
      · have := List.length_filter_le c (List.range j)
        rw [List.length_range] at this
        rw [List.length_map]; omega
      · show _ = ((List.range (j + 1)).filter c).map g
        rw [e, List.filter_append, List.map_append]
        simp [hc]
    | false =>
      rw [if_neg Bool.false_ne_true]
      show _ = ((List.range (j + 1)).filter c).map g
      rw [e, List.filter_append]
      simp [hc]
  · rw [rngD_len] at hI
    subst hI
    exact hP
/-- a comprehension over a range without a condition, of its items known only what R says -/
theorem wCompG_of {N i : Nat} {we : WE} {ρ : Rho} {P : List D → Rho → Prop} (R : Nat → D → Prop) (hN : N ≤ 100000)
    (hs : ∀ (j : Nat) (Q : D → Rho → Prop), j < N → (∀ y, R j y → Q y (put ρ i (.val (.int j)))) → we (put ρ i (.val (.int j))) Q)
    (hP : ∀ ys : List D, ys.length = N → (∀ j y, ys[j]? = some y → R j y) → P ys (put ρ i .un)) : wCompD (rngD 0 N) i wYes we ρ P := by
  refine ⟨fun j acc => acc.length = j ∧ ∀ k y, acc[k]? = some y → R k y, ⟨rfl, fun k y h => by simp at h⟩, fun j x acc hx hI => ?_, fun acc hI => ?_⟩
  · obtain ⟨h1, rfl⟩ := rngD_get hx
    refine ⟨rfl, ?_⟩
    rw [if_pos rfl, Int.zero_add]
    refine hs j _ h1 fun y hy => ⟨rfl, by omega, by simp [hI.1], fun k z hz => ?_⟩
    rw [List.getElem?_append] at hz
    split at hz
    · exact hI.2 k z hz
    · next c =>
      have e : k = j := by
        have := (List.getElem?_eq_some_iff.mp hz).1
        simp at this; omega
      subst e
      rw [hI.1, Nat.sub_self] at hz
      cases hz
      exact hy
  · rw [rngD_len] at hI
    exact hP acc hI.1 hI.2
theorem bools_map {α : Type} (b : α → Bool) (l : List α) : bools (l.map fun k => .bool (b k)) = some (l.map b) := by
  induction l with
  | nil => rfl
  | cons a l ih =>
    show (bools (l.map fun k => .bool (b k))).map (b a :: ·) = _
    rw [ih]; rfl
/-- a comprehension over given items without a condition, of its answers known only what R says -/
theorem wCompLG_of {ds : List D} {i : Nat} {we : WE} {ρ : Rho} {P : List D → Rho → Prop} (R : D → D → Prop) (hN : ds.length ≤ 100000)
    (hs : ∀ (x : D) (Q : D → Rho → Prop), x ∈ ds → (∀ y, R x y → Q y (put ρ i (.val x))) → we (put ρ i (.val x)) Q)
    (hP : ∀ ys : List D, ys.length = ds.length → (∀ (j : Nat) (x y : D), ds[j]? = some x → ys[j]? = some y → R x y) → P ys (put ρ i .un)) : wCompD ds i wYes we ρ P := by
  refine ⟨fun j acc => acc.length = j ∧ ∀ k x y, ds[k]? = some x → acc[k]? = some y → R x y, ⟨rfl, fun k x y _ h => by simp at h⟩, fun j x acc hx hI => ?_, fun acc hI => hP acc hI.1 hI.2⟩
  refine ⟨rfl, ?_⟩
  rw [if_pos rfl]
  have hj := (List.getElem?_eq_some_iff.mp hx).1
  refine hs x _ (List.mem_of_getElem? hx) fun y hy => ⟨rfl, by omega, by simp [hI.1], fun k z u hz hu => ?_⟩
  rw [List.getElem?_append] at hu
  split at hu
  · exact hI.2 k z u hz hu
  · next c =>
    have e : k = j := by
      have := (List.getElem?_eq_some_iff.mp hu).1
      simp at this; omega
    subst e
    rw [hI.1, Nat.sub_self] at hu
    cases hu
    rw [hx] at hz
    cases hz
    exact hy
theorem bools_rel {p : D → Prop} : ∀ {ds ys : List D}, ys.length = ds.length → (∀ (j : Nat) (x y : D), ds[j]? = some x → ys[j]? = some y → ∃ b : Bool, y = PyData.bool b ∧ (b = true ↔ p x)) → ∃ bs, bools ys = some bs ∧ (bs.all id = true ↔ ∀ x ∈ ds, p x)
  | [], [], _, _ => ⟨[], rfl, by simp⟩
  | [], _ :: _, h, _ => by simp at h
  | _ :: _, [], h, _ => by simp at h
  | d :: ds, y :: ys, hl, h => by
    obtain ⟨b, rfl, hb⟩ := h 0 d y rfl rfl
    obtain ⟨bs, e, hbs⟩ := bools_rel (p := p) (ds := ds) (ys := ys) (by simpa using hl) fun j x z hx hz => h (j + 1) x z (by simpa using hx) (by simpa using hz)
    refine ⟨b :: bs, by simp [bools, e], ?_⟩
    rw [List.all_cons, Bool.and_eq_true, hbs]
    simp only [List.mem_cons, forall_eq_or_imp, id]
    rw [hb]
/-- y = [..], a statement of its own -/
theorem ds_setLc {X : Cx} {elt tg iter : Expr} {ifs : List Expr} {scope : Scope} {i j : Nat} {x y : Str} {pos py spos : Pos} {wi : TI} {tt : TT} {te : TE} {wI : WI} {wt : WT} {we : WE} (hc : X.calm = true) (hN : X.N.Nodup) (hi : DI X tg iter wi wI) (ok : BlkOk X.N X.env.scope scope [(x, i)])
    (hg : ∀ (s : Shared) (H : Hp) (C : Addr) (cl : List (Str × Addr)) (fp : List Addr), PG (X.blk s H scope (compEnvC scope cl C X.env) fp) tg (gName i)) (ht : ∀ (s : Shared) (H : Hp) (C : Addr) (cl : List (Str × Addr)) (fp : List Addr), DTb (X.blk s H scope (compEnvC scope cl C X.env) fp) ifs tt wt)
    (he : ∀ (s : Shared) (H : Hp) (C : Addr) (cl : List (Str × Addr)) (fp : List Addr), DEb (X.blk s H scope (compEnvC scope cl C X.env) fp) elt te we) (hy : X.N[j]? = some y) (hyl : X.env.scope.names.lookup y = some .local)
    (hsw : swapsWith (.ListComp elt [⟨tg, iter, ifs, 0⟩] scope pos) (some (.Name y py)) spos.line X.env = pure true) (hs : ∀ x, foldedSetIterable iter X.env x = pure x := by intro _; rfl) :
    DS X (.Assign [.Name y py] (.ListComp elt [⟨tg, iter, ifs, 0⟩] scope pos) spos) (tAsg (tLc wi (gName i) tt te [i]) (gName j)) (wAsg (fun ρ P => wComp wI i wt we ρ fun ds ρ1 => P (.list ds) ρ1) (wgName j)) :=
  ⟨ps_setLc (own := [(x, i)]) hc hN hy hyl hsw hi.pi ok hg (fun s H C cl fp => (ht s H C cl fp).dt.pt) (fun s H C cl fp => (he s H C cl fp).de.pe) hs, snds_asg (df_comp (pos := pos) hc hN hi ok hg ht he hs).de.sd (sndg_name j)⟩
theorem ds_keepLc {X : Cx} {elt tg iter : Expr} {ifs : List Expr} {scope : Scope} {i j : Nat} {x y : Str} {pos py spos : Pos} {wi : TI} {tt : TT} {te : TE} {wI : WI} {wt : WT} {we : WE} (hc : X.calm = true) (hN : X.N.Nodup) (hi : DI X tg iter wi wI) (ok : BlkOk X.N X.env.scope scope [(x, i)])
    (hg : ∀ (s : Shared) (H : Hp) (C : Addr) (cl : List (Str × Addr)) (fp : List Addr), PG (X.blk s H scope (compEnvC scope cl C X.env) fp) tg (gName i)) (ht : ∀ (s : Shared) (H : Hp) (C : Addr) (cl : List (Str × Addr)) (fp : List Addr), DTb (X.blk s H scope (compEnvC scope cl C X.env) fp) ifs tt wt)
    (he : ∀ (s : Shared) (H : Hp) (C : Addr) (cl : List (Str × Addr)) (fp : List Addr), DEb (X.blk s H scope (compEnvC scope cl C X.env) fp) elt te we) (hy : X.N[j]? = some y) (hyl : X.env.scope.names.lookup y = some .local)
    (hsw : swapsWith (.ListComp elt [⟨tg, iter, ifs, 0⟩] scope pos) (some (.Name y py)) spos.line X.env = pure true) (hs : ∀ x, foldedSetIterable iter X.env x = pure x := by intro _; rfl) :
    DS X (.Assign [.Name y py] (.ListComp elt [⟨tg, iter, ifs, 0⟩] scope pos) spos) (tAsg (tLc wi (gName i) tt te [i]) (gName j)) (wKeep j (wComp wI i wt we)) :=
  ⟨ps_setLc (own := [(x, i)]) hc hN hy hyl hsw hi.pi ok hg (fun s H C cl fp => (ht s H C cl fp).dt.pt) (fun s H C cl fp => (he s H C cl fp).de.pe) hs, fun M σ H ρ pv pd DD HD A h F =>
    (df_comp (pos := pos) hc hN hi ok hg ht he hs).sd M σ H ρ pv pd _ _ A h fun p ds H' ρ' A' h' => F.nx _ _ _ (A'.keep j) h'⟩
theorem relab {sc : Scope} {e : PySem.Env} : relabel sc e = relS sc e.scope := rfl
/-- *= of ints -/
theorem ip_mulD {X : Cx} : PIp X .Mult (rI mulOk fun i j => .int (i * j)) := by
  intro pins s σ H x y v u Q I r1 r2 h
  obtain ⟨i, j, e1, e2, c, q⟩ := h
  subst e1; subst e2
  obtain ⟨t, rfl⟩ := r1
  obtain ⟨t', rfl⟩ := r2
  rcases c with c | c
  · exact imul_int ⟨.int _, H, I.tok _, ⟨_, rfl⟩, q⟩ c.ok
  · exact imul_int ⟨.int _, H, I.tok _, ⟨_, rfl⟩, q⟩ c.ok
def dMulI : D → D → (D → Prop) → Prop
  | .int i, .int j, P => mulOk i j ∧ P (.int (i * j))
  | _, _, _ => False
theorem sn2_mulI {K : Fg} : Sn2 K (rI mulOk fun i j => .int (i * j)) dMulI := sn2_I fun a b P h => by
  cases a <;> cases b <;> first | exact ⟨_, _, rfl, rfl, h.1, h.2⟩ | exact h.elim
end DL

namespace DL
open PySem PySem.Spec PyProof.Rows L2 RT
/-! ## a list comprehension with two names: for a, b in .. -/
def putP (ρ : Rho) (i k : Nat) (a b : D) : Rho := put (put ρ i (.val a)) k (.val b)
def unP (ρ : Rho) (i k : Nat) : Rho := put (put ρ i .un) k .un
def wComp2D (ds : List D) (i k : Nat) (wt : WT) (we : WE) : WF := fun ρ P => ∃ I : Nat → List D → Prop, I 0 [] ∧
  (∀ j x acc, ds[j]? = some x → I j acc → ∃ a b, x = .tuple [a, b] ∧ wt (putP ρ i k a b) fun c ρ2 => ρ2 = putP ρ i k a b ∧ if c = true then we ρ2 fun y ρ3 => ρ3 = putP ρ i k a b ∧ acc.length < 100000 ∧ I (j + 1) (acc ++ [y]) else I (j + 1) acc) ∧
  ∀ acc, I ds.length acc → P acc (unP ρ i k)
/-- what is walked, where more than one value is held -/
def SrcOkS (K : Fg) (J : It) (vs : List V) (dd : List D) (es : List D) : Prop := ∀ (M : Amb) (σ : L2.St) (H : Hp) (ρ : Rho) (pv : List V) (pd : List D), At K M σ H ρ (vs ++ pv) (dd ++ pd) →
  (∀ i (hi : i < es.length), J.go i H ∧ ∀ x H', J.yld i H x H' → At K M σ H' ρ (x :: (vs ++ pv)) (es[i] :: (dd ++ pd))) ∧ J.stop es.length H
theorem put_put_ne : ∀ {ρ : Rho} {i k : Nat} {a b : Slot}, i ≠ k → put (put ρ i a) k b = put (put ρ k b) i a
  | [], _, _, _, _, _ => rfl
  | _ :: _, 0, 0, _, _, h => absurd rfl h
  | _ :: _, 0, _ + 1, _, _, _ => rfl
  | _ :: _, _ + 1, 0, _, _, _ => rfl
  | t :: r, n + 1, m + 1, a, b, h => congrArg (t :: ·) (put_put_ne (ρ := r) fun z => h (congrArg (· + 1) z))
section
variable {K : Fg}
abbrev gPair (K : Fg) (i k : Nat) : TG := gTup K 2 (gCons (gName i) (gCons (gName k) gNil))
theorem comp2_core {M : Amb} {σ : L2.St} {H1 : Hp} {ρ1 : Rho} {pv : List V} {pd : List D} {vs : List V} {dd ds : List D} {J : It} {i k : Nat} {tt : TT} {te : TE} {wt : WT} {we : WE} {P : List D → Rho → Prop} {Q : VK} (hik : i ≠ k) (hl : vs.length = dd.length) (sT : SndT K tt wt) (sE : Snd K te we) (sk : SrcOkS K J vs dd ds) (A1 : At K M σ H1 ρ1 (vs ++ pv) (dd ++ pd)) (h1 : wComp2D ds i k wt we ρ1 P)
    (q : ∀ (p : Addr) (es : List D) (H' : Hp) (ρ' : Rho), At K (M.plus p es) σ H' ρ' pv pd → P es ρ' → Q (.ref p) H') :
    ∀ D, H1 D = none → ∃ W : Nat → Nat → Hp → Prop, (∃ m, W 0 m (upd H1 D (.lst []))) ∧ ∀ j m H, W j m H →
      (J.stop j H ∧ Q (.ref D) H) ∨ (J.go j H ∧ ∃ Nx : Hp → Prop, (∀ H', Nx H' → ∃ m', m' < m ∧ W (j + 1) m' H') ∧ ∀ x H', J.yld j H x H' → gPair K i k x (wipe σ [i, k]) H' fun σ2 H2 => wipe σ2 [i, k] = wipe σ [i, k] ∧ tt σ2 H2 fun b H3 =>
        if b = true then te σ2 H3 fun y H4 => ∃ acc, H4 D = some (.lst acc) ∧ acc.length < sizeLine ∧ Nx (upd H4 D (.lst (acc ++ [y]))) else Nx H3) := by
  obtain ⟨I, h0, hs, hd⟩ := h1
  intro D0 hD
  have w0 : ∀ σ' : L2.St, wipe σ' [i, k] = (σ'.set k none).set i none := fun σ' => rfl
  have l0 : ∀ σ' : L2.St, (wipe σ' [i, k]).length = σ'.length := fun σ' => wipe_length _ _
  have A1' : At K M (wipe σ [i, k]) H1 (unP ρ1 i k) (vs ++ pv) (dd ++ pd) := by
    have B := A1.unset k (σ' := σ.set k none) (by rw [List.length_set]) fun j hj => by rw [List.getElem?_set_ne (fun z => hj z.symm)]
    have := B.unset i (σ' := wipe σ [i, k]) (by rw [w0, List.length_set]) fun j hj => by rw [w0, List.getElem?_set_ne (fun z => hj z.symm)]
    rwa [put_put_ne (Ne.symm hik)] at this
  refine ⟨fun j m H' => ∃ acc, At K (M.plus D0 acc) (wipe σ [i, k]) H' (unP ρ1 i k) (vs ++ pv) (dd ++ pd) ∧ I j acc ∧ j + m = ds.length, ⟨ds.length, [], ?_, h0, by omega⟩, ?_⟩
  · exact At.plus (vs := []) (ds := []) A1' rfl hD
  rintro j m H2 ⟨acc, A2, i2, em⟩
  by_cases hi : j < ds.length
  · obtain ⟨g1, g2⟩ := (sk _ _ H2 _ pv pd A2).1 j hi
    refine .inr ⟨g1, fun H' => ∃ acc, At K (M.plus D0 acc) (wipe σ [i, k]) H' (unP ρ1 i k) (vs ++ pv) (dd ++ pd) ∧ I (j + 1) acc, fun H' ⟨acc, A', i'⟩ => ⟨m - 1, by omega, acc, A', i', by omega⟩, fun y H' hy => ?_⟩
    obtain ⟨a, b, ex, hw⟩ := hs j ds[j] acc (List.getElem?_eq_getElem hi) i2
    have A3 := g2 y H' hy
    rw [ex] at A3
    obtain ⟨ow, B, hp⟩ := A3
    cases hp with
    | cons g3 hp =>
      cases g3 with
      | @tup ya xs _ g4 g5 =>
        cases g5 with
        | @cons va _ _ _ ga g5 =>
          cases g5 with
          | @cons vb _ _ _ gb g5 =>
            cases g5
            refine ⟨ya, [va, vb], rfl, same_t hide_le g4, rfl, va, [vb], rfl, vb, [], rfl, rfl, ?_⟩
            have A4 : At K (M.plus D0 acc) (((wipe σ [i, k]).set i (some va)).set k (some vb)) H' (putP ρ1 i k a b) (vs ++ pv) (dd ++ pd) := by
              have e1 : put (put (unP ρ1 i k) i (.val a)) k (.val b) = putP ρ1 i k a b := by
                unfold unP putP
                rw [put_put_ne (Ne.symm hik), put_put, put_put]
              rw [← e1]
              have C : At K (M.plus D0 acc) (wipe σ [i, k]) H' (unP ρ1 i k) (va :: vb :: (vs ++ pv)) (a :: b :: (dd ++ pd)) := ⟨ow, B, .cons ga (.cons gb hp)⟩
              exact (C.put i rfl rfl).put k rfl rfl
            have back : ∀ {H' : Hp} {acc : List D}, At K (M.plus D0 acc) (((wipe σ [i, k]).set i (some va)).set k (some vb)) H' (putP ρ1 i k a b) (vs ++ pv) (dd ++ pd) → At K (M.plus D0 acc) (wipe σ [i, k]) H' (unP ρ1 i k) (vs ++ pv) (dd ++ pd) := fun {H' acc} A => by
              have B1 := A.unset k (σ' := (wipe σ [i, k]).set i (some va)) (by simp only [List.length_set]) fun n hn => by rw [List.getElem?_set_ne (fun z => hn z.symm)]
              have B2 := B1.unset i (σ' := wipe σ [i, k]) (by simp only [List.length_set]) fun n hn => by rw [List.getElem?_set_ne (fun z => hn z.symm)]
              have e1 : put (put (putP ρ1 i k a b) k .un) i .un = unP ρ1 i k := by
                unfold unP putP
                rw [put_put, put_put_ne (Ne.symm hik), put_put]
              rwa [e1] at B2
            refine ⟨?_, ?_⟩
            · have e : ∀ τ : L2.St, (((τ.set i (some va)).set k (some vb)).set k none).set i none = (τ.set k none).set i none := fun τ => by
                rw [List.set_set, List.set_comm _ _ hik, List.set_set]
              have e2 : ∀ τ : L2.St, (((τ.set k none).set i none).set k none).set i none = (τ.set k none).set i none := fun τ => by
                have e3 : ((τ.set k none).set i none).set k none = ((τ.set k none).set k none).set i none := List.set_comm _ _ hik
                rw [e3, List.set_set, List.set_set]
              rw [w0, w0, e, e2]
            refine sT _ _ _ _ _ _ _ _ A4 hw fun c H3 ρ2 A5 h4 => ?_
            obtain ⟨rfl, h4⟩ := h4
            cases c with
            | true =>
              rw [if_pos rfl] at h4 ⊢
              refine sE _ _ _ _ _ _ _ _ A5 h4 fun z dz H4 ρ3 A6 h5 => ?_
              obtain ⟨rfl, hz, h5⟩ := h5
              obtain ⟨xs, e1, e2⟩ := A6.gh
              exact ⟨xs, e1, by rw [e2]; exact size_lt hz, _, back (A6.grow e1), h5⟩
            | false =>
              rw [if_neg Bool.false_ne_true] at h4 ⊢
              exact ⟨acc, back A5, h4⟩
  · have ei : j = ds.length := by omega
    subst ei
    refine .inl ⟨(sk _ _ H2 _ pv pd A2).2, q D0 acc H2 _ ?_ (hd acc i2)⟩
    have B1 := (A2.popA hl).unset i (σ' := (wipe σ [i, k]).set i (σ[i]?.getD none)) (by simp only [List.length_set]) fun n hn => by rw [List.getElem?_set_ne (fun z => hn z.symm)]
    have B2 := B1.unset k (σ' := σ) (by simp only [List.length_set]; exact (l0 σ).symm) fun n hn => ?_
    · have e1 : put (put (unP ρ1 i k) i .un) k .un = unP ρ1 i k := by
        unfold unP
        rw [put_put_ne (Ne.symm hik), put_put, put_put]
      rwa [e1] at B2
    · by_cases c : n = i
      · subst c
        by_cases d : n < σ.length
        · rw [List.getElem?_set_self (by rw [l0]; exact d), List.getElem?_eq_getElem d]; rfl
        · rw [List.getElem?_eq_none (by omega), List.getElem?_eq_none (by rw [List.length_set, l0]; omega)]
      · rw [List.getElem?_set_ne (fun z => c z.symm), w0, List.getElem?_set_ne (fun z => c z.symm), List.getElem?_set_ne (fun z => hn z.symm)]
/-! what is walked so: zip of two lists, enumerate of a list -/
def zipD (xs ys : List D) : List D := List.zipWith (fun x y => .tuple [x, y]) xs ys
theorem zipD_len (xs ys : List D) : (zipD xs ys).length = min xs.length ys.length := by simp [zipD]
theorem zipD_get {xs ys : List D} {i : Nat} {z : D} (h : (zipD xs ys)[i]? = some z) : ∃ x y, xs[i]? = some x ∧ ys[i]? = some y ∧ z = .tuple [x, y] := by
  unfold zipD at h
  rw [List.getElem?_zipWith] at h
  cases e1 : xs[i]? with
  | none => rw [e1] at h; cases h
  | some x =>
    cases e2 : ys[i]? with
    | none => rw [e1, e2] at h; cases h
    | some y => rw [e1, e2] at h; cases h; exact ⟨x, y, rfl, rfl, rfl⟩
theorem srcS_of {J : It} {v : V} {d : D} {es : List D} (h : SrcOk K J v d es) : SrcOkS K J [v] [d] es := fun M σ H ρ pv pd A => h M σ H ρ pv pd A
theorem srcS_zip {a b : Addr} {xs ys : List D} : SrcOkS K (Itz K a b) [.ref a, .ref b] [.list xs, .list ys] (zipD xs ys) := fun M σ H ρ pv pd A => by
  obtain ⟨ow, B, hp⟩ := A
  cases hp with
  | cons g1 hp =>
    cases hp with
    | cons g2 hp =>
      cases g1 with
      | @lst _ us _ g3 g4 =>
        cases g2 with
        | @lst _ vs _ g5 g6 =>
          have hS : SqL K H a us := .of (hide_le _ _ g3)
          have hT : SqL K H b vs := .of (hide_le _ _ g5)
          refine ⟨fun i hi => ?_, us, vs, hS, hT, ?_⟩
          · rw [zipD_len] at hi
            have h1 : i < xs.length := by omega
            have h2 : i < ys.length := by omega
            obtain ⟨y, gy, gyd⟩ := g4.get (List.getElem?_eq_getElem h1)
            obtain ⟨w, gw, gwd⟩ := g6.get (List.getElem?_eq_getElem h2)
            refine ⟨⟨us, vs, y, w, hS, hT, gy, gw⟩, fun x H' hy => ?_⟩
            obtain ⟨T, z, z2, rfl, hT0, rfl, f1, f2⟩ := hy
            have ex : z = y := Option.some.inj ((f1 _ hS).symm.trans gy)
            have ex2 : z2 = w := Option.some.inj ((f2 _ hT).symm.trans gw)
            subst ex ex2
            obtain ⟨d1, d2, k1, k2, ee⟩ := zipD_get (List.getElem?_eq_getElem (by rw [zipD_len]; omega : i < (zipD xs ys).length))
            rw [ee]
            have : d1 = xs[i] := Option.some.inj (k1.symm.trans (List.getElem?_eq_getElem h1))
            subst this
            have : d2 = ys[i] := Option.some.inj (k2.symm.trans (List.getElem?_eq_getElem h2))
            subst this
            have e : Same H (upd H T (.tup [z, z2])) := same_new hT0
            refine ⟨ow, B.step (.of e) (B.cok.mono e), .cons (.tup (.of (new_vis B.hall hT0)) (.cons (gyd.mono (vis_of e)) (.cons (gwd.mono (vis_of e)) .nil))) ?_⟩
            exact DvAll.mono (vis_of e) (.cons (.lst g3 g4) (.cons (.lst g5 g6) hp))
          · rw [zipD_len, g4.length, g6.length]; omega
end
def wComp2 (wI : WI) (i k : Nat) (wt : WT) (we : WE) : WF := fun ρ P => wI ρ fun ds ρ1 => wComp2D ds i k wt we ρ1 P
def wCompZ (wr : WA) (i k : Nat) (wt : WT) (we : WE) : WF := fun ρ P => wr ρ fun ds ρ1 => match ds with
  | [.list xs, .list ys] => wComp2D (zipD xs ys) i k wt we ρ1 P
  | _ => False
section
variable {X : Cx} {elt tg iter : Expr} {ifs : List Expr} {scope : Scope} {i k : Nat} {x y : Str} {pos : Pos} {wi : TI} {tt : TT} {te : TE} {wI : WI} {wt : WT} {we : WE} {wr : WA} {tr : TA} {e1 e2 : Expr} {es : List Expr} {kk : Nat} {tp p cp : Pos}
theorem df_comp2 (hik : i ≠ k) (hc : X.calm = true) (hN : X.N.Nodup) (hi : DI X tg iter wi wI) (ok : BlkOk X.N X.env.scope scope [(x, i), (y, k)])
    (hg : ∀ (s : Shared) (H : Hp) (C : Addr) (cl : List (Str × Addr)) (fp : List Addr), PG (X.blk s H scope (compEnvC scope cl C X.env) fp) tg (gPair X.K i k)) (ht' : ∀ (s : Shared) (H : Hp) (C : Addr) (cl : List (Str × Addr)) (fp : List Addr), DTb (X.blk s H scope (compEnvC scope cl C X.env) fp) ifs tt wt)
    (he' : ∀ (s : Shared) (H : Hp) (C : Addr) (cl : List (Str × Addr)) (fp : List Addr), DEb (X.blk s H scope (compEnvC scope cl C X.env) fp) elt te we) (hs : ∀ x, foldedSetIterable iter X.env x = pure x := by intro _; rfl) :
    DF X (.ListComp elt [⟨tg, iter, ifs, 0⟩] scope pos) (tLc wi (gPair X.K i k) tt te [i, k]) (wComp2 wI i k wt we) := by
  have ht := fun s H C cl fp => (ht' s H C cl fp).dt
  have he := fun s H C cl fp => (he' s H C cl fp).de
  have sT : SndT X.K tt wt := (ht X.s_0 (fun _ => none) 0 [] []).sd
  have sE : Snd X.K te we := (he X.s_0 (fun _ => none) 0 [] []).sd
  refine ⟨pe_lc (own := [(x, i), (y, k)]) (g := gPair X.K i k) hc hN hi.pi ok hg (fun s H C cl fp => (ht s H C cl fp).pt) (fun s H C cl fp => (he s H C cl fp).pe) hs, fun M σ H ρ pv pd P Q A h q => ?_⟩
  exact hi.sd M σ H ρ pv pd _ _ A h fun J H1 ρ1 v d ds A1 sk h1 => comp2_core hik (vs := [v]) (dd := [d]) rfl sT sE (srcS_of sk) A1 h1 q
theorem df_compZ (hgz : Gl X "zip") (hmz : X.mg "zip" = none) (hik : i ≠ k) (hc : X.calm = true) (hN : X.N.Nodup) (ha : DA X [e1, e2] tr wr) (ok : BlkOk X.N X.env.scope scope [(x, i), (y, k)])
    (hg : ∀ (s : Shared) (H : Hp) (C : Addr) (cl : List (Str × Addr)) (fp : List Addr), PG (X.blk s H scope (compEnvC scope cl C X.env) fp) (.Tuple es kk tp) (gPair X.K i k)) (ht' : ∀ (s : Shared) (H : Hp) (C : Addr) (cl : List (Str × Addr)) (fp : List Addr), DTb (X.blk s H scope (compEnvC scope cl C X.env) fp) ifs tt wt)
    (he' : ∀ (s : Shared) (H : Hp) (C : Addr) (cl : List (Str × Addr)) (fp : List Addr), DEb (X.blk s H scope (compEnvC scope cl C X.env) fp) elt te we) (hz : starEach [e1, e2] X.env = (false, eval e1 X.env) :: starEach [e2] X.env := by rfl) (hpl : (backTo cp (starEach [e2] X.env)).any (·.1) = false := by rfl) (hs : ∀ x, foldedSetIterable (.Call (.Name "zip" p) [e1, e2] [] cp) X.env x = pure x := by intro _; rfl) :
    DF X (.ListComp elt [⟨.Tuple es kk tp, .Call (.Name "zip" p) [e1, e2] [] cp, ifs, 0⟩] scope pos) (tLc (iZip X.K tr) (gPair X.K i k) tt te [i, k]) (wCompZ wr i k wt we) := by
  have ht := fun s H C cl fp => (ht' s H C cl fp).dt
  have he := fun s H C cl fp => (he' s H C cl fp).de
  have sT : SndT X.K tt wt := (ht X.s_0 (fun _ => none) 0 [] []).sd
  have sE : Snd X.K te we := (he X.s_0 (fun _ => none) 0 [] []).sd
  refine ⟨pe_lc (own := [(x, i), (y, k)]) (g := gPair X.K i k) hc hN (pi_zip hgz hmz ha.pa hz hpl) ok hg (fun s H C cl fp => (ht s H C cl fp).pt) (fun s H C cl fp => (he s H C cl fp).pe) hs, fun M σ H ρ pv pd P Q A h q => ?_⟩
  refine ha.sd M σ H ρ pv pd _ _ A h fun vs ds H1 ρ1 hl A1 h1 => ?_
  split at h1
  · next xs ys =>
    obtain ⟨ow, B, hp⟩ := A1
    obtain ⟨g1, g2⟩ := DvAll.split hl hp
    cases g1 with
    | cons ga g1 =>
      cases g1 with
      | cons gb g1 =>
        cases g1
        cases ga with
        | @lst a us _ g3 g4 =>
          cases gb with
          | @lst b vs _ g5 g6 =>
            exact ⟨_, _, us, vs, rfl, .of (hide_le _ _ g3), .of (hide_le _ _ g5), comp2_core hik (vs := [.ref a, .ref b]) (dd := [.list xs, .list ys]) rfl sT sE srcS_zip ⟨ow, B, .cons (.lst g3 g4) (.cons (.lst g5 g6) g2)⟩ h1 q⟩
  · exact h1.elim
end
/-! ## reversed(list), reversed(tuple) -/
theorem src_rev {K : Fg} {a : Addr} {ds : List D} {n : Nat} (hn : n = ds.length) : SrcOk K (Itv K a n) (.ref a) (.list ds) ds.reverse := fun M σ H ρ pv pd A => by
  subst hn
  obtain ⟨ow, B, hp⟩ := A
  cases hp with
  | cons g3 hp =>
    cases g3 with
    | @lst _ ys _ g3 g4 =>
      have hS : SqL K H a ys := .of (hide_le _ _ g3)
      refine ⟨fun i hi => ?_, by rw [List.length_reverse]; exact Nat.le_refl _⟩
      have hi' : i < ds.length := by rwa [List.length_reverse] at hi
      obtain ⟨y, gy, gyd⟩ := g4.get (List.getElem?_eq_getElem (show ds.length - 1 - i < ds.length by omega))
      refine ⟨⟨hi', ys, y, hS, gy⟩, fun x H' hy => ?_⟩
      obtain ⟨rfl, fv⟩ := hy
      have ex : x = y := Option.some.inj ((fv _ hS).symm.trans gy)
      subst ex
      rw [List.getElem_reverse]
      exact ⟨ow, B, .cons gyd (.cons (.lst g3 g4) hp)⟩
theorem src_revT {K : Fg} {a : Addr} {ds : List D} {n : Nat} (hn : n = ds.length) : SrcOk K (ItvT K a n) (.ref a) (.tuple ds) ds.reverse := fun M σ H ρ pv pd A => by
  subst hn
  obtain ⟨ow, B, hp⟩ := A
  cases hp with
  | cons g3 hp =>
    cases g3 with
    | @tup _ ys _ g3 g4 =>
      have hS : SqT K H a ys := same_t hide_le g3
      refine ⟨fun i hi => ?_, by rw [List.length_reverse]; exact Nat.le_refl _⟩
      have hi' : i < ds.length := by rwa [List.length_reverse] at hi
      obtain ⟨y, gy, gyd⟩ := g4.get (List.getElem?_eq_getElem (show ds.length - 1 - i < ds.length by omega))
      refine ⟨⟨hi', ys, y, hS, gy⟩, fun x H' hy => ?_⟩
      obtain ⟨rfl, fv⟩ := hy
      have ex : x = y := Option.some.inj ((fv _ hS).symm.trans gy)
      subst ex
      rw [List.getElem_reverse]
      exact ⟨ow, B, .cons gyd (.cons (.tup g3 g4) hp)⟩
def wiRev (wa : WE) : WI := fun ρ P => wa ρ fun d ρ1 => match d with
  | .list ds => P ds.reverse ρ1
  | .tuple ds => P ds.reverse ρ1
  | _ => False
section
variable {X : Cx} {tg e : Expr} {ta : TE} {wa : WE} {p pos : Pos}
theorem di_rev (hg : Gl X "reversed") (hm : X.mg "reversed" = none) (ha : DE X e ta wa) (hz : starEach [e] X.env = (false, eval e X.env) :: starEach [] X.env := by rfl) : DI X tg (.Call (.Name "reversed" p) [e] [] pos) (iRevA X.K ta) (wiRev wa) := ⟨pi_revA hg hm ha.pe hz, fun M σ H ρ pv pd P R A h q => by
  refine ha.sd M σ H ρ pv pd _ _ A h fun v d H1 ρ1 A1 h1 => ?_
  split at h1
  · next ds =>
    obtain ⟨ow, B, hp⟩ := A1
    cases hp with
    | cons g1 hp =>
      cases g1 with
      | @lst a ys _ g3 g4 => exact ⟨a, ys, rfl, .inl ⟨.of (hide_le _ _ g3), q _ _ _ _ _ _ ⟨ow, B, .cons (.lst g3 g4) hp⟩ (src_rev g4.length) h1⟩⟩
  · next ds =>
    obtain ⟨ow, B, hp⟩ := A1
    cases hp with
    | cons g1 hp =>
      cases g1 with
      | @tup a ys _ g3 g4 => exact ⟨a, ys, rfl, .inr ⟨same_t hide_le g3, q _ _ _ _ _ _ ⟨ow, B, .cons (.tup g3 g4) hp⟩ (src_revT g4.length) h1⟩⟩
  · exact h1.elim⟩
end
end DL
namespace DL
open PySem PySem.Spec PyProof.Rows L2
/-- the same over given pairs, without a condition, its answer es -/
theorem wComp2L_of {ds es : List D} {i k : Nat} {we : WE} {ρ : Rho} {P : List D → Rho → Prop} (hl : es.length = ds.length) (hN : ds.length ≤ 100000)
    (hs : ∀ (j : Nat) (x y : D), ds[j]? = some x → es[j]? = some y → ∃ a b, x = .tuple [a, b] ∧ ∀ (Q : D → Rho → Prop), Q y (putP ρ i k a b) → we (putP ρ i k a b) Q)
    (hP : P es (unP ρ i k)) : wComp2D ds i k wYes we ρ P := by
  refine ⟨fun j acc => acc = es.take j, rfl, fun j x acc hx hI => ?_, fun acc hI => ?_⟩
  · subst hI
    have hj : j < ds.length := (List.getElem?_eq_some_iff.mp hx).1
    have hy : es[j]? = some es[j] := List.getElem?_eq_getElem (by omega)
    obtain ⟨a, b, e, h⟩ := hs j x es[j] hx hy
    refine ⟨a, b, e, rfl, ?_⟩
    rw [if_pos rfl]
    refine h _ ⟨rfl, by simp; omega, ?_⟩
    show _ = es.take (j + 1)
    rw [List.take_succ, hy]
    rfl
  · rw [← hl, List.take_length] at hI
    subst hI
    exact hP
end DL
namespace DL
open PySem PySem.Spec PyProof.Rows L2
theorem ds_setLcZ {X : Cx} {elt : Expr} {ifs : List Expr} {scope : Scope} {i k j : Nat} {x y z : Str} {pos py spos : Pos} {tt : TT} {te : TE} {wt : WT} {we : WE} {wr : WA} {tr : TA} {e1 e2 : Expr} {es : List Expr} {kk : Nat} {tp p cp : Pos} (hgz : Gl X "zip") (hmz : X.mg "zip" = none) (hik : i ≠ k) (hc : X.calm = true) (hN : X.N.Nodup) (ha : DA X [e1, e2] tr wr) (ok : BlkOk X.N X.env.scope scope [(x, i), (y, k)])
    (hg : ∀ (s : Shared) (H : Hp) (C : Addr) (cl : List (Str × Addr)) (fp : List Addr), PG (X.blk s H scope (compEnvC scope cl C X.env) fp) (.Tuple es kk tp) (gPair X.K i k)) (ht : ∀ (s : Shared) (H : Hp) (C : Addr) (cl : List (Str × Addr)) (fp : List Addr), DTb (X.blk s H scope (compEnvC scope cl C X.env) fp) ifs tt wt)
    (he : ∀ (s : Shared) (H : Hp) (C : Addr) (cl : List (Str × Addr)) (fp : List Addr), DEb (X.blk s H scope (compEnvC scope cl C X.env) fp) elt te we) (hy : X.N[j]? = some z) (hyl : X.env.scope.names.lookup z = some .local)
    (hsw : swapsWith (.ListComp elt [⟨.Tuple es kk tp, .Call (.Name "zip" p) [e1, e2] [] cp, ifs, 0⟩] scope pos) (some (.Name z py)) spos.line X.env = pure true) (hz : starEach [e1, e2] X.env = (false, eval e1 X.env) :: starEach [e2] X.env := by rfl) (hpl : (backTo cp (starEach [e2] X.env)).any (·.1) = false := by rfl) (hs : ∀ x, foldedSetIterable (.Call (.Name "zip" p) [e1, e2] [] cp) X.env x = pure x := by intro _; rfl) :
    DS X (.Assign [.Name z py] (.ListComp elt [⟨.Tuple es kk tp, .Call (.Name "zip" p) [e1, e2] [] cp, ifs, 0⟩] scope pos) spos) (tAsg (tLc (iZip X.K tr) (gPair X.K i k) tt te [i, k]) (gName j)) (wAsg (fun ρ P => wCompZ wr i k wt we ρ fun ds ρ1 => P (.list ds) ρ1) (wgName j)) :=
  ⟨ps_setLc (own := [(x, i), (y, k)]) hc hN hy hyl hsw (pi_zip hgz hmz ha.pa hz hpl) ok hg (fun s H C cl fp => (ht s H C cl fp).dt.pt) (fun s H C cl fp => (he s H C cl fp).de.pe) hs, snds_asg (df_compZ (pos := pos) hgz hmz hik hc hN ha ok hg ht he hz hpl hs).de.sd (sndg_name j)⟩
end DL
namespace DL
open PySem PySem.Spec PyProof.Rows L2
/-! a list and a list, as a new one that nobody else holds -/
def fCat : D → D → (List D → Prop) → Prop
  | .list a, .list b, P => a.length + b.length ≤ 100000 ∧ P (a ++ b)
  | _, _, _ => False
theorem snf_cat {K : Fg} : SnF2 K rCat fCat := fun lc hd H x y a b P Q al hx hy h q => by
  unfold fCat at h
  split at h
  · cases hy with
    | lst g3 g4 =>
      cases hx with
      | lst g1 g2 => exact ⟨_, _, _, _, rfl, rfl, hide_le _ _ g1, hide_le _ _ g3, by rw [g2.length, g4.length]; exact size_ok h.1, fun p hp => q _ _ p (g2.app g4) hp h.2⟩
  · exact h.elim
theorem df_cat {X : Cx} {a b : Expr} {ta tb : TE} {wa wb : WE} {pos : Pos} (ha : DE X a ta wa) (hb : DE X b tb wb) : DF X (.BinOp a .Add b pos) (tOp rCat ta tb) (wFBin fCat wa wb) := ⟨pe_op op_cat ha.pe hb.pe, sndF_op snf_cat ha.sd hb.sd⟩
end DL
namespace DL
open PySem PySem.Spec PyProof.Rows L2
/-- slot j is forgotten before the walk -/
def wiUn (j : Nat) (wI : WI) : WI := fun ρ P => wI ρ fun ds ρ1 => P ds (put ρ1 j .un)
theorem di_un {X : Cx} {tg iter : Expr} {wi : TI} {wI : WI} (j : Nat) (h : DI X tg iter wi wI) : DI X tg iter wi (wiUn j wI) := ⟨h.pi, fun M σ H ρ pv pd P R A hw q => h.sd M σ H ρ pv pd _ _ A hw fun J H1 ρ1 v d ds A1 sk h1 => q J H1 (put ρ1 j .un) v d ds (A1.unset j rfl fun _ _ => rfl) sk h1⟩
end DL
namespace DL
open PySem PySem.Spec PyProof.Rows L2
/-- the same where the items made are known by what holds of them -/
theorem wComp2G_of {ds : List D} {i k : Nat} {we : WE} {ρ : Rho} {P : List D → Rho → Prop} (R : Nat → D → Prop) (hN : ds.length ≤ 100000)
    (hs : ∀ (j : Nat) (x : D), ds[j]? = some x → ∃ a b, x = .tuple [a, b] ∧ ∀ (Q : D → Rho → Prop), (∀ y, R j y → Q y (putP ρ i k a b)) → we (putP ρ i k a b) Q)
    (hP : ∀ ys : List D, ys.length = ds.length → (∀ j y, ys[j]? = some y → R j y) → P ys (unP ρ i k)) : wComp2D ds i k wYes we ρ P := by
  refine ⟨fun j acc => acc.length = j ∧ ∀ n y, acc[n]? = some y → R n y, ⟨rfl, fun n y h => by cases h⟩, fun j x acc hx hI => ?_, fun acc hI => hP acc hI.1 hI.2⟩
  obtain ⟨h1, h2⟩ := hI
  have hj : j < ds.length := (List.getElem?_eq_some_iff.mp hx).1
  obtain ⟨a, b, e, h⟩ := hs j x hx
  refine ⟨a, b, e, rfl, ?_⟩
  rw [if_pos rfl]
  refine h _ fun y hy => ⟨rfl, by omega, by rw [List.length_append, h1]; rfl, fun n z hz => ?_⟩
  rw [List.getElem?_append] at hz
  split at hz
  · exact h2 n z hz
  · next c =>
    rw [List.getElem?_singleton] at hz
    split at hz
    · cases hz
      obtain rfl : n = j := by omega
      exact hy
    · cases hz
end DL
namespace DL
open PySem PySem.Spec PyProof.Rows L2
/-! a list taken apart into names -/
def wgLst (n : Nat) (u : WGs) : WG := fun d ρ P => match d with
  | .list ds => ds.length = n ∧ u ds ρ P
  | _ => False
theorem dg_lst {X : Cx} {es : List Expr} {gs : TGs} {u : WGs} {pos : Pos} {n k : Nat} (hc : X.calm = true) (h : DGs X es gs u) (hn : (assignEach es X.env).length = n := by rfl) (hst : (assignEach es X.env).findIdx? (·.1) = none := by rfl) : DG X (.Tuple es k pos) (gUnl X.K n gs) (wgLst n u) := ⟨pg_unl hc h.pg hn hst, fun M σ H ρ pv pd v d P Q A hw q => by
  cases d <;> first | exact hw.elim | skip
  obtain ⟨ow, B, hp⟩ := A
  cases hp with
  | cons g1 hp =>
    cases g1 with
    | lst g1 g2 =>
      exact ⟨_, _, rfl, .of (hide_le _ _ g1), by rw [g2.length]; exact hw.1, h.sd M σ H ρ pv pd _ _ _ _ g2.length ⟨ow, B, g2.app hp⟩ hw.2 q⟩⟩
end DL

namespace HT
open PySem PySem.Spec PyProof.Rows
section
variable {prog : Program} {w : World} {A : Around} {E : Value → Shared → Prop} {s : Shared}
theorem adjust_rev (n : Nat) : Builtin.Slice.sliceAdjust none none (-1) (n : Int) = ((n : Int) - 1, -1) := rfl
theorem places_rev (n : Nat) : Builtin.Slice.slicePlaces ((n : Int) - 1) (-1) (-1) = n := by
  unfold Builtin.Slice.slicePlaces
  rw [if_neg (by omega), show (- -1 : Int) = 1 by decide, Int.ediv_one]
  split <;> omega
theorem fm_map {α β : Type} {f : α → Option β} {g : α → β} : ∀ {l : List α}, (∀ m ∈ l, f m = some (g m)) → l.filterMap f = l.map g
  | [], _ => rfl
  | a :: l, h => by
    rw [List.filterMap_cons, h a (List.mem_cons_self ..), List.map_cons, fm_map fun m hm => h m (List.mem_cons_of_mem _ hm)]
theorem sliceApplied_rev {sl : Addr} {u : Tok} {n : Nat} {Q : Int × Int × Nat → Shared → Prop} (hs : s.heap.IsSliceOf sl .none .none (.int (-1) u))
    (h : Q ((n : Int) - 1, -1, n) s) : wpAny (model prog w) A (Builtin.Slice.sliceApplied (.ref sl) (pure (n : Int))) Q E s := by
  obtain ⟨os, hos, hcs, hds⟩ := id hs
  unfold Builtin.Slice.sliceApplied Builtin.Slice.sliceFields
  refine wpAny_bind (wpAny_bind (wpAny_field hos hds (x := .none) rfl (wpAny_bind (wpAny_field hos hds (x := .none) rfl (wpAny_bind (wpAny_field hos hds (x := .int (-1) u) rfl (wpAny_pure ?_)))))))
  refine wpAny_bind (slicePart_int ?_)
  show wpAny _ _ (if ((-1 : Int) == 0) = true then _ else _) _ _ s
  rw [if_neg (by decide)]
  refine wpAny_bind (slicePart_none (wpAny_bind (slicePart_none (wpAny_bind (wpAny_pure ?_)))))
  show wpAny _ _ (match Builtin.Slice.sliceAdjust none none (-1) (n : Int) with | (lo, hi) => pure (lo, (-1 : Int), Builtin.Slice.slicePlaces lo hi (-1))) _ _ s
  rw [adjust_rev n]
  show wpAny _ _ (pure ((n : Int) - 1, (-1 : Int), Builtin.Slice.slicePlaces ((n : Int) - 1) (-1) (-1))) _ _ s
  rw [places_rev]
  exact wpAny_pure h
theorem pick_rev (xs : Array Value) : ((List.range xs.size).filterMap fun (m : Nat) => xs[(((xs.size : Nat) : Int) - 1 + (m : Int) * (-1)).toNat]?).toArray = xs.toList.reverse.toArray := by
  congr 1
  refine List.ext_getElem? fun i => ?_
  have e : (List.range xs.size).filterMap (fun (m : Nat) => xs[(((xs.size : Nat) : Int) - 1 + (m : Int) * (-1)).toNat]?) = (List.range xs.size).map fun m => xs.toList[xs.size - 1 - m]?.getD .none := by
    refine fm_map fun m hm => ?_
    have hm := List.mem_range.mp hm
    have t : (((xs.size : Nat) : Int) - 1 + (m : Int) * (-1)).toNat = xs.size - 1 - m := by omega
    rw [t]
    have h2 : xs.size - 1 - m < xs.size := by omega
    simp [h2]
  rw [e, List.getElem?_map]
  by_cases c : i < xs.size
  · rw [List.getElem?_range c, List.getElem?_reverse (by simpa using c)]
    have h2 : xs.size - 1 - i < xs.size := by omega
    simp [h2]
  · rw [List.getElem?_eq_none (by simpa using c), List.getElem?_eq_none (by simpa using c)]; rfl
theorem getItem_tuple_rev {t sl : Addr} {items : Array Value} {u : Tok} {Q : Value → Shared → Prop} (ht : IsTup s.heap t items) (hs : s.heap.IsSliceOf sl .none .none (.int (-1) u))
    (h : Q (.ref s.heap.objs.size) { s with heap := s.heap.push { cls := .type "tuple", data := .seq items.toList.reverse.toArray } })
    (hsz : items.size ≤ sizeLine) : wpAny (model prog w) A (getItem (.ref t) (.ref sl)) Q E s := by
  have htake : sizeOk (.seq items.toList.reverse.toArray) := by
    show items.toList.reverse.toArray.size ≤ sizeLine
    simpa using hsz
  obtain ⟨os, hos, hcs, hds⟩ := id hs
  have hTs : s.TypeIs (.ref sl) "slice" := ⟨os, hos, hcs⟩
  unfold getItem
  try with_reducible refine wpAny_holding ?_
  first | refine wpAny_bind (wpAny_pure ?_) | skip
  refine wpAny_bind (wpAny_sequenceKey ht.typeIs (by decide) ?_)
  refine wpAny_bind (wpAny_callSpecial?_slot (name := Str.ofString "__getitem__") ht.typeIs PyProof.Rows.slot_tuple_getitem
    (wpAny_call_entry PyProof.Rows.slot_tuple_getitem ht.typeIs entry_tuple_getitem ?_ (args_tuple_getitem _ _)))
  show wpAny _ _ (Builtin.Tuple.tupleItemsOf (.ref t) >>= _) _ _ s
  refine wpAny_bind (tupleItemsOf_ ht ?_)
  refine wpAny_bind (wpAny_typeOf hTs ?_)
  rw [if_pos (by decide)]
  refine wpAny_bind (sliceApplied_rev hs ?_)
  have hno : ¬ ((((items.size : Int) - 1) == 0 && (-1 : Int) == 1 && items.size == items.size) = true) := by simp
  show wpAny _ _ (if (((items.size : Int) - 1) == 0 && (-1 : Int) == 1 && items.size == items.size) = true then _ else _) _ _ s
  rw [if_neg hno, pick_rev]
  first
    | exact wpAny_bind (m := Builtin.Tuple.tupleExact _) (wpAny_newObj_type (wpAny_pure ⟨_, rfl, wpAny_pure h⟩) htake)
    | exact wpAny_bind (m := Builtin.Tuple.tupleExact _) (wpAny_newObj_type (wpAny_bind (wpAny_pure (wpAny_pure ⟨_, rfl, wpAny_pure h⟩))) htake)
    | exact wpAny_bind (wpAny_bind (m := Builtin.Tuple.tupleExact _) (wpAny_newObj_type (wpAny_pure (wpAny_pure ⟨_, rfl, wpAny_pure h⟩)) htake))
    | exact wpAny_bind (wpAny_bind (m := Builtin.Tuple.tupleExact _) (wpAny_newObj_type (wpAny_pure ⟨_, rfl, wpAny_pure h⟩) htake))
end
end HT
namespace L2
open PySem PySem.Spec PyProof.Rows
def tRevT (K : PySem.W.Frag) (te : TE) : TE := fun σ H Q => te σ H fun x H1 => ∃ a xs, x = .ref a ∧ SqT K H1 a xs ∧ ∀ p, H1 p = none → Q (.ref p) (upd H1 p (.tup xs.reverse))
theorem pe_revT {X : Cx} {e : Expr} {te : TE} {k : Nat} {p1 p2 p3 pos : Pos} (he : PE X e te) : PE X (.Subscript e (.Slice none none (some (.UnaryOp .USub (.Constant (.int 1) k p1) p2)) p3) pos) (tRevT X.K te) := by
  refine ⟨fun pins s σ H Q I h => ?_⟩
  refine Subscript_ (thn (he.run pins s σ H _ I h) fun v s1 ⟨x, H1, I1, r1, q1⟩ => ?_)
  obtain ⟨a, xs, ex, hx, q⟩ := q1
  subst ex
  cases r1
  have hst : PO X (some (.UnaryOp .USub (.Constant (.int 1) k p1) p2)) (tPart (tUn (rU fun i => .int (-i)) (tC (.int 1)))) := po_some (pe_un un_neg pe_int)
  refine wpAny_Slice (thn (po_none.run pins s1 σ H1 (fun o H2 => o = none ∧ H2 = H1) I1 ⟨rfl, rfl⟩) fun vl s2 ⟨l, H2, I2, pl, el, e2⟩ => ?_)
  subst el e2
  refine thn (po_none.run pins s2 σ H2 (fun o H3 => o = none ∧ H3 = H2) I2 ⟨rfl, rfl⟩) fun vu s3 ⟨u, H3, I3, pu, eu, e3⟩ => ?_
  subst eu e3
  refine thn (hst.run pins s3 σ H3 (fun o H4 => o = some (-1) ∧ H4 = H3) I3 ⟨1, rfl, -1, rfl, rfl, rfl⟩) fun vs s4 ⟨o, H4, I4, ps, eo, e4⟩ => ?_
  subst eo e4
  have I5 : Inv X pins σ H4 { s4 with heap := s4.heap.push { cls := .type "slice", data := .fields #[vl, vu, vs] } } := I4.kept (t' := s4.toks) fun b ob q => Heap.get?_push_of_some _ q
  obtain ⟨its, r, ht, hz⟩ := I5.tuple hx
  have hlen := r.length
  cases pl
  cases pu
  cases ps with
  | int i tk =>
    show wpAny (model X.prog X.w) X.A (subscriptTail e (.Slice none none (some (.UnaryOp .USub (.Constant (.int 1) k p1) p2)) p3) (.ref a) (.ref s4.heap.objs.size)) (EP X pins σ Q) X.xe { s4 with heap := s4.heap.push { cls := .type "slice", data := .fields #[.none, .none, .int (-1) tk] } }
    refine tail_any (ops := [.ref a, .ref s4.heap.objs.size]) ht.typeIs (PyProof.Rows.slot_tuple_getitem.lookup) ?_ (by with_unfolding_all rfl)
    refine HT.getItem_tuple_rev ht (Heap.IsSliceOf.new _ .none .none (.int (-1) tk)) ?_ (by rw [List.size_toArray]; omega)
    refine ⟨.ref _, _, I5.laid (t' := s4.toks) (o := .tup xs.reverse) (fun b ob q => Heap.get?_push_of_some _ q) (Nat.le_refl _) ?_, rfl, q _ (I5.hok.fresh (Nat.le_refl _))⟩
    exact ⟨by rw [List.length_reverse]; exact hz, _, r.reverse, IsTup.new _ _⟩
end L2
namespace DL
open PySem PySem.Spec PyProof.Rows L2
theorem rev_dv {K : Fg} {lc : Option Addr} {H : Hp} : ∀ {vs : List V} {ds : List D}, DvAll K lc H vs ds → DvAll K lc H vs.reverse ds.reverse
  | _, _, .nil => .nil
  | _, _, .cons h1 h2 => by
    rw [List.reverse_cons, List.reverse_cons]
    exact (rev_dv h2).app (.cons h1 .nil)
def wRevT (wa : WE) : WE := fun ρ P => wa ρ fun d ρ1 => match d with
  | .tuple ds => P (.tuple ds.reverse) ρ1
  | _ => False
theorem de_revT {X : Cx} {e : Expr} {ta : TE} {wa : WE} {k : Nat} {p1 p2 p3 pos : Pos} (he : DE X e ta wa) : DE X (.Subscript e (.Slice none none (some (.UnaryOp .USub (.Constant (.int 1) k p1) p2)) p3) pos) (tRevT X.K ta) (wRevT wa) := ⟨pe_revT he.pe, fun M σ H ρ pv pd P Q A h q => by
  refine he.sd M σ H ρ pv pd _ _ A h fun v d H1 ρ1 A1 h1 => ?_
  split at h1
  · next ds =>
    obtain ⟨ow, B, hp⟩ := A1
    cases hp with
    | cons g1 hp =>
      cases g1 with
      | @tup a xs _ g1 g2 =>
        refine ⟨a, xs, rfl, same_t hide_le g1, fun p hp0 => ?_⟩
        have e := same_new (o := .tup xs.reverse) hp0
        exact q _ _ _ _ ⟨ow, B.step (.of e) (B.cok.mono e), .cons (.tup (.of (new_vis B.hall hp0)) ((rev_dv g2).mono (vis_of e))) (hp.mono (B.vis (.of e)))⟩ h1
  · exact h1.elim⟩
end DL

namespace DL
open PySem PySem.Spec PyProof.Rows L2

/-! ## a def whose answer is a new list that nobody else holds -/
def SpF (K : Fg) (pre : List D → Prop) (post : List D → D → Prop) : Sp := fun vs H Q _ => ∃ (lc : Option Addr) (hc hd : Addr → Prop) (ds : List D),
  DvAll K lc (hide hd H) vs ds ∧ Cok K lc hc H ∧ (∀ b, hc b → hd b) ∧ (∀ b, hd b → H b ≠ none) ∧ pre ds ∧
    ∀ p xs es H', H p = none → Evo lc H H' → Cok K lc hc H' → H' p = some (.lst xs) → DvAll K lc (hide (fun b => hd b ∨ b = p) H') xs es → post ds (.list es) → Q (.ref p) H'
section
variable {K : Fg} {M : Amb} {H H' : Hp} {σ : L2.St} {ρ : Rho} {pv : List V} {pd : List D} {ow : Nat → Option Addr} {p : Addr} {ds : List D}
theorem AtW.vis1 (A : AtW K M σ H ρ ow) (hp : H p = none) (e : Evo M.lc H H') : Same (hide (hdO M ow) H) (hide (hdO (M.plus p ds) ow) H') := hide_same fun b o n h => ⟨(fun z => by
    rcases hdO_minus z with z | z
    · exact n z
    · subst z
      rw [hp] at h; cases h), e b o (fun z => n (.inl (A.sub b (A.cok b z).2))) h⟩
theorem AtW.plus1 {xs : List V} (A : AtW K M σ H ρ ow) (hp : H p = none) (e : Evo M.lc H H') (c : Cok K M.lc M.hc H') (hx : H' p = some (.lst xs)) (g : DvAll K M.lc (hide (fun b => hdO M ow b ∨ b = p) H') xs ds) : AtW K (M.plus p ds) σ H' ρ ow := by
  have h0 := A.none0 hp
  have vis : Same (hide (hdO M ow) H) (hide (hdO (M.plus p ds) ow) H') := A.vis1 hp e
  have g' : DvAll K M.lc (hide (hdO (M.plus p ds) ow) H') xs ds := g.mono (hide_same fun b o n h => ⟨fun z => n (hdO_minus z), h⟩)
  exact {
    evo := A.evo.trans e
    cok := c
    sub := A.sub
    all := A.all
    len := A.len
    val := fun i d h => by
      obtain ⟨v, h1, h2⟩ := A.val i d h
      exact ⟨v, h1, h2.mono vis⟩
    own := fun i ds h => by
      obtain ⟨q, xs, h1, h2, h3, h4⟩ := A.own i ds h
      exact ⟨q, xs, h1, h2, e _ _ (A.nel (A.fre i q h1).1) h3, h4.mono vis⟩
    fre := fun i q h => by
      obtain ⟨h1, xs, h2⟩ := A.fre i q h
      exact ⟨h1, xs, e q _ (A.nel h1) h2⟩
    inj := A.inj
    gho := fun q es h => by
      rcases List.mem_cons.mp h with z | z
      · cases z
        exact ⟨h0, (fun i hi => by
          obtain ⟨_, ys, h⟩ := A.fre i p hi
          rw [hp] at h
          exact nomatch h), xs, hx, g'⟩
      · obtain ⟨h1, h2, xs, h3, h4⟩ := A.gho q es z
        exact ⟨h1, h2, xs, e _ _ (A.nel h1) h3, h4.mono vis⟩
    gnd := List.nodup_cons.mpr ⟨fun z => by
      obtain ⟨⟨q, es⟩, h1, h2⟩ := List.mem_map.mp z
      cases h2
      obtain ⟨_, _, xs, h3, _⟩ := A.gho p es h1
      exact absurd h3 (by rw [hp]; exact fun z => nomatch z), A.gnd⟩ }
end
def wCallF (pre : List D → Prop) (post : List D → D → Prop) (wa : WA) : WF := fun ρ P => wa ρ fun ds ρ1 => pre ds ∧ ∀ es, post ds (.list es) → P es ρ1
def wFOr (wa wb : WF) : WF := fun ρ P => wa ρ fun ds ρ1 => if ds.isEmpty = true then wb ρ1 P else P ds ρ1
section
variable {X : Cx} {K : Fg} {a b c e : Expr} {es : List Expr} {ta tb : TE} {wa wb : WF} {t : TA} {wr : WA} {pos p p2 : Pos}
theorem sndf_call {pre : List D → Prop} {post : List D → D → Prop} {E : XK} (h : SndA K t wr) : SndF K (tCall (SpF K pre post) [] E t) (wCallF pre post wr) := fun M σ H ρ pv pd P Q A hw q => by
  refine h M σ H ρ pv pd _ _ A hw fun vs ds H1 ρ1 hl A1 h1 => ?_
  obtain ⟨ow, B, hp⟩ := A1
  obtain ⟨g1, g2⟩ := DvAll.split hl hp
  show SpF K pre post (vs ++ []) H1 Q E
  rw [List.append_nil]
  refine ⟨M.lc, M.hc, hdO M ow, ds, g1, B.cok, fun b z => .inl (B.sub b z), B.hall, h1.1, fun p xs es H' h0 e c hx g p2 => ?_⟩
  exact q p es H' ρ1 ⟨ow, B.plus1 h0 e c hx g, g2.mono (B.vis1 h0 e)⟩ (h1.2 es p2)
theorem df_call {CX : CXT} {k : Nat} {f : Addr} {fd : FuncData} {ps : List Str} {pre : List D → Prop} {post : List D → D → Prop} {E : XK} {x : Str} {K' : Fg} (F : FnOk X.prog X.w X.K X.mg X.base CX k f fd ps (SpF K' pre post)) (hr : Room k X.A) (hg : Gl X x) (hm : X.mg x = some (.ref f))
    (hk : PySem.W.keepIn X.K (.ref f) = true) (hb : Binds X.K fd ps []) (hx : Passes CX X E) (ha : DA X (e :: es) t wr) (hK : X.K = K' := by rfl) (hdb : (x == ("__debug__" : Str)) = false := by decide) (he : starEach (e :: es) X.env = (false, eval e X.env) :: starEach es X.env := by rfl)
    (hpl : (backTo pos (starEach es X.env)).any (·.1) = false := by rfl) : DF X (.Call (.Name x p) (e :: es) [] pos) (tCall (SpF K' pre post) [] E t) (wCallF pre post wr) :=
  ⟨pe_call F hr hg hm hk hb .nil hx ha.pa hdb he hpl, by subst hK; exact sndf_call ha.sd⟩
theorem df_one {op} (ha : DF X a ta wa) : DF X (.BoolOp op [a] pos) ta wa := ⟨pe_one ha.pe, ha.sd⟩
theorem df_or (ha : DF X a ta wa) (hb : DF X (.BoolOp .Or (b :: es) pos) tb wb) : DF X (.BoolOp .Or (a :: b :: es) pos) (tOrT X.K ta tb) (wFOr wa wb) := ⟨pe_orT ha.pe hb.pe, fun M σ H ρ pv pd P Q A h q => by
  refine ha.sd M σ H ρ pv pd _ _ A h fun p ds H1 ρ1 A1 h1 => ?_
  have A2 := A1
  obtain ⟨ow, B, hp⟩ := A1
  obtain ⟨g1, g2, xs, g3, g4⟩ := B.gho p ds (List.mem_cons_self ..)
  refine ⟨!ds.isEmpty, .inl ⟨xs, .of g3, by rw [g4.isEmpty]⟩, ?_⟩
  cases e : ds.isEmpty with
  | true =>
    rw [e] at h1
    rw [if_pos rfl] at h1
    rw [if_neg (by simp)]
    exact hb.sd M σ H1 ρ1 pv pd _ _ A2.free.pop h1 q
  | false =>
    rw [e] at h1
    rw [if_neg (by simp)] at h1
    rw [if_pos (by simp)]
    exact q _ _ _ _ A2 h1⟩
end

/-! ## bodies that give new lists -/
structure FinF (K : Fg) (M : Amb) (pv : List V) (pd : List D) (DD : DEnds) (HD : Ends) : Prop where
  nx : ∀ σ H ρ, At K M σ H ρ pv pd → DD.nx ρ → HD.nx σ H
  rt : ∀ p xs es H, M.H0 p = none → Evo M.lc M.H0 H → Cok K M.lc M.hc H → H p = some (.lst xs) → DvAll K M.lc (hide (fun b => M.hd b ∨ b = p) H) xs es → DD.rt (.list es) → HD.rt (.ref p) H
  bk : ∀ σ H ρ, At K M σ H ρ pv pd → DD.bk ρ → HD.bk σ H
  ct : ∀ σ H ρ, At K M σ H ρ pv pd → DD.ct ρ → HD.ct σ H
def SndSF (K : Fg) (t : TS) (w : WS) : Prop := ∀ (M : Amb) (σ : L2.St) (H : Hp) (ρ : Rho) (pv : List V) (pd : List D) (DD : DEnds) (HD : Ends),
  At K M σ H ρ pv pd → w DD ρ → FinF K M pv pd DD HD → t HD σ H
structure DSF (X : Cx) (st : Stmt) (t : TS) (w : WS) : Prop where
  ps : PS X st t
  sd : SndSF X.K t w
structure DSsF (X : Cx) (sts : List Stmt) (t : TS) (w : WS) : Prop where
  ps : PSs X sts t
  sd : SndSF X.K t w
/-- a statement that gives no answer -/
def wNoR (w : WS) : WS := fun DD ρ => w { DD with rt := fun _ => False } ρ
def wRetF (wf : WF) : WS := fun DD ρ => wf ρ fun ds _ => DD.rt (.list ds)
def wRetO (i : Nat) : WS := fun DD ρ => match look ρ i with
  | .own ds => DD.rt (.list ds)
  | _ => False
section
variable {X : Cx} {K : Fg} {a b c e : Expr} {tt : TT} {wt : WT} {ta : TE} {wf : WF} {pos p p2 : Pos} {st : Stmt} {sts sts2 : List Stmt} {ts tu : TS} {w u : WS}
theorem dsf_of (h : DS X st ts w) : DSF X st ts (wNoR w) := ⟨h.ps, fun M σ H ρ pv pd DD HD A hw F =>
  h.sd M σ H ρ pv pd { DD with rt := fun _ => False } HD A hw ⟨F.nx, fun _ _ _ _ _ _ h => h.elim, F.bk, F.ct⟩⟩
theorem dssf_nil : DSsF X [] tNext wNext := ⟨pss_nil, fun M σ H ρ pv pd DD HD A h F => F.nx σ H ρ A h⟩
theorem dssf_cons (h1 : DSF X st ts w) (h2 : DSsF X sts tu u) : DSsF X (st :: sts) (tSeq ts tu) (wSeq w u) := ⟨pss_cons h1.ps h2.ps, fun M σ H ρ pv pd DD HD A h F =>
  h1.sd M σ H ρ pv pd _ { HD with nx := tu HD } A h ⟨fun σ' H' ρ' A' h' => h2.sd M σ' H' ρ' pv pd _ _ A' h' F, F.rt, F.bk, F.ct⟩⟩
theorem dssf_one (h1 : DSF X st ts w) : DSsF X [st] ts w := ⟨pss_one h1.ps, h1.sd⟩
theorem dsf_if {c : Expr} (hc : DT X c tt wt) (ha : DSsF X sts ts w) (hb : DSsF X sts2 tu u) : DSF X (.If c sts sts2 pos) (tIfS tt ts tu) (wIfS wt w u) := ⟨ps_if hc.pt ha.ps hb.ps, fun M σ H ρ pv pd DD HD A h F => by
  refine hc.sd M σ H ρ pv pd _ _ A h fun b H1 ρ1 A1 h1 => ?_
  cases b with
  | true =>
    rw [if_pos rfl] at h1 ⊢
    exact ha.sd M σ H1 ρ1 pv pd _ _ A1 h1 F
  | false =>
    rw [if_neg Bool.false_ne_true] at h1 ⊢
    exact hb.sd M σ H1 ρ1 pv pd _ _ A1 h1 F⟩
theorem dsf_ret (he : DF X e ta wf) : DSF X (.Return (some e) pos) (tRet ta) (wRetF wf) := ⟨ps_ret he.pe, fun M σ H ρ pv pd DD HD A h F => he.sd M σ H ρ pv pd _ _ A h fun p ds H' ρ' A' h' => by
  obtain ⟨ow, B, hp⟩ := A'
  obtain ⟨g1, g2, xs, g3, g4⟩ := B.gho p ds (List.mem_cons_self ..)
  exact F.rt p xs ds H' g1 B.evo B.cok g3 (g4.mono (hide_same fun b o n h => ⟨fun z => n (by
    rcases z with z | z
    · exact .inl z
    · subst z; exact .inr (.inr ⟨ds, List.mem_cons_self ..⟩)), h⟩)) h'⟩
theorem dsf_never : DSF X st tNever wNever := ⟨ps_never, fun M σ H ρ pv pd DD HD A h F => h.elim⟩
theorem dsf_retO (i : Nat) {x : Str} (hN : X.N[i]? = some x := by rfl) (hv : Vis X.env.scope x := by first | exact Or.inl rfl | exact Or.inr (Or.inl rfl) | exact Or.inr (Or.inr rfl)) (hd : (x == ("__debug__" : Str)) = false := by decide)
    (hcd : (x == ("__classdict__" : Str)) = false := by decide) : DSF X (.Return (some (.Name x p)) pos) (tRet (tVar i)) (wRetO i) := ⟨ps_ret (pe_var hN hv hd hcd), fun M σ H ρ pv pd DD HD A h F => by
  obtain ⟨ow, B, hp⟩ := A
  unfold wRetO at h
  split at h
  · next ds e =>
    obtain ⟨p, xs, h1, h2, h3, h4⟩ := B.own i ds e
    exact ⟨.ref p, h2, F.rt p xs ds H (B.fre i p h1).1 B.evo B.cok h3 (h4.mono (hide_same fun b o n h => ⟨fun z => n (by
      rcases z with z | z
      · exact .inl z
      · subst z; exact .inr (.inl ⟨i, h1⟩)), h⟩)) h⟩
  · exact h.elim⟩
end
section
variable {P : Program} {w : World} {K : Fg} {mg : Str → Option Value} {base : Heap}
theorem fnf_ok {x qual : Str} {st : Stmt} {f : Addr} {fd : FuncData} {N ps : List Str} {k : Nat} {pre : List D → Prop} {post : List D → D → Prop} (F : Fun K x qual st f fd) (S : FnScope N ps (defScope st)) (len : ∀ ds, pre ds → ds.length = ps.length)
    (body : ∀ (cdv : Value) (A : Around) (outer : List PySem.Env) (s : Shared) (H : Hp) (E : XK), Room k (A.deeper (envOfC qual (defScope st) s.heap.objs.size f cdv)) →
      ∃ t u, DSsF (cxOf CX0 P w K mg base N qual (defScope st) f cdv A outer s H E).nox (defBody st) t u ∧ ∀ ds, pre ds → u { nx := fun _ => False, rt := post ds } (env0 N ds)) :
    FnOk P w K mg base CX0 (k + 1) f fd ps (SpF K pre post) := by
  refine F.ok S (fun vs H Q E h => ?_) (fun cdv A outer s H vs Q E hr h => ?_)
  · obtain ⟨lc, hc, hd, ds, g, c, sb, al, p, q⟩ := h
    rw [g.length]
    exact len ds p
  · obtain ⟨lc, hc, hd, ds, g, c, sb, al, p, q⟩ := h
    obtain ⟨t, u, b, hu⟩ := body cdv A outer s H E hr
    exact ⟨t, b.ps, b.sd ⟨lc, hc, hd, H, []⟩ (L2.start N vs) H (env0 N ds) [] [] _ _ (at_start g c sb al) (hu ds p) ⟨fun _ _ _ _ h => h.elim, fun p xs es H' h0 e c' hx g' h' => q p xs es H' h0 e c' hx g' h', fun _ _ _ _ h => h.elim, fun _ _ _ _ h => h.elim⟩⟩
end
end DL

namespace L2
open PySem PySem.Spec PyProof.Rows
/-! ## a tuple times any int -/
theorem tuple_mul_one (l : Addr) (items : Array Value) (n : Nat) (dd : Option Addr) (sl : Array (Option Value)) (x : Int) (u : Tok) (c0 : (decide (x < -(2 ^ 63)) || decide (x ≥ 2 ^ 63)) = false) (c1 : (items.isEmpty || x == 1) = true) :
    Meets (Builtin.«tuple.__mul__» ⟨[.ref l, .int x u], []⟩) (fun _ R s => s.heap.get? l = some { cls := .type "tuple", dict := dd, data := .seq items n, slots := sl } ∧ R (.ok (.ret (Value.ref l))) s) :=
  .of_wp fun prog w A R s h => by
    obtain ⟨hp, g, d, tk, os⟩ := s
    obtain ⟨hl, h⟩ := h
    have f1 := AutoSeq1.idx_int
    wp_walk using wpAny_loadPart' hl
    repeat (first
      | (refine wpAny_ite_false (decide_eq_false (by rw [c0]; exact Bool.false_ne_true)) ?_; wp_walk using wpAny_loadPart' hl)
      | (refine wpAny_ite_true (decide_eq_true c1) ?_; wp_walk using wpAny_loadPart' hl))
    exact ⟨_, rfl, h⟩
theorem tuple_mul_none (l : Addr) (items : Array Value) (n : Nat) (dd : Option Addr) (sl : Array (Option Value)) (x : Int) (u : Tok) (c0 : (decide (x < -(2 ^ 63)) || decide (x ≥ 2 ^ 63)) = false) (c1 : (items.isEmpty || x == 1) = false) (c2 : (decide (x ≤ 0) || items.isEmpty) = true) :
    Meets (Builtin.«tuple.__mul__» ⟨[.ref l, .int x u], []⟩) (fun _ R s => s.heap.get? l = some { cls := .type "tuple", dict := dd, data := .seq items n, slots := sl } ∧
      R (.ok (.ret (Value.ref s.heap.objs.size))) { s with heap := s.heap.push { cls := Value.type "tuple", data := Data.seq #[] }, toks := s.toks }) :=
  .of_wp fun prog w A R s h => by
    obtain ⟨hp, g, d, tk, os⟩ := s
    obtain ⟨hl, h⟩ := h
    have f1 := AutoSeq1.idx_int
    wp_walk using wpAny_loadPart' hl
    repeat (first
      | (refine wpAny_ite_false (decide_eq_false (by rw [c0]; exact Bool.false_ne_true)) ?_; wp_walk using wpAny_loadPart' hl)
      | (refine wpAny_ite_false (decide_eq_false (by rw [c1]; exact Bool.false_ne_true)) ?_; wp_walk using wpAny_loadPart' hl)
      | (refine wpAny_ite_true (decide_eq_true c2) ?_; wp_walk using wpAny_loadPart' hl))
    exact ⟨_, rfl, h⟩
end L2
namespace L2
open PySem PySem.Spec PyProof.Rows
def rRepTA (K : PySem.W.Frag) : R2 := fun x y H Q => ∃ l k xs, x = .ref l ∧ y = .int k ∧ SqT K H l xs ∧ -(2 ^ 63) ≤ k ∧ k < 2 ^ 63 ∧ xs.length ≤ 100000 ∧ xs.length * k.toNat ≤ 100000 ∧
  ((k = 1 ∨ xs = []) → Q (.ref l) H) ∧ (¬ (k = 1 ∨ xs = []) → ∀ p, H p = none → Q (.ref p) (upd H p (.tup (List.replicate k.toNat xs).flatten)))
theorem op_repTA {X : Cx} : OpR X (binaryOp .Mult) (rRepTA X.K) := by
  intro pins s σ H x y v u Q I rx ry h
  obtain ⟨l, k, xs, rfl, rfl, hT, h1, h2, hz0, hz, qs, qn⟩ := h
  cases rx
  obtain ⟨t, rfl⟩ := ry
  obtain ⟨its, r, ⟨⟨cls, dd, data, sl⟩, ho, hc, n, hd⟩, hs⟩ := I.tuple hT
  simp only at hc hd
  subst hc hd
  have hle : its.length = xs.length := r.length.symm
  have hsz0 : its.toArray.size = xs.length := by rw [List.size_toArray, hle]
  have flen : (List.replicate k.toNat its).flatten.length ≤ sizeLine := by
    rw [PyProof.Rows.lm_len_rep_flat, hle, sizeLine_eq, Nat.mul_comm]
    omega
  have c0 : (decide (k < -(2 ^ 63)) || decide (k ≥ 2 ^ 63)) = false := by
    rw [decide_eq_false (by omega), decide_eq_false (by omega)] <;> rfl
  have ie : its.toArray.isEmpty = decide (xs = []) := by
    cases its with
    | nil =>
      have : xs = [] := List.eq_nil_of_length_eq_zero hle.symm
      subst this; rfl
    | cons a b =>
      cases xs with
      | nil => cases hle
      | cons a b => rfl
  by_cases c : k = 1 ∨ xs = []
  · have c1 : (its.toArray.isEmpty || k == 1) = true := by
      rw [ie]
      rcases c with c | c
      · subst c; simp
      · rw [decide_eq_true c]; rfl
    refine wpAny_binaryOp_repeat_ref (T := "tuple") (U := "int") (by decide) ⟨_, ho, rfl⟩ (fun s' => typeIs_int s' k t) noFill_tuple_mul F.fills_int_mul F.slot_int_rmul repeat_tuple F.slot_int_index.lookup
      (call_meets F.slot_int_rmul (typeIs_int s k t) F.entry_int_rmul (F.args_int_rmul_2 _ _) (int_rmul_tuple k t l its.toArray n dd sl)
        ⟨ho, rfl, ⟨_, ho, rfl⟩, call_meets F.slot_tuple_mul ⟨_, ho, rfl⟩ F.entry_tuple_mul (F.args_tuple_mul_2 _ _) (tuple_mul_one l its.toArray n dd sl k t c0 c1) ⟨ho, ?_⟩⟩)
    exact ⟨.ref l, H, I, rfl, qs c⟩
  · have c1 : (its.toArray.isEmpty || k == 1) = false := by
      rw [ie, decide_eq_false (fun z => c (.inr z)), Bool.false_or]
      exact beq_eq_false_iff_ne.mpr (fun z => c (.inl z))
    by_cases c3 : k ≤ 0
    · have c2 : (decide (k ≤ 0) || its.toArray.isEmpty) = true := by rw [decide_eq_true c3]; rfl
      refine wpAny_binaryOp_repeat_ref (T := "tuple") (U := "int") (by decide) ⟨_, ho, rfl⟩ (fun s' => typeIs_int s' k t) noFill_tuple_mul F.fills_int_mul F.slot_int_rmul repeat_tuple F.slot_int_index.lookup
        (call_meets F.slot_int_rmul (typeIs_int s k t) F.entry_int_rmul (F.args_int_rmul_2 _ _) (int_rmul_tuple k t l its.toArray n dd sl)
          ⟨ho, rfl, ⟨_, ho, rfl⟩, call_meets F.slot_tuple_mul ⟨_, ho, rfl⟩ F.entry_tuple_mul (F.args_tuple_mul_2 _ _) (tuple_mul_none l its.toArray n dd sl k t c0 c1 c2) ⟨ho, ?_⟩⟩)
      have q := qn c s.heap.objs.size (I.hok.fresh (Nat.le_refl _))
      have e0 : (List.replicate k.toNat xs).flatten = [] := by
        have : k.toNat = 0 := by omega
        rw [this]; rfl
      rw [e0] at q
      refine ⟨.ref s.heap.objs.size, _, I.laid (t' := s.toks) (o := .tup []) (fun b ob q => Heap.get?_push_of_some _ q) (Nat.le_refl _) ?_, rfl, q⟩
      exact ⟨Nat.zero_le _, [], .nil, IsTup.new _ _⟩
    · have c2 : (decide (k ≤ 0) || its.toArray.isEmpty) = false := by
        rw [decide_eq_false c3, ie, decide_eq_false (fun z => c (.inr z))]; rfl
      have hx1 : 1 ≤ xs.length := List.length_pos_iff.mpr fun z => c (.inr z)
      have hm : ((its.toArray.size : Nat) : Int) * k ≤ 1000000 := by
        rw [hsz0]
        have : ((xs.length * k.toNat : Nat) : Int) ≤ 100000 := by omega
        rw [Int.natCast_mul, show ((k.toNat : Nat) : Int) = k by omega] at this
        omega
      have c4 : Builtin.Tuple.tupleTooMany (((its.toArray.size : Nat) : Int) * k) = false := by
        unfold Builtin.Tuple.tupleTooMany
        rw [sizeLine_eq]
        exact decide_eq_false (by omega)
      refine wpAny_binaryOp_repeat_ref (T := "tuple") (U := "int") (by decide) ⟨_, ho, rfl⟩ (fun s' => typeIs_int s' k t) noFill_tuple_mul F.fills_int_mul F.slot_int_rmul repeat_tuple F.slot_int_index.lookup
        (call_meets F.slot_int_rmul (typeIs_int s k t) F.entry_int_rmul (F.args_int_rmul_2 _ _) (int_rmul_tuple k t l its.toArray n dd sl)
          ⟨ho, rfl, ⟨_, ho, rfl⟩, call_meets F.slot_tuple_mul ⟨_, ho, rfl⟩ F.entry_tuple_mul (F.args_tuple_mul_2 _ _) (tuple_mulW l its.toArray n dd sl k t c0 c1 c2 (by omega) c4 (by rw [size_rep, List.size_toArray]; exact flen)) ⟨ho, ?_⟩⟩)
      rw [size_rep]
      refine ⟨.ref s.heap.objs.size, _, I.laid (t' := s.toks) (o := .tup (List.replicate k.toNat xs).flatten) (fun b ob q => Heap.get?_push_of_some _ q) (Nat.le_refl _) ?_, rfl, qn c _ (I.hok.fresh (Nat.le_refl _))⟩
      exact ⟨by rw [PyProof.Rows.lm_len_rep_flat, sizeLine_eq, Nat.mul_comm]; omega, _, r.rep k.toNat, IsTup.new _ _⟩
end L2
namespace DL
open PySem PySem.Spec PyProof.Rows L2
/-- a tuple times an int -/
def dMulT : D → D → (D → Prop) → Prop
  | .tuple a, .int k, P => -(2 ^ 63) ≤ k ∧ k < 2 ^ 63 ∧ a.length ≤ 100000 ∧ a.length * k.toNat ≤ 100000 ∧ P (.tuple (List.replicate k.toNat a).flatten)
  | _, _, _ => False
theorem rep_one {α : Type} (a : List α) : (List.replicate (1 : Int).toNat a).flatten = a := by simp
theorem rep_nil {α : Type} (k : Nat) : (List.replicate k ([] : List α)).flatten = [] := by simp
theorem sn2_mulT {K : Fg} : Sn2 K (rRepTA K) dMulT := fun lc hd H x y a b P Q al hx hy h q => by
  cases a <;> cases b <;> first | exact h.elim | skip
  cases hy
  cases hx with
  | @tup l xs ds g1 g2 =>
    have hl := g2.length
    refine ⟨_, _, xs, rfl, rfl, same_t hide_le g1, h.1, h.2.1, by rw [hl]; exact h.2.2.1, by rw [hl]; exact h.2.2.2.1, fun c => ?_, fun c p hp => ?_⟩
    · refine q _ _ H (Same.refl H) (.tup g1 g2) ?_
      have h5 := h.2.2.2.2
      rcases c with c | c
      · subst c; rw [rep_one] at h5; exact h5
      · subst c
        cases g2
        rw [rep_nil] at h5; exact h5
    · exact q _ _ _ (same_new hp) (.tup (.of (new_vis al hp)) ((Vrep g2 _).mono (vis_new hp))) h.2.2.2.2
/-! ## sum of a list of ints -/
def bSum : List D → (D → Prop) → Prop
  | [.list ds], P => ∃ ns : List Int, ds = ns.map .int ∧ P (.int ns.sum)
  | _, _ => False
theorem ints_v {K : Fg} {lc : Option Addr} {H : Hp} : ∀ {ns : List Int} {vs : List V}, DvAll K lc H vs (ns.map PyData.int) → vs = ns.map V.int
  | [], _, h => by cases h; rfl
  | n :: ns, _, h => by
    cases h with
    | cons h1 h2 =>
      cases h1
      rw [ints_v h2]; rfl
theorem snc_sum {K : Fg} : SnC K (rSum K) bSum := fun lc hd H xs as P Q al hx h q => by
  unfold bSum at h
  split at h
  · obtain ⟨ns, rfl, p⟩ := h
    obtain ⟨x, rfl, g⟩ := da1 hx
    cases g with
    | lst g1 g2 =>
      have e := ints_v g2
      subst e
      exact ⟨_, ns, rfl, .of (hide_le _ _ g1), q _ _ H (Same.refl H) (.int _) p⟩
  · exact h.elim
/-! ## zip of two tuples -/
theorem srcS_zipT {K : Fg} {a b : Addr} {xs ys : List D} : SrcOkS K (RZ.ItzT K a b) [.ref a, .ref b] [.tuple xs, .tuple ys] (zipD xs ys) := fun M σ H ρ pv pd A => by
  obtain ⟨ow, B, hp⟩ := A
  cases hp with
  | cons g1 hp =>
    cases hp with
    | cons g2 hp =>
      cases g1 with
      | @tup _ us _ g3 g4 =>
        cases g2 with
        | @tup _ vs _ g5 g6 =>
          have hS : SqT K H a us := same_t hide_le g3
          have hT : SqT K H b vs := same_t hide_le g5
          refine ⟨fun i hi => ?_, us, vs, hS, hT, ?_⟩
          · rw [zipD_len] at hi
            have h1 : i < xs.length := by omega
            have h2 : i < ys.length := by omega
            obtain ⟨y, gy, gyd⟩ := g4.get (List.getElem?_eq_getElem h1)
            obtain ⟨w, gw, gwd⟩ := g6.get (List.getElem?_eq_getElem h2)
            refine ⟨⟨us, vs, y, w, hS, hT, gy, gw⟩, fun x H' hy => ?_⟩
            obtain ⟨T, z, z2, rfl, hT0, rfl, f1, f2⟩ := hy
            have ex : z = y := Option.some.inj ((f1 _ hS).symm.trans gy)
            have ex2 : z2 = w := Option.some.inj ((f2 _ hT).symm.trans gw)
            subst ex ex2
            obtain ⟨d1, d2, k1, k2, ee⟩ := zipD_get (List.getElem?_eq_getElem (by rw [zipD_len]; omega : i < (zipD xs ys).length))
            rw [ee]
            have : d1 = xs[i] := Option.some.inj (k1.symm.trans (List.getElem?_eq_getElem h1))
            subst this
            have : d2 = ys[i] := Option.some.inj (k2.symm.trans (List.getElem?_eq_getElem h2))
            subst this
            have e : Same H (upd H T (.tup [z, z2])) := same_new hT0
            refine ⟨ow, B.step (.of e) (B.cok.mono e), .cons (.tup (.of (new_vis B.hall hT0)) (.cons (gyd.mono (vis_of e)) (.cons (gwd.mono (vis_of e)) .nil))) ?_⟩
            exact DvAll.mono (vis_of e) (.cons (.tup g3 g4) (.cons (.tup g5 g6) hp))
          · rw [zipD_len, g4.length, g6.length]; omega
def wCompZT (wr : WA) (i k : Nat) (wt : WT) (we : WE) : WF := fun ρ P => wr ρ fun ds ρ1 => match ds with
  | [.tuple xs, .tuple ys] => wComp2D (zipD xs ys) i k wt we ρ1 P
  | _ => False
section
variable {X : Cx} {elt tg iter : Expr} {ifs : List Expr} {scope : Scope} {i k : Nat} {x y : Str} {pos : Pos} {wi : TI} {tt : TT} {te : TE} {wI : WI} {wt : WT} {we : WE} {wr : WA} {tr : TA} {e1 e2 : Expr} {es : List Expr} {kk : Nat} {tp p cp : Pos}
theorem df_compZT (hgz : Gl X "zip") (hmz : X.mg "zip" = none) (hik : i ≠ k) (hc : X.calm = true) (hN : X.N.Nodup) (ha : DA X [e1, e2] tr wr) (ok : BlkOk X.N X.env.scope scope [(x, i), (y, k)])
    (hg : ∀ (s : Shared) (H : Hp) (C : Addr) (cl : List (Str × Addr)) (fp : List Addr), PG (X.blk s H scope (compEnvC scope cl C X.env) fp) (.Tuple es kk tp) (gPair X.K i k)) (ht' : ∀ (s : Shared) (H : Hp) (C : Addr) (cl : List (Str × Addr)) (fp : List Addr), DTb (X.blk s H scope (compEnvC scope cl C X.env) fp) ifs tt wt)
    (he' : ∀ (s : Shared) (H : Hp) (C : Addr) (cl : List (Str × Addr)) (fp : List Addr), DEb (X.blk s H scope (compEnvC scope cl C X.env) fp) elt te we) (hz : starEach [e1, e2] X.env = (false, eval e1 X.env) :: starEach [e2] X.env := by rfl) (hpl : (backTo cp (starEach [e2] X.env)).any (·.1) = false := by rfl) (hs : ∀ x, foldedSetIterable (.Call (.Name "zip" p) [e1, e2] [] cp) X.env x = pure x := by intro _; rfl) :
    DF X (.ListComp elt [⟨.Tuple es kk tp, .Call (.Name "zip" p) [e1, e2] [] cp, ifs, 0⟩] scope pos) (tLc (RZ.iZipA X.K tr) (gPair X.K i k) tt te [i, k]) (wCompZT wr i k wt we) := by
  have ht := fun s H C cl fp => (ht' s H C cl fp).dt
  have he := fun s H C cl fp => (he' s H C cl fp).de
  have sT : SndT X.K tt wt := (ht X.s_0 (fun _ => none) 0 [] []).sd
  have sE : Snd X.K te we := (he X.s_0 (fun _ => none) 0 [] []).sd
  refine ⟨pe_lc (own := [(x, i), (y, k)]) (g := gPair X.K i k) hc hN (RZ.pi_zipA hgz hmz ha.pa hz hpl) ok hg (fun s H C cl fp => (ht s H C cl fp).pt) (fun s H C cl fp => (he s H C cl fp).pe) hs, fun M σ H ρ pv pd P Q A h q => ?_⟩
  refine ha.sd M σ H ρ pv pd _ _ A h fun vs ds H1 ρ1 hl A1 h1 => ?_
  split at h1
  · next xs ys =>
    obtain ⟨ow, B, hp⟩ := A1
    obtain ⟨g1, g2⟩ := DvAll.split hl hp
    cases g1 with
    | cons ga g1 =>
      cases g1 with
      | cons gb g1 =>
        cases g1
        cases ga with
        | @tup a us _ g3 g4 =>
          cases gb with
          | @tup b vs _ g5 g6 =>
            exact ⟨_, _, us, vs, rfl, .inr ⟨same_t hide_le g3, same_t hide_le g5, comp2_core hik (vs := [.ref a, .ref b]) (dd := [.tuple xs, .tuple ys]) rfl sT sE srcS_zipT ⟨ow, B, .cons (.tup g3 g4) (.cons (.tup g5 g6) g2)⟩ h1 q⟩⟩
  · exact h1.elim
end
theorem ds_setLcZT {X : Cx} {elt : Expr} {ifs : List Expr} {scope : Scope} {i k j : Nat} {x y z : Str} {pos py spos : Pos} {tt : TT} {te : TE} {wt : WT} {we : WE} {wr : WA} {tr : TA} {e1 e2 : Expr} {es : List Expr} {kk : Nat} {tp p cp : Pos} (hgz : Gl X "zip") (hmz : X.mg "zip" = none) (hik : i ≠ k) (hc : X.calm = true) (hN : X.N.Nodup) (ha : DA X [e1, e2] tr wr) (ok : BlkOk X.N X.env.scope scope [(x, i), (y, k)])
    (hg : ∀ (s : Shared) (H : Hp) (C : Addr) (cl : List (Str × Addr)) (fp : List Addr), PG (X.blk s H scope (compEnvC scope cl C X.env) fp) (.Tuple es kk tp) (gPair X.K i k)) (ht : ∀ (s : Shared) (H : Hp) (C : Addr) (cl : List (Str × Addr)) (fp : List Addr), DTb (X.blk s H scope (compEnvC scope cl C X.env) fp) ifs tt wt)
    (he : ∀ (s : Shared) (H : Hp) (C : Addr) (cl : List (Str × Addr)) (fp : List Addr), DEb (X.blk s H scope (compEnvC scope cl C X.env) fp) elt te we) (hy : X.N[j]? = some z) (hyl : X.env.scope.names.lookup z = some .local)
    (hsw : swapsWith (.ListComp elt [⟨.Tuple es kk tp, .Call (.Name "zip" p) [e1, e2] [] cp, ifs, 0⟩] scope pos) (some (.Name z py)) spos.line X.env = pure true) (hz : starEach [e1, e2] X.env = (false, eval e1 X.env) :: starEach [e2] X.env := by rfl) (hpl : (backTo cp (starEach [e2] X.env)).any (·.1) = false := by rfl) (hs : ∀ x, foldedSetIterable (.Call (.Name "zip" p) [e1, e2] [] cp) X.env x = pure x := by intro _; rfl) :
    DS X (.Assign [.Name z py] (.ListComp elt [⟨.Tuple es kk tp, .Call (.Name "zip" p) [e1, e2] [] cp, ifs, 0⟩] scope pos) spos) (tAsg (tLc (RZ.iZipA X.K tr) (gPair X.K i k) tt te [i, k]) (gName j)) (wAsg (fun ρ P => wCompZT wr i k wt we ρ fun ds ρ1 => P (.list ds) ρ1) (wgName j)) :=
  ⟨ps_setLc (own := [(x, i), (y, k)]) hc hN hy hyl hsw (RZ.pi_zipA hgz hmz ha.pa hz hpl) ok hg (fun s H C cl fp => (ht s H C cl fp).dt.pt) (fun s H C cl fp => (he s H C cl fp).de.pe) hs, snds_asg (df_compZT (pos := pos) hgz hmz hik hc hN ha ok hg ht he hz hpl hs).de.sd (sndg_name j)⟩
/-- int(True) -/
def bIntB : List D → (D → Prop) → Prop
  | [.bool b], P => P (.int (if b then 1 else 0))
  | _, _ => False
theorem snc_intB {K : Fg} : SnC K rIntV bIntB := fun lc hd H xs as P Q al hx h q => by
  unfold bIntB at h
  split at h
  · obtain ⟨x, rfl, g⟩ := da1 hx
    cases g
    exact .inr ⟨_, rfl, q _ _ H (Same.refl H) (.int _) h⟩
  · exact h.elim
end DL

namespace DL
open PySem PySem.Spec PyProof.Rows L2
/-! ## rows = [list(row) for row in ..]; row = rows[k]; row[j] = x -/
def NoOwn (ρ : Rho) : Prop := ∀ i ds, look ρ i ≠ .own ds
abbrev h0 (M : Amb) : Addr → Prop := hdO M fun _ => none
/-- the frame where no name owns a list -/
structure At0 (K : Fg) (M : Amb) (σ : L2.St) (H : Hp) (ρ : Rho) (pv : List V) (pd : List D) : Prop where
  a : AtW K M σ H ρ fun _ => none
  p : DvAll K M.lc (hide (h0 M) H) pv pd
section
variable {K : Fg} {M : Amb} {H H' : Hp} {σ : L2.St} {ρ : Rho} {pv : List V} {pd : List D}
theorem At0.at_ (A : At0 K M σ H ρ pv pd) : At K M σ H ρ pv pd := ⟨_, A.a, A.p⟩
theorem h0_sub {ow : Nat → Option Addr} : Same (hide (hdO M ow) H) (hide (h0 M) H) := hide_same fun b o n e => ⟨fun z => n (by
  rcases z with z | ⟨j, z⟩ | z
  · exact .inl z
  · exact nomatch z
  · exact .inr (.inr z)), e⟩
theorem At.zero (A : At K M σ H ρ pv pd) (no : NoOwn ρ) : At0 K M σ H ρ pv pd := by
  obtain ⟨ow, A, h⟩ := A
  exact ⟨{
    evo := A.evo
    cok := A.cok
    sub := A.sub
    all := A.all
    len := A.len
    val := fun i d h => by
      obtain ⟨v, h1, h2⟩ := A.val i d h
      exact ⟨v, h1, h2.mono h0_sub⟩
    own := fun i ds h => absurd h (no i ds)
    fre := fun i p h => nomatch h
    inj := fun i j p h => nomatch h
    gho := fun p ds h => by
      obtain ⟨h1, _, xs, h3, h4⟩ := A.gho p ds h
      exact ⟨h1, (fun i z => nomatch z), xs, h3, h4.mono h0_sub⟩
    gnd := A.gnd }, h.mono h0_sub⟩
theorem At0.step (A : At0 K M σ H ρ pv pd) (e : Evo M.lc H H') (c : Cok K M.lc M.hc H') : At0 K M σ H' ρ pv pd := ⟨A.a.step e c, A.p.mono (A.a.vis e)⟩
def Amb.base (M : Amb) (H : Hp) : Amb := ⟨M.lc, M.hc, h0 M, H, []⟩
theorem At0.base (A : At0 K M σ H ρ pv pd) (no : NoOwn ρ) : At K (M.base H) σ H ρ pv pd := by
  have s : Same (hide (h0 M) H) (hide (hdO (M.base H) fun _ => none) H) := hide_same fun b o n e => ⟨fun z => (by
    rcases z with z | ⟨j, z⟩ | ⟨es, z⟩
    · exact n z
    · exact nomatch z
    · exact nomatch z), e⟩
  refine ⟨fun _ => none, ?_, A.p.mono s⟩
  exact {
    evo := .refl H
    cok := A.a.cok
    sub := fun b z => .inl (A.a.sub b z)
    all := A.a.hall
    len := A.a.len
    val := fun i d h => by
      obtain ⟨v, h1, h2⟩ := A.a.val i d h
      exact ⟨v, h1, h2.mono s⟩
    own := fun i ds h => absurd h (no i ds)
    fre := fun i p h => nomatch h
    inj := fun i j p h => nomatch h
    gho := fun p ds h => nomatch h
    gnd := .nil }
theorem base_vis {ow : Nat → Option Addr} : Same (hide (hdO (M.base H) ow) H') (hide (h0 M) H') := hide_same fun b o n e => ⟨fun z => n (.inl z), e⟩
theorem snd_evo {t : TE} {w : WE} (h : Snd K t w) (A : At0 K M σ H ρ pv pd) (no : NoOwn ρ) {P : D → Rho → Prop} {Q : VK} (hw : w ρ P)
    (q : ∀ v d H' ρ', Evo M.lc H H' → Cok K M.lc M.hc H' → Dv K M.lc (hide (h0 M) H') v d → P d ρ' → Q v H') : t σ H Q := by
  refine h (M.base H) σ H ρ pv pd P Q (A.base no) hw fun v d H' ρ' A' hP => ?_
  obtain ⟨ow, B, hp⟩ := A'
  cases hp with
  | cons g1 g2 => exact q v d H' ρ' B.evo B.cok (g1.mono base_vis) hP
theorem sndt_evo {t : TT} {w : WT} (h : SndT K t w) (A : At0 K M σ H ρ pv pd) (no : NoOwn ρ) {P : Bool → Rho → Prop} {Q : Bool → Hp → Prop} (hw : w ρ P)
    (q : ∀ b H' ρ', Evo M.lc H H' → Cok K M.lc M.hc H' → P b ρ' → Q b H') : t σ H Q := by
  refine h (M.base H) σ H ρ pv pd P Q (A.base no) hw fun b H' ρ' A' hP => ?_
  obtain ⟨ow, B, hp⟩ := A'
  exact q b H' ρ' B.evo B.cok hP
theorem noOwn_put {ρ : Rho} {i : Nat} (no : NoOwn ρ) : NoOwn (put ρ i .un) := fun j ds z => by
  by_cases c : j = i
  · subst c
    rcases look_put ρ j .un with e | e <;> (rw [e] at z; cases z)
  · rw [look_put_ne _ _ _ _ c] at z
    exact no j ds z
/-- what is not there is not hidden -/
theorem At0.free (A : At0 K M σ H ρ pv pd) {q : Addr} (h : H q = none) : ¬ h0 M q := fun z => A.a.hall q z h
theorem At0.nlc (A : At0 K M σ H ρ pv pd) {q : Addr} (h : H q = none) : M.lc ≠ some q := fun z => by
  obtain ⟨⟨_, _, _, _, _, g, _⟩, _⟩ := A.a.cok q z
  rw [h] at g; cases g
end
/-- the new lists at qs have the items X, as they were at H1 -/
def Inn (K : Fg) (M : Amb) (H1 H' : Hp) (qs : List Addr) (X : List (List D)) : Prop := ∀ (i : Nat) (q : Addr), qs[i]? = some q → H1 q = none ∧ ∃ (ys : List V) (r : List D), H' q = some (.lst ys) ∧ X[i]? = some r ∧ DvAll K M.lc (hide (h0 M) H1) ys r
section
variable {K : Fg} {M : Amb} {H1 H2 H' : Hp} {σ : L2.St} {ρ : Rho} {pv : List V} {pd : List D}
theorem Inn.step {qs : List Addr} {X : List (List D)} (A : At0 K M σ H1 ρ pv pd) (h : Inn K M H1 H2 qs X) (e : Evo M.lc H2 H') : Inn K M H1 H' qs X := fun i q hq => by
  obtain ⟨h1, ys, r, h2, h3, h4⟩ := h i q hq
  exact ⟨h1, ys, r, e q _ (A.nlc h1) h2, h3, h4⟩
/-- all is seen again -/
theorem nest_close {R r : Nat} {Dd : Addr} {qs : List Addr} {X : List (List D)} {σ2 : L2.St} (A : At0 K M σ H1 ρ pv pd) (no : NoOwn ρ) (hR : R < ρ.length) (hRr : R ≠ r) (hl : σ2.length = σ.length) (hσ : ∀ j, j ≠ R → j ≠ r → σ2[j]? = σ[j]?) (hσR : σ2[R]? = some (some (.ref Dd)))
    (e : Evo M.lc H1 H') (c : Cok K M.lc M.hc H') (hD0 : H1 Dd = none) (hD : H' Dd = some (.lst (qs.map V.ref))) (hq : qs.length = X.length) (hI : Inn K M H1 H' qs X) :
    At K M σ2 H' (put (put ρ r .un) R (.val (.list (X.map .list)))) pv pd := by
  have A1 := (A.step e c).at_
  have A2 : At K M (σ.set r (σ2.getD r none)) H' (put ρ r .un) pv pd := A1.unset r (by rw [List.length_set]) fun j hj => by rw [List.getElem?_set_ne (fun z => hj z.symm)]
  have A3 : At K M σ2 H' (put (put ρ r .un) R .un) pv pd := A2.unset R (by rw [List.length_set, hl]) fun j hj => by
    by_cases cj : j = r
    · subst cj
      by_cases d : j < σ.length
      · rw [List.getElem?_set_self d, List.getD_eq_getElem?_getD, List.getElem?_eq_getElem (by omega)]; rfl
      · rw [List.getElem?_eq_none (by omega), List.getElem?_eq_none (by rw [List.length_set]; omega)]
    · rw [List.getElem?_set_ne (fun z => cj z.symm), hσ j hj cj]
  have A4 := A3.zero (noOwn_put (noOwn_put no))
  have seen : ∀ {q : Addr} {o : HO}, H1 q = none → H' q = some o → hide (h0 M) H' q = some o := fun {q o} h1 h2 => hide_some.mpr ⟨A.free h1, h2⟩
  have all : ∀ (qs : List Addr) (X : List (List D)), qs.length = X.length → (∀ (i : Nat) (q : Addr), qs[i]? = some q → H1 q = none ∧ ∃ (ys : List V) (r : List D), H' q = some (.lst ys) ∧ X[i]? = some r ∧ DvAll K M.lc (hide (h0 M) H1) ys r) → DvAll K M.lc (hide (h0 M) H') (qs.map V.ref) (X.map .list) := by
    intro qs
    induction qs with
    | nil =>
      intro X hl _
      cases X with
      | nil => exact .nil
      | cons _ _ => cases hl
    | cons q qs ih =>
      intro X hl h
      cases X with
      | nil => cases hl
      | cons r X =>
        obtain ⟨h1, ys, r', h2, h3, h4⟩ := h 0 q rfl
        cases h3
        exact .cons (.lst (seen h1 h2) (h4.mono (A.a.vis e))) (ih X (by simpa using hl) fun i q' hq' => by
          have := h (i + 1) q' (by simpa using hq')
          simpa using this)
  have dv : Dv K M.lc (hide (h0 M) H') (.ref Dd) (.list (X.map .list)) := .lst (seen hD0 hD) (all qs X hq hI)
  have A5 : At K M σ2 H' (put (put ρ r .un) R .un) (.ref Dd :: pv) (.list (X.map .list) :: pd) := ⟨_, A4.a, .cons dv A4.p⟩
  have A6 := At.put A5 R rfl rfl
  rw [put_put] at A6
  have es : σ2.set R (some (.ref Dd)) = σ2 := by
    obtain ⟨hlt, he⟩ := List.getElem?_eq_some_iff.mp hσR
    rw [← he]; exact List.set_getElem_self hlt
  rw [es] at A6
  exact A6
end
def wNest (R r c xx : Nat) (wa : WE) (wt : WT) (wi : WE) (ws wr : WS) : WS := fun DD ρ => NoOwn ρ ∧ R ≠ r ∧ c ≠ R ∧ c ≠ r ∧ xx ≠ R ∧ xx ≠ r ∧ wa ρ fun d ρ1 => ρ1 = ρ ∧ ∃ X : List (List D), d = .tuple (X.map .tuple) ∧ X.length ≤ 1000 ∧ R < ρ.length ∧ r < ρ.length ∧ look ρ c = .val (.dict []) ∧
  (∃ xd, look ρ xx = .val xd ∧
  wr DD (put (put ρ r .un) R (.val (.list (X.map .list)))) ∧
  (X ≠ [] → wt (put (put ρ r .un) R .un) fun b _ => b = true → ∀ k, k < X.length → wi (put (put ρ r .un) R .un) fun kd _ => ∃ j : Nat, kd = .int j ∧ j < (X.getD k []).length ∧
    ws { DD with nx := fun _ => False } (put (put ρ r .un) R (.val (.list ((X.set k ((X.getD k []).set j xd)).map .list))))))
theorem set_V {α : Type} {l : List α} {i j : Nat} {x : α} : (l.set i x)[j]? = if i = j then (if j < l.length then some x else none) else l[j]? := by
  rw [List.getElem?_set]
  by_cases c : i = j
  · subst c; simp
  · rw [if_neg c, if_neg c]
section
variable {K : Fg} {R r c xx : Nat} {ta : TE} {wa : WE} {tt : TT} {wt : WT} {ti : TE} {wi : WE} {ts tr : TS} {ws wr : WS} {pre : List D → Prop} {post : List D → D → Prop} {E : XK}
theorem snds_nest (ha : Snd K ta wa) (ht : SndT K tt wt) (hi : Snd K ti wi) (hs : SndS K ts ws) (hr : SndS K tr wr)
    (hpre : ∀ n : Nat, 0 < n → n ≤ 1000 → pre [.dict [], .int n]) (hpost : ∀ (n : Nat) (d : D), post [.dict [], .int n] d → ∃ k : Nat, d = .int k ∧ k < n) :
    SndS K (tSeq (tAsg (tLc (iTup K ta) (gName r) tYes (tCB (rListV K) (tCons (tVar r) tNil)) [r]) (gName R))
      (tSeq (tIfS (tAnd (fun σ H Q => tVar R σ H fun x H' => ∃ k, TruV K x H' k ∧ Q k H') tt)
        (tSeq (tAsg (tOp (rIxD K) (tVar R) (tCall (SpD K pre post) [] E (tCons (tVar c) (tCons (tCB (rLenV K) (tCons (tVar R) tNil)) tNil)))) (gName r))
          (tSeq (tAsg (tVar xx) (gSub (tVar r) ti rSetL)) ts)) tNext) tr)) (wNest R r c xx wa wt wi ws wr) := fun M σ H ρ pv pd DD HD A hw F => by
  obtain ⟨no, hRr, hcR, hcr, hxR, hxr, hw⟩ := hw
  have A := A.zero no
  refine snd_evo ha A no hw fun v d H1 ρ1 e1 c1 gv h1 => ?_
  obtain ⟨rfl, X, rfl, lX, hR, hr', hc, xd, hx, hwr, hwt⟩ := h1
  have A1 : At0 K M σ H1 ρ1 pv pd := A.step e1 c1
  have hlen := A1.a.len
  cases gv with
  | @tup l us _ g1 g2 =>
    have lu := g2.length
    rw [List.length_map] at lu
    have SqAt : ∀ {H' : Hp}, Evo M.lc H1 H' → SqT K H' l us := fun e => same_t hide_le (same_t (A1.a.vis e) g1)
    refine ⟨l, rfl, ⟨us, SqAt (.refl H1)⟩, fun Dd hD => ?_⟩
    have nD := A1.nlc hD
    let W : Nat → Nat → Hp → Prop := fun j m H' => Evo M.lc H1 H' ∧ Cok K M.lc M.hc H' ∧ ∃ qs : List Addr, H' Dd = some (.lst (qs.map V.ref)) ∧ qs.length = j ∧ (Dd :: qs).Nodup ∧ Inn K M H1 H' qs X ∧ j + m = X.length
    refine ⟨W, ⟨X.length, Evo.of (same_new hD), A1.a.cok.mono (same_new hD), [], upd_same, rfl, by simp, (fun i q hq => by simp at hq), by omega⟩, ?_⟩
    rintro j m H2 ⟨e2, c2, qs, hq, lq, nq, iq, em⟩
    by_cases hj : j < X.length
    · -- one more list
      have hju : j < us.length := by omega
      obtain ⟨vj, hvj, gvj⟩ := g2.get (i := j) (d := .tuple X[j]) (by rw [List.getElem?_map, List.getElem?_eq_getElem hj]; rfl)
      refine .inr ⟨⟨us, vj, SqAt e2, hvj⟩, fun H' => ∃ m', m' < m ∧ W (j + 1) m' H', fun H' h => h, fun y H' hy => ?_⟩
      obtain ⟨rfl, fv⟩ := hy
      have ey : y = vj := Option.some.inj ((fv _ (SqAt e2)).symm.trans hvj)
      subst ey
      show wipe ((wipe σ [r]).set r (some y)) [r] = wipe σ [r] ∧ _
      have w0 : ∀ σ' : L2.St, wipe σ' [r] = σ'.set r none := fun σ' => rfl
      refine ⟨by rw [w0, w0, List.set_set, List.set_set], ?_⟩
      show tCB (rListV K) (tCons (tVar r) tNil) _ _ _
      refine ⟨y, by rw [List.getElem?_set_self (by rw [w0, List.length_set]; omega)], ?_⟩
      cases gvj with
      | @tup a ys _ k1 k2 =>
        refine ⟨a, ys, rfl, .inr (same_t hide_le (same_t (A1.a.vis e2) k1)), fun q hq0 => ?_⟩
        have h1q : H1 q = none := by
          cases z : H1 q with
          | none => rfl
          | some o =>
            by_cases hl : M.lc = some q
            · obtain ⟨⟨_, _, _, _, _, g, _⟩, _⟩ := c2 q hl
              rw [hq0] at g; cases g
            · rw [e2 q o hl z] at hq0; cases hq0
        have qD : q ≠ Dd := fun z => by subst z; rw [hq0] at hq; cases hq
        have qq : q ∉ qs := fun z => by
          obtain ⟨i, hi⟩ := List.mem_iff_getElem?.mp z
          obtain ⟨_, _, _, h2, _⟩ := iq i q hi
          rw [hq0] at h2; cases h2
        refine ⟨qs.map V.ref, by rw [upd_ne qD.symm]; exact hq, size_lt (by rw [List.length_map]; omega), m - 1, by omega, ?_, ?_, qs ++ [q], by rw [List.map_append]; exact upd_same, by simp; omega, ?_, ?_, by omega⟩
        · intro b o hb ho
          have hbD : b ≠ Dd := fun z => by subst z; rw [hD] at ho; cases ho
          have hbq : b ≠ q := fun z => by subst z; rw [h1q] at ho; cases ho
          rw [upd_ne hbD, upd_ne hbq]
          exact e2 b o hb ho
        · intro b hb
          have hbD : b ≠ Dd := fun z => nD (by rw [← z]; exact hb)
          have hbq : b ≠ q := fun z => A1.nlc h1q (by rw [← z]; exact hb)
          obtain ⟨⟨p, ns, pos, dig, cnt, z1, z2, z3, z4, z5, z6⟩, z7⟩ := c2 b hb
          have hp : M.hd p := A1.a.sub p z6
          have hp1 : H1 p ≠ none := A1.a.hall p (.inl hp)
          have hpD : p ≠ Dd := fun z => by subst z; exact hp1 hD
          have hpq : p ≠ q := fun z => by subst z; exact hp1 h1q
          refine ⟨⟨p, ns, pos, dig, cnt, by rw [upd_ne hbD, upd_ne hbq]; exact z1, ?_, z3, z4, z5, z6⟩, z7⟩
          rcases z2 with (h | ⟨u, h⟩) | h
          · exact .inl (.inl (by rw [upd_ne hpD, upd_ne hpq]; exact h))
          · exact .inl (.inr ⟨u, by rw [upd_ne hpD, upd_ne hpq]; exact h⟩)
          · exact .inr h
        · rw [List.nodup_cons] at nq ⊢
          refine ⟨fun z => ?_, ?_⟩
          · rcases List.mem_append.mp z with z | z
            · exact nq.1 z
            · exact qD (List.mem_singleton.mp z).symm
          · rw [List.nodup_append]
            refine ⟨nq.2, by simp, fun a ha b hb => ?_⟩
            rw [List.mem_singleton.mp hb]
            exact fun z => qq (by rw [← z]; exact ha)
        · intro i q' hq'
          rw [List.getElem?_append] at hq'
          split at hq'
          · next hlt =>
            obtain ⟨n1, zs, rr, n2, n3, n4⟩ := iq i q' hq'
            have hq'D : q' ≠ Dd := fun z => by subst z; rw [hD] at n1; exact (List.nodup_cons.mp nq).1 (List.mem_of_getElem? hq')
            have hq'q : q' ≠ q := fun z => by subst z; rw [hq0] at n2; cases n2
            exact ⟨n1, zs, rr, by rw [upd_ne hq'D, upd_ne hq'q]; exact n2, n3, n4⟩
          · next hge =>
            have ei : i = qs.length := by
              have := (List.getElem?_eq_some_iff.mp hq').1
              simp at this; omega
            subst ei
            rw [Nat.sub_self] at hq'
            cases hq'
            exact ⟨h1q, ys, X[j], by rw [upd_ne qD]; exact upd_same, by rw [lq]; exact List.getElem?_eq_getElem hj, k2⟩
    · -- all lists are there
      have ej : j = X.length := by omega
      subst ej
      refine .inl ⟨⟨us, SqAt e2, by omega⟩, ?_⟩
      have hσR : (σ.set R (some (.ref Dd)))[R]? = some (some (.ref Dd)) := List.getElem?_set_self (by omega)
      have hσn : ∀ j, j ≠ R → (σ.set R (some (.ref Dd)))[j]? = σ[j]? := fun j hj => List.getElem?_set_ne (fun z => hj z.symm)
      have rest : ∀ H', Evo M.lc H2 H' → Cok K M.lc M.hc H' → tr HD (σ.set R (some (.ref Dd))) H' := fun H' e3 c3 =>
        hr M _ H' _ pv pd DD HD (nest_close A1 no hR hRr (by simp) (fun j h1 _ => hσn j h1) hσR (e2.trans e3) c3 hD (e3 Dd _ nD hq) lq (iq.step A1 e3)) hwr F
      have un2 : ∀ {σ' : L2.St} {H' : Hp}, Evo M.lc H1 H' → Cok K M.lc M.hc H' → σ'.length = σ.length → (∀ j, j ≠ R → j ≠ r → σ'[j]? = σ[j]?) → At0 K M σ' H' (put (put ρ1 r .un) R .un) pv pd := fun {σ' H'} e c hl hn => by
        have B1 := (A1.step e c).at_
        have B2 : At K M (σ.set r (σ'.getD r none)) H' (put ρ1 r .un) pv pd := B1.unset r (by rw [List.length_set]) fun j hj => by rw [List.getElem?_set_ne (fun z => hj z.symm)]
        have B3 : At K M σ' H' (put (put ρ1 r .un) R .un) pv pd := B2.unset R (by rw [List.length_set, hl]) fun j hj => by
          by_cases cj : j = r
          · subst cj
            rw [List.getElem?_set_self (by omega), List.getD_eq_getElem?_getD, List.getElem?_eq_getElem (by omega)]; rfl
          · rw [List.getElem?_set_ne (fun z => cj z.symm), hn j hj cj]
        exact B3.zero (noOwn_put (noOwn_put no))
      refine ⟨.ref Dd, hσR, !(qs.map V.ref).isEmpty, .inl ⟨qs.map V.ref, .of hq, rfl⟩, ?_⟩
      by_cases hX : X = []
      · have q0 : qs = [] := List.eq_nil_of_length_eq_zero (by rw [lq, hX]; rfl)
        subst q0
        exact rest H2 (.refl H2) c2
      · have qn : (qs.map V.ref).isEmpty = false := by
          cases qs with
          | nil => exact absurd (List.eq_nil_of_length_eq_zero lq.symm) hX
          | cons _ _ => rfl
        rw [qn]
        show tt _ H2 _
        refine sndt_evo ht (un2 e2 c2 (by simp) fun j h1 _ => hσn j h1) (noOwn_put (noOwn_put no)) (hwt hX) fun b H3 ρ3 e3 c3 hb => ?_
        cases b with
        | false => exact rest H3 e3 c3
        | true =>
          have hb := hb rfl
          have hXp : 0 < X.length := List.length_pos_iff.mpr hX
          obtain ⟨vc, hvc, gvc⟩ := A1.a.val c _ hc
          refine ⟨.ref Dd, hσR, vc, by rw [hσn c hcR]; exact hvc, .ref Dd, hσR, Dd, qs.map V.ref, rfl, .inl (.of (e3 Dd _ nD hq)), ?_⟩
          show SpD K pre post [vc, .int ((qs.map V.ref).length : Nat)] H3 _ E
          rw [List.length_map, lq]
          refine ⟨M.lc, M.hc, h0 M, [.dict [], .int X.length], .cons (gvc.mono (A1.a.vis (e2.trans e3))) (.cons (.int _) .nil), c3, fun b z => .inl (A1.a.sub b z), (A1.step (e2.trans e3) c3).a.hall, hpre X.length hXp lX, fun v d H4 e4 c4 g4 p4 => ?_⟩
          obtain ⟨k, rfl, hk⟩ := hpost _ _ p4
          cases g4
          have D4 : H4 Dd = some (.lst (qs.map V.ref)) := e4 Dd _ nD (e3 Dd _ nD hq)
          obtain ⟨q, hqk⟩ : ∃ q, qs[k]? = some q := ⟨qs[k]'(by omega), List.getElem?_eq_getElem (by omega)⟩
          have at1 : atI (qs.map V.ref) (k : Int) = some (.ref q) := by
            unfold atI
            rw [ixN_nat (by omega) (by rw [Int.toNat_natCast, List.length_map]; omega)]
            show (qs.map V.ref)[((k : Nat) : Int).toNat]? = _
            rw [Int.toNat_natCast, List.getElem?_map, hqk]; rfl
          refine .inl ⟨Dd, qs.map V.ref, k, .ref q, rfl, rfl, .of D4, at1, ?_⟩
          obtain ⟨vx, hvx, gvx⟩ := A1.a.val xx xd hx
          have hσ2 : ∀ j, j ≠ R → j ≠ r → ((σ.set R (some (.ref Dd))).set r (some (.ref q)))[j]? = σ[j]? := fun j h1 h2 => by rw [List.getElem?_set_ne (fun z => h2 z.symm), hσn j h1]
          refine ⟨vx, by rw [hσ2 xx hxR hxr]; exact hvx, .ref q, List.getElem?_set_self (by rw [List.length_set]; omega), ?_⟩
          have e14 : Evo M.lc H1 H4 := e2.trans (e3.trans e4)
          refine snd_evo hi (un2 e14 c4 (by simp) hσ2) (noOwn_put (noOwn_put no)) (hb k hk) fun kk dk H5 ρ5 e5 c5 g5 p5 => ?_
          obtain ⟨j, rfl, hj, hws⟩ := p5
          cases g5
          obtain ⟨q1, ys, rr, q2, q3, q4⟩ := (iq.step A1 (e3.trans (e4.trans e5))) k q hqk
          have er : X.getD k [] = rr := by rw [List.getD_eq_getElem?_getD, q3]; rfl
          have lys := q4.length
          rw [er] at hj hws
          refine ⟨q, ys, j, j, rfl, rfl, q2, by rw [ixN_nat (by omega) (by rw [Int.toNat_natCast]; omega), Int.toNat_natCast], ?_⟩
          have e15 : Evo M.lc H1 H5 := e14.trans e5
          have qD : q ≠ Dd := fun z => by subst z; exact (List.nodup_cons.mp nq).1 (List.mem_of_getElem? hqk)
          have e16 : Evo M.lc H1 (upd H5 q (.lst (ys.set j vx))) := fun b o hb ho => by
            rw [upd_ne (fun z => by subst z; rw [q1] at ho; cases ho)]
            exact e15 b o hb ho
          have c6 : Cok K M.lc M.hc (upd H5 q (.lst (ys.set j vx))) := fun b hb => by
            have hbq : b ≠ q := fun z => A1.nlc q1 (by rw [← z]; exact hb)
            obtain ⟨⟨p, ns, pos, dig, cnt, z1, z2, z3, z4, z5, z6⟩, z7⟩ := c5 b hb
            have hp : M.hd p := A1.a.sub p z6
            have hpq : p ≠ q := fun z => by subst z; exact A1.a.hall p (.inl hp) q1
            refine ⟨⟨p, ns, pos, dig, cnt, by rw [upd_ne hbq]; exact z1, ?_, z3, z4, z5, z6⟩, z7⟩
            rcases z2 with (h | ⟨u, h⟩) | h
            · exact .inl (.inl (by rw [upd_ne hpq]; exact h))
            · exact .inl (.inr ⟨u, by rw [upd_ne hpq]; exact h⟩)
            · exact .inr h
          have I6 : Inn K M H1 (upd H5 q (.lst (ys.set j vx))) qs (X.set k (rr.set j xd)) := fun i q' hq' => by
            obtain ⟨n1, zs, r2, n2, n3, n4⟩ := (iq.step A1 (e3.trans (e4.trans e5))) i q' hq'
            by_cases hik : i = k
            · subst hik
              have : q' = q := Option.some.inj (hq'.symm.trans hqk)
              subst this
              refine ⟨n1, ys.set j vx, rr.set j xd, upd_same, by rw [List.getElem?_set_self hk], q4.set gvx j⟩
            · have hne : q' ≠ q := fun z => by
                subst z
                have nd := (List.nodup_cons.mp nq).2
                obtain ⟨l1, h1⟩ := List.getElem?_eq_some_iff.mp hq'
                obtain ⟨l2, h2⟩ := List.getElem?_eq_some_iff.mp hqk
                have pw := List.pairwise_iff_getElem.mp nd
                rcases Nat.lt_or_gt_of_ne hik with lt | gt
                · exact pw i k l1 l2 lt (h1.trans h2.symm)
                · exact pw k i l2 l1 gt (h2.trans h1.symm)
              exact ⟨n1, zs, r2, by rw [upd_ne hne]; exact n2, by rw [List.getElem?_set_ne (fun z => hik z.symm)]; exact n3, n4⟩
          refine hs M _ _ _ pv pd _ { HD with nx := tr HD } (nest_close A1 no hR hRr (by simp) hσ2 (by rw [List.getElem?_set_ne (fun z => hRr z.symm)]; exact hσR) e16 c6 hD (by rw [upd_ne qD.symm]; exact e5 Dd _ nD D4) (by rw [List.length_set]; exact lq) I6) hws ⟨fun _ _ _ _ h => h.elim, F.rt, F.bk, F.ct⟩
end
theorem dss_nest {X : Cx} {R r c xx : Nat} {ta : TE} {wa : WE} {tt2 tt3 : TT} {wt1 wt2 wt3 : WT} {ti : TE} {wi : WE} {ts tr : TS} {w2 w4 ws wr : WS} {pre : List D → Prop} {post : List D → D → Prop} {E : XK} {y : Str} {py pos2 spos p3 p5 p6 : Pos} {elt tg iter v1 v2 v3 o ix ex : Expr} {ifs : List Expr} {scope : Scope} {st4 : Stmt} {sts6 rest : List Stmt} {pos : Pos}
    (h2 : DS X (.Assign [.Name y py] (.ListComp elt [⟨tg, iter, ifs, 0⟩] scope pos2) spos) (tAsg (tLc (iTup X.K ta) (gName r) tYes (tCB (rListV X.K) (tCons (tVar r) tNil)) [r]) (gName R)) w2) (ha : DE X iter ta wa)
    (h31 : DT X v1 (fun σ H Q => tVar R σ H fun x H' => ∃ k, TruV X.K x H' k ∧ Q k H') wt1) (h32 : DT X v2 tt2 wt2) (h33 : DT X v3 tt3 wt3)
    (h4 : DS X st4 (tAsg (tOp (rIxD X.K) (tVar R) (tCall (SpD X.K pre post) [] E (tCons (tVar c) (tCons (tCB (rLenV X.K) (tCons (tVar R) tNil)) tNil)))) (gName r)) w4)
    (h5 : PS X (.Assign [.Subscript o ix p5] ex p6) (tAsg (tVar xx) (gSub (tVar r) ti rSetL))) (hi : DE X ix ti wi) (h6 : DSs X sts6 ts ws) (hr : DSs X rest tr wr)
    (hpre : ∀ n : Nat, 0 < n → n ≤ 1000 → pre [.dict [], .int n]) (hpost : ∀ (n : Nat) (d : D), post [.dict [], .int n] d → ∃ k : Nat, d = .int k ∧ k < n) :
    DSs X (.Assign [.Name y py] (.ListComp elt [⟨tg, iter, ifs, 0⟩] scope pos2) spos :: .If (.BoolOp .And [v1, v2, v3] p3) (st4 :: .Assign [.Subscript o ix p5] ex p6 :: sts6) [] pos :: rest) (tSeq (tAsg (tLc (iTup X.K ta) (gName r) tYes (tCB (rListV X.K) (tCons (tVar r) tNil)) [r]) (gName R))
      (tSeq (tIfS (tAnd (fun σ H Q => tVar R σ H fun x H' => ∃ k, TruV X.K x H' k ∧ Q k H') (tAnd tt2 tt3))
        (tSeq (tAsg (tOp (rIxD X.K) (tVar R) (tCall (SpD X.K pre post) [] E (tCons (tVar c) (tCons (tCB (rLenV X.K) (tCons (tVar R) tNil)) tNil)))) (gName r))
          (tSeq (tAsg (tVar xx) (gSub (tVar r) ti rSetL)) ts)) tNext) tr)) (wNest R r c xx wa (wAnd wt2 wt3) wi ws wr) :=
  ⟨pss_cons h2.ps (pss_cons (ps_if (DW.dt (dw_and h31 (dw_and h32 (dw_and1 h33)))).pt (pss_cons h4.ps (pss_cons h5 h6.ps)) pss_nil) hr.ps), snds_nest ha.sd (snd_and h32.sd h33.sd) hi.sd h6.sd hr.sd hpre hpost⟩
/-! ## an owned list beside another value in a comparison -/
def wCmpO (w2 : D → D → (D → Prop) → Prop) (i : Nat) (wb : WE) : WE := fun ρ P => match look ρ i with
  | .own _ => wb ρ fun y ρ1 => match look ρ1 i with
    | .own ds1 => w2 (.list ds1) y fun z => noList z = true ∧ P z ρ1
    | _ => False
  | _ => False
theorem snd_cmpO {K : Fg} {r : R2} {w2 : D → D → (D → Prop) → Prop} {i : Nat} {tb : TE} {wb : WE} (h2 : Sn2 K r w2) (hb : Snd K tb wb) : Snd K (tOp r (tVar i) tb) (wCmpO w2 i wb) := fun M σ H ρ pv pd P Q A h q => by
  unfold wCmpO at h
  split at h
  · next ds e =>
    have A' := A
    obtain ⟨ow, B, hp⟩ := A
    obtain ⟨p, xs, k1, k2, k3, k4⟩ := B.own i ds e
    refine ⟨.ref p, k2, ?_⟩
    refine hb M σ H ρ pv pd _ _ A' h fun y dy H1 ρ1 A1 h1 => ?_
    split at h1
    · next ds1 e1 =>
      obtain ⟨ow1, B1, hp1⟩ := A1
      obtain ⟨p1, xs1, l1, l2, l3, l4⟩ := B1.own i ds1 e1
      have : p1 = p := by
        rw [k2] at l2
        cases l2; rfl
      subst this
      have np : ¬ hdO M noOw p1 := fun z => by
        rcases z with z | ⟨j, z⟩ | ⟨es, z⟩
        · exact B1.ne (B1.fre i p1 l1).1 z
        · exact nomatch z
        · exact (B1.gho p1 es z).2.1 i l1
      have vn : Same (hide (hdO M ow1) H1) (hide (hdO M noOw) H1) := hide_same fun b o n e => ⟨fun z => n (by
        rcases z with z | ⟨j, z⟩ | z
        · exact .inl z
        · exact nomatch z
        · exact .inr (.inr z)), e⟩
      have dv : Dv K M.lc (hide (hdO M noOw) H1) (.ref p1) (.list ds1) := .lst (hide_some.mpr ⟨np, l3⟩) (l4.mono vn)
      cases hp1 with
      | cons gy hp1 =>
        refine h2 M.lc (hdO M noOw) H1 (.ref p1) y (.list ds1) dy _ _ B1.hallN dv (gy.mono vn) h1 fun v d H' es g pp => ?_
        have B' := B1.step (.of es) (B1.cok.mono es)
        exact q v d H' ρ1 ⟨ow1, B', .cons (B'.strict pp.1 g) (hp1.mono (B1.vis (.of es)))⟩ pp.2
    · exact h1.elim
  · exact h.elim
theorem dt_cmpO {X : Cx} {a b : Expr} {pos : Pos} {op : CmpOp} {r : R2} {w2 : D → D → (D → Prop) → Prop} {i : Nat} {tb : TE} {wb : WE} (ho : OpR X (compareOp op) r) (h2 : Sn2 X.K r w2) (ha : PE X a (tVar i)) (hb : DE X b tb wb) (hm : behindInMarks op b = false := by first | exact nomark _ | rfl) :
    DT X (.Compare a [op] [b] pos) (tTest (tOp r (tVar i) tb)) (wTest (wCmpO w2 i wb)) := ⟨pt_cmpR ho ha hb.pe hm, snd_test (snd_cmpO h2 hb.sd)⟩
/-! ## an item of an owned list -/
def wIxO (i : Nat) (wb : WP) : WE := fun ρ P => match look ρ i, wb ρ with
  | .own ds, some (.int k) => ∃ d, atI ds k = some d ∧ P d ρ
  | _, _ => False
theorem snd_ixO {K : Fg} {i : Nat} {tb : TE} {wb : WP} (hb : SndP K tb wb) : Snd K (tOp (rIxD K) (tVar i) tb) (wIxO i wb) := fun M σ H ρ pv pd P Q A h q => by
  unfold wIxO at h
  split at h
  · next ds k e1 e2 =>
    obtain ⟨d, e, hp0⟩ := h
    obtain ⟨ow, B, hp⟩ := A
    obtain ⟨p, xs, k1, k2, k3, k4⟩ := B.own i ds e1
    obtain ⟨v, g, kq⟩ := hb M σ H ρ ow _ B e2
    cases g
    obtain ⟨u, e', gu⟩ := atI_dv k4 e
    refine ⟨.ref p, k2, kq _ (.inl ⟨p, xs, k, u, rfl, rfl, .of k3, e', ?_⟩)⟩
    exact q u d H ρ ⟨ow, B, .cons gu hp⟩ hp0
  · exact h.elim
theorem de_ixO {X : Cx} {a b : Expr} {pos : Pos} {i : Nat} {tb : TE} {wb : WP} (ha : PE X a (tVar i)) (hb : DP X b tb wb) (hs : PlainIx b := by exact fun _ _ => rfl) : DE X (.Subscript a b pos) (tOp (rIxD X.K) (tVar i) tb) (wIxO i wb) := ⟨pe_ix ix_D ha hb.pe hs, snd_ixO hb.sd⟩
/-! ## a copy of an owned list -/
def wFListO (i : Nat) : WF := fun ρ P => match look ρ i with
  | .own ds => P ds ρ
  | _ => False
theorem df_listO {X : Cx} {e : Expr} {pos p : Pos} {i : Nat} (hg : Gl X "list") (hm : X.mg "list" = none) (ha : PE X e (tVar i)) (he : starEach [e] X.env = (false, eval e X.env) :: starEach [] X.env := by rfl) (hpl : (backTo pos (starEach [] X.env)).any (·.1) = false := by rfl) :
    DF X (.Call (.Name "list" p) [e] [] pos) (tCB (rListV X.K) (tCons (tVar i) tNil)) (wFListO i) := ⟨pe_callTy call_list_of hg hm (by decide +kernel) (pa_cons ha pa_nil he) (by decide) (by decide) he hpl, fun M σ H ρ pv pd P Q A hw q => by
  unfold wFListO at hw
  split at hw
  · next ds e1 =>
    have A' := A
    obtain ⟨ow, B, hp⟩ := A
    obtain ⟨a, xs, k1, k2, k3, k4⟩ := B.own i ds e1
    refine ⟨.ref a, k2, a, xs, rfl, .inl (.of k3), fun l hl => ?_⟩
    exact q l ds _ ρ (At.plus (vs := xs) (ds := ds) ⟨ow, B, k4.app hp⟩ k4.length hl) hw
  · exact hw.elim⟩
/-! ## an item of an owned list, the place by any expression -/
def wIxE (i : Nat) (wb : WE) : WE := fun ρ P => match look ρ i with
  | .own _ => wb ρ fun y ρ1 => match y, look ρ1 i with
    | .int k, .own ds => ∃ d, atI ds k = some d ∧ P d ρ1
    | _, _ => False
  | _ => False
theorem snd_ixE {K : Fg} {i : Nat} {tb : TE} {wb : WE} (hb : Snd K tb wb) : Snd K (tOp (rIxD K) (tVar i) tb) (wIxE i wb) := fun M σ H ρ pv pd P Q A h q => by
  unfold wIxE at h
  split at h
  · next ds e =>
    have A' := A
    obtain ⟨ow, B, hp⟩ := A
    obtain ⟨p, xs, k1, k2, k3, k4⟩ := B.own i ds e
    refine ⟨.ref p, k2, ?_⟩
    refine hb M σ H ρ pv pd _ _ A' h fun y dy H1 ρ1 A1 h1 => ?_
    split at h1
    · next k ds1 e1 =>
      obtain ⟨d, ed, hP⟩ := h1
      obtain ⟨ow1, B1, hp1⟩ := A1
      obtain ⟨p1, xs1, l1, l2, l3, l4⟩ := B1.own i ds1 e1
      have : p1 = p := by
        rw [k2] at l2
        cases l2; rfl
      subst this
      cases hp1 with
      | cons gy hp1 =>
        cases gy
        obtain ⟨u, e', gu⟩ := atI_dv l4 ed
        exact .inl ⟨p1, xs1, k, u, rfl, rfl, .of l3, e', q u d H1 ρ1 ⟨ow1, B1, .cons gu hp1⟩ hP⟩
    · exact h1.elim
  · exact h.elim
theorem de_ixE {X : Cx} {a b : Expr} {pos : Pos} {i : Nat} {tb : TE} {wb : WE} (ha : PE X a (tVar i)) (hb : DE X b tb wb) (hs : PlainIx b := by exact fun _ _ => rfl) : DE X (.Subscript a b pos) (tOp (rIxD X.K) (tVar i) tb) (wIxE i wb) := ⟨pe_ix ix_D ha hb.pe hs, snd_ixE hb.sd⟩
end DL

namespace DL
open PySem PySem.Spec PyProof.Rows L2
/-! ## a def that exchanges two items of the list that it is given -/
def SpSwap (K : Fg) : Sp := fun vs H Q _ => ∃ (p : Addr) (xs : List V) (i k : Nat) (x y : V), vs = [.ref p, .int i, .int k] ∧ H p = some (.lst xs) ∧ xs[i]? = some x ∧ xs[k]? = some y ∧ ∀ H1, Same H H1 → Q .non (upd H1 p (.lst ((xs.set i y).set k x)))
abbrev tExch (K : Fg) : TS := tAsg (tTup (tCons (tOp (rIxD K) (tVar 0) (tVar 2)) (tCons (tOp (rIxD K) (tVar 0) (tVar 1)) tNil))) (gTup K 2 (gCons (gSub (tVar 0) (tVar 1) rSetL) (gCons (gSub (tVar 0) (tVar 2) rSetL) gNil)))
section
variable {P : Program} {w : World} {K : Fg} {mg : Str → Option Value} {base : Heap}
theorem atI_nat {xs : List V} {i : Nat} {x : V} (h : xs[i]? = some x) : atI xs (i : Int) = some x := by
  have hi := (List.getElem?_eq_some_iff.mp h).1
  unfold atI
  rw [ixN_nat (by omega) (by simpa using hi)]
  exact h
theorem fnx_exch {x qual : Str} {st : Stmt} {f : Addr} {fd : FuncData} {a b c : Str} {k : Nat} (F : Fun K x qual st f fd) (S : FnScope [a, b, c] [a, b, c] (defScope st))
    (body : ∀ (cdv : Value) (A : Around) (outer : List PySem.Env) (s : Shared) (H : Hp) (E : XK), Room k (A.deeper (envOfC qual (defScope st) s.heap.objs.size f cdv)) →
      PSs (cxOf CX0 P w K mg base [a, b, c] qual (defScope st) f cdv A outer s H E).nox (defBody st) (tExch K)) :
    FnOk P w K mg base CX0 (k + 1) f fd [a, b, c] (SpSwap K) := by
  refine F.ok S (fun vs H Q E h => ?_) (fun cdv A outer s H vs Q E hr h => ?_)
  · obtain ⟨p, xs, i, k, x, y, rfl, _⟩ := h
    rfl
  · obtain ⟨p, xs, i, k, x, y, rfl, hp, hx, hy, q⟩ := h
    refine ⟨_, body cdv A outer s H E hr, ?_⟩
    have li := (List.getElem?_eq_some_iff.mp hx).1
    have lk := (List.getElem?_eq_some_iff.mp hy).1
    refine ⟨.ref p, rfl, .int k, rfl, .inl ⟨p, xs, k, y, rfl, rfl, .of hp, atI_nat hy, ?_⟩⟩
    refine ⟨.ref p, rfl, .int i, rfl, .inl ⟨p, xs, i, x, rfl, rfl, .of hp, atI_nat hx, ?_⟩⟩
    refine ⟨size_ok (n := 2) (by decide), fun t ht => ?_⟩
    have hne : p ≠ t := fun z => by rw [z, ht] at hp; cases hp
    have hp1 : upd H t (.tup [y, x]) p = some (.lst xs) := by rw [upd_ne hne]; exact hp
    refine ⟨t, [y, x], rfl, .inl (.inl upd_same), rfl, y, [x], rfl, ?_⟩
    refine ⟨.ref p, rfl, .int i, rfl, p, xs, i, i, rfl, rfl, hp1, ixN_nat (by omega) (by simpa using li), ?_⟩
    refine ⟨x, [], rfl, ?_⟩
    refine ⟨.ref p, rfl, .int k, rfl, p, xs.set i y, k, k, rfl, rfl, upd_same, ixN_nat (by omega) (by rw [List.length_set]; simpa using lk), ?_⟩
    refine ⟨rfl, ?_⟩
    rw [upd_upd]
    exact q _ (same_new ht)
end
def wExch (i : Nat) (wa wb : WE) : WS := fun DD ρ => match look ρ i with
  | .own _ => wa ρ fun d1 ρ1 => wb ρ1 fun d2 ρ2 => match look ρ2 i with
    | .own ds => ∃ (a b : Nat) (x y : D), d1 = .int a ∧ d2 = .int b ∧ ds[a]? = some x ∧ ds[b]? = some y ∧ DD.nx (put ρ2 i (.own ((ds.set a y).set b x)))
    | _ => False
  | _ => False
section
variable {X : Cx} {e a b : Expr} {ta tb : TE} {wa wb : WE} {pos p p2 : Pos}
theorem ds_exch {CX : CXT} {k : Nat} {f : Addr} {fd : FuncData} {ps : List Str} {E : XK} {x : Str} {K' : Fg} {i : Nat} (F : FnOk X.prog X.w X.K X.mg X.base CX k f fd ps (SpSwap K')) (hr : Room k X.A) (hg : Gl X x) (hm : X.mg x = some (.ref f))
    (hk : PySem.W.keepIn X.K (.ref f) = true) (hb : Binds X.K fd ps []) (hx : Passes CX X E) (hv : PE X e (tVar i)) (ha : DE X a ta wa) (hb2 : DE X b tb wb) (hK : X.K = K' := by rfl) (hdb : (x == ("__debug__" : Str)) = false := by decide)
    (h1 : starEach [e, a, b] X.env = (false, eval e X.env) :: starEach [a, b] X.env := by rfl) (h2 : starEach [a, b] X.env = (false, eval a X.env) :: starEach [b] X.env := by rfl) (h3 : starEach [b] X.env = (false, eval b X.env) :: starEach [] X.env := by rfl)
    (hpl : (backTo p2 (starEach [a, b] X.env)).any (·.1) = false := by rfl) (hs : swapsWith (.Call (.Name x p) [e, a, b] [] p2) none pos.line X.env = pure false := by rfl) :
    DS X (.Expr (.Call (.Name x p) [e, a, b] [] p2) pos) (tDrop (tCall (SpSwap K') [] E (tCons (tVar i) (tCons ta (tCons tb tNil))))) (wExch i wa wb) :=
  ⟨ps_expr (pe_call F hr hg hm hk hb .nil hx (pa_cons hv (pa_cons ha.pe (pa_cons hb2.pe pa_nil h3) h2) h1) hdb h1 hpl) hs, by
  subst hK
  intro M σ H ρ pv pd DD HD A h F
  unfold wExch at h
  split at h
  · next ds0 e0 =>
    have A' := A
    obtain ⟨ow, B, hp⟩ := A
    obtain ⟨q, xs, k1, k2, k3, k4⟩ := B.own i ds0 e0
    refine ⟨.ref q, k2, ?_⟩
    refine ha.sd M σ H ρ pv pd _ _ A' h fun v1 d1 H1 ρ1 A1 h1 => ?_
    refine hb2.sd M σ H1 ρ1 _ _ _ _ A1 h1 fun v2 d2 H2 ρ2 A2 h2 => ?_
    obtain ⟨ow2, B2, hp2⟩ := A2
    split at h2
    · next ds e2 =>
      obtain ⟨i1, i2, x, y, rfl, rfl, hx1, hy1, hn⟩ := h2
      obtain ⟨q2, xs2, l1, l2, l3, l4⟩ := B2.own i ds e2
      have : q2 = q := by
        rw [k2] at l2
        cases l2; rfl
      subst this
      obtain ⟨vx, gx1, gx2⟩ := l4.get hx1
      obtain ⟨vy, gy1, gy2⟩ := l4.get hy1
      cases hp2 with
      | cons g2 hp2 =>
        cases g2
        cases hp2 with
        | cons g1 hp2 =>
          cases g1
          refine ⟨q2, xs2, i1, i2, vx, vy, rfl, l3, gx1, gy1, fun H3 e3 => ?_⟩
          have B3 := B2.step (.of e3) (B2.cok.mono e3)
          have v3 := B2.vis (.of e3)
          obtain ⟨C, vis⟩ := B3.owset e2 l1 (((l4.mono v3).set (gy2.mono v3) i1).set (gx2.mono v3) i2)
          exact F.nx _ _ _ ⟨ow2, C, (hp2.mono v3).mono vis⟩ hn
    · exact h2.elim
  · exact h.elim⟩
end
/-! ## list(range(..)) -/
def wLR1 (wa : WE) : WF := fun ρ P => wa ρ fun d ρ1 => match d with
  | .int n => (0 ≤ n ∧ n ≤ 100000) ∧ P (rngD 0 n.toNat) ρ1
  | _ => False
section
variable {X : Cx} {K : Fg} {M : Amb} {H : Hp} {σ : L2.St} {ρ : Rho} {e a b : Expr} {ta tb : TE} {wa wb : WE} {pos p p2 pos2 : Pos}
theorem dvAll_ints {lc : Option Addr} {hd : Hp} (f : Nat → Int) : ∀ l : List Nat, DvAll K lc hd (l.map fun i => V.int (f i)) (l.map fun i => .int (f i))
  | [] => .nil
  | i :: l => .cons (.int _) (dvAll_ints f l)
theorem rgV_dv {lc : Option Addr} {hd : Hp} (n : Int) : DvAll K lc hd (rgV 0 n) (rngD 0 n.toNat) := by
  unfold rgV rngD
  rw [Int.sub_zero]
  exact dvAll_ints _ _
theorem df_lrng1 (hc : X.calm = true) (hgl : Gl X "list") (hml : X.mg "list" = none) (hgr : Gl X "range") (hmr : X.mg "range" = none) (ha : DE X a ta wa) (na : starEach [a] X.env = (false, eval a X.env) :: starEach [] X.env := by rfl)
    (nb : starEach [.Call (.Name "range" p2) [a] [] pos2] X.env = (false, eval (.Call (.Name "range" p2) [a] [] pos2) X.env) :: starEach [] X.env := by rfl) :
    DF X (.Call (.Name "list" p) [.Call (.Name "range" p2) [a] [] pos2] [] pos) (tLstRg (tRg1 ta)) (wLR1 wa) := ⟨pe_listRg hc hgl hml (prg_1 hgr hmr ha.pe na) nb, fun M σ H ρ pv pd P Q A hw q => by
  refine ha.sd M σ H ρ pv pd _ _ A hw fun v d H1 ρ1 A1 h1 => ?_
  split at h1
  · next n =>
    obtain ⟨ow, B, hp⟩ := A1
    cases hp with
    | cons g hp =>
      cases g
      refine ⟨n, rfl, ⟨by omega, by omega, ?_, ?_, ?_⟩, fun l hl => ?_⟩
      · omega
      · omega
      · omega
      · exact q l _ _ ρ1 (At.plus (vs := rgV 0 n) (ds := rngD 0 n.toNat) ⟨ow, B, (rgV_dv n).app hp⟩ (by rw [rgV_length, rngD_len]; congr 1; omega) hl) h1.2
  · exact h1.elim⟩
/-! ## in, not in: ints in a list or a tuple of ints -/
def dInB (neg : Bool) (x y : D) (P : D → Prop) : Prop := ∃ (i : Int) (l : List Int), x = .int i ∧ (y = .list (l.map .int) ∨ y = .tuple (l.map .int)) ∧ P (.bool (if neg then !decide (i ∈ l) else decide (i ∈ l)))
abbrev dIn := dInB false
abbrev dNIn := dInB true
theorem dv_ints {lc : Option Addr} {hd : Hp} : ∀ {l : List Int} {xs : List V}, DvAll K lc hd xs (l.map .int) → xs = l.map .int
  | [], _, h => by cases h; rfl
  | i :: l, _, h => by
    cases h with
    | cons g1 g2 =>
      cases g1
      rw [dv_ints g2]; rfl
theorem flat_ints : ∀ l : List Int, (l.map V.int).all flatV = true
  | [] => rfl
  | i :: l => by rw [List.map_cons, List.all_cons, flat_ints l]; rfl
theorem inV_ints (i : Int) : ∀ l : List Int, inV (.int i) (l.map .int) = decide (i ∈ l)
  | [] => by simp [inV]
  | j :: l => by
    have ih := inV_ints i l
    unfold inV at ih ⊢
    rw [List.map_cons, List.any_cons, ih]
    have e : eqV (.int j) (.int i) = decide (i = j) := by
      show (j == i) = _
      rw [Bool.beq_eq_decide_eq]
      exact decide_eq_decide.mpr ⟨fun h => h.symm, fun h => h.symm⟩
    rw [e]
    by_cases c : i = j <;> simp [c]
theorem sn2_inB (neg : Bool) : Sn2 K (rIn K neg) (dInB neg) := fun lc hd H x y a b P Q al hx hy h q => by
  obtain ⟨i, l, rfl, hb, hp⟩ := h
  cases hx
  rcases hb with rfl | rfl
  · cases hy with
    | lst g1 g2 =>
      obtain rfl := dv_ints g2
      exact ⟨_, _, rfl, .inl (.of (hide_le _ _ g1)), rfl, flat_ints l, by rw [inV_ints]; exact q _ _ H (Same.refl H) (.bl _) hp⟩
  · cases hy with
    | tup g1 g2 =>
      obtain rfl := dv_ints g2
      exact ⟨_, _, rfl, .inr (same_t hide_le g1), rfl, flat_ints l, by rw [inV_ints]; exact q _ _ H (Same.refl H) (.bl _) hp⟩
abbrev sn2_in : Sn2 K (rIn K false) dIn := sn2_inB false
abbrev sn2_nin : Sn2 K (rIn K true) dNIn := sn2_inB true
/-! ## tuple(x) of an owned list that goes on -/
def wTupO (i : Nat) : WE := fun ρ P => match look ρ i with
  | .own ds => P (.tuple ds) ρ
  | _ => False
theorem de_tupO {i : Nat} (hg : Gl X "tuple") (hm : X.mg "tuple" = none) (ha : PE X e (tVar i)) (he : starEach [e] X.env = (false, eval e X.env) :: starEach [] X.env := by rfl) (hpl : (backTo pos (starEach [] X.env)).any (·.1) = false := by rfl) :
    DE X (.Call (.Name "tuple" p) [e] [] pos) (tCB (rTupleV X.K) (tCons (tVar i) tNil)) (wTupO i) := ⟨pe_callTy call_tuple_of hg hm (by decide +kernel) (pa_cons ha pa_nil he) (by decide) (by decide) he hpl, fun M σ H ρ pv pd P Q A hw q => by
  unfold wTupO at hw
  split at hw
  · next ds e1 =>
    obtain ⟨ow, B, hp⟩ := A
    obtain ⟨a, xs, k1, k2, k3, k4⟩ := B.own i ds e1
    refine ⟨.ref a, k2, a, xs, rfl, .inl ⟨.of k3, fun l hl => ?_⟩⟩
    have e : Same H (upd H l (.tup xs)) := same_new hl
    exact q _ (.tuple ds) _ ρ ⟨ow, B.step (.of e) (B.cok.mono e), .cons (.tup (.of (new_vis B.hall hl)) (k4.mono (B.vis (.of e)))) (hp.mono (B.vis (.of e)))⟩ hw
  · exact hw.elim⟩
/-! ## x, y = [], [] -/
def wParOO (i j : Nat) (wf wg : WF) : WS := fun DD ρ => wf ρ fun ds ρ1 => wg ρ1 fun es ρ2 => DD.nx (put (put ρ2 j (.own es)) i (.own ds))
theorem ds_parOO {i j : Nat} {x y : Str} {px py pt : Pos} {kt k2 pt2} {wf wg : WF} (hc : X.calm = true) (hN : X.N.Nodup) (ha : DF X a ta wf) (hb : DF X b tb wg) (hi : X.N[i]? = some x := by rfl) (hj : X.N[j]? = some y := by rfl) (hij : i ≠ j := by decide)
    (na : starEach [a, b] X.env = (false, eval a X.env) :: starEach [b] X.env := by rfl) (nb : starEach [b] X.env = (false, eval b X.env) :: starEach [] X.env := by rfl)
    (hx : X.env.scope.names.lookup x = some .local := by rfl) (hy : X.env.scope.names.lookup y = some .local := by rfl)
    (hw : swappedStores [.Tuple [.Name x px, .Name y py] kt pt] (.Tuple [a, b] k2 pt2) X.env = pure (some [x, y]) := by rfl)
    (hs : swapsWithSole [.Tuple [.Name x px, .Name y py] kt pt] (.Tuple [a, b] k2 pt2) pos.line X.env = pure false := by rfl) :
    DS X (.Assign [.Tuple [.Name x px, .Name y py] kt pt] (.Tuple [a, b] k2 pt2) pos) (tPar i j (tCons ta (tCons tb tNil))) (wParOO i j wf wg) := ⟨ps_par hc hN hi hj hij hx hy (pa_cons ha.pe (pa_cons hb.pe pa_nil nb) na) hw hs, fun M σ H ρ pv pd DD HD A h F => by
  refine ha.sd M σ H ρ pv pd _ _ A h fun p ds H1 ρ1 A1 h1 => ?_
  refine hb.sd _ σ H1 ρ1 pv pd _ _ A1 h1 fun q es H2 ρ2 A2 h2 => ?_
  refine ⟨.ref p, .ref q, rfl, ?_⟩
  rw [List.set_comm _ _ hij]
  exact F.nx _ _ _ ((A2.keep j).keep i) h2⟩
/-! ## tuples of the module, not in a tuple of tuples -/
theorem de_gtup {x : Str} {a : Addr} {d : D} (hg : Gl X x) (hm : X.mg x = some (.ref a)) (h : ∀ (lc : Option Addr) (H : Hp), Dv X.K lc H (.ref a) d) (hd : (x == ("__debug__" : Str)) = false := by decide) : DE X (.Name x pos) (tC (.ref a)) (wC d) := ⟨pe_glob hg hm rfl hd, snd_c fun lc H => h lc H⟩
def rNinT (K : Fg) : R2 := fun x y H Q => ∃ d ds, Dp K H x d ∧ Dp K H y (.tuple ds) ∧ d.canLay0 = true ∧ PyData.canLayAll0 ds = true ∧ d.depth ≤ 60 ∧ Q (.bl (!ds.any fun z => PyData.eqv z d)) H
theorem op_ninT (hu : X.A.units + 64 < cLine) : OpR X (compareOp .NotIn) (rNinT X.K) := by
  intro pins s σ H x y v u Q I rx ry h
  obtain ⟨d, ds, hd, he, sd, se, hk, q⟩ := h
  obtain ⟨as, r1⟩ := Dp.reads I d x v hd rx
  obtain ⟨bs, r2⟩ := Dp.reads I (.tuple ds) y u he ry
  refine SeqAt.notIn_tuple_reads r2 r1 se sd ?_ ⟨.bl _, H, I, rfl, q⟩
  have : min (PyData.depthAll ds) d.depth ≤ d.depth := Nat.min_le_right _ _
  omega
def dNInT (x y : D) (P : D → Prop) : Prop := ∃ ds, y = .tuple ds ∧ x.plain = true ∧ (PyData.tuple ds).plain = true ∧ x.canLay0 = true ∧ PyData.canLayAll0 ds = true ∧ x.depth ≤ 60 ∧ P (.bool (!ds.any fun z => PyData.eqv z x))
theorem sn2_ninT : Sn2 K (rNinT K) dNInT := fun lc hd H x y a b P Q al hx hy h q => by
  obtain ⟨ds, rfl, h1, h2, h3, h4, h5, h6⟩ := h
  exact ⟨a, ds, dpm hide_le (hx.dp h1), dpm hide_le (hy.dp h2), h3, h4, h5, q _ _ H (Same.refl H) (.bl _) h6⟩
end
end DL

/-! zip of two things of different kinds: a source is whatever keeps its place and has the two rules of nextOf -/
namespace ZZ
open PySem PySem.Spec PyProof.Rows L2 RZ
/-- a source that zip draws from: its iterator at `it`, what it walks at `l` -/
structure Src (I : Heap → Nat → Prop) (S : Heap → Prop) (it l : Addr) (xs : Array Value) : Prop where
  item : ∀ {prog : Program} {w : World} {A : Around} {E : Value → Shared → Prop} {s : Shared} {k : Nat} {x : Value} {Q : Value → Shared → Prop}, I s.heap k → S s.heap → xs[k]? = some x →
    (∀ h', I h' (k + 1) → Heap.SameBut it s.heap h' → Q x { s with heap := h' }) → wpAny (model prog w) A (Builtin.SmallTypes.nextOf (.ref it)) Q E s
  last : ∀ {prog : Program} {w : World} {A : Around} {E : Value → Shared → Prop} {s : Shared} {k : Nat} {Q : Value → Shared → Prop}, A.handled = none → I s.heap k → S s.heap → xs[k]? = none →
    (∀ h' e, Heap.ExtBut it s.heap h' → (∃ o, h'.get? e = some o ∧ o.cls = .type "StopIteration") → E (.ref e) { s with heap := h' }) → wpAny (model prog w) A (Builtin.SmallTypes.nextOf (.ref it)) Q E s
  iat : ∀ {h h' : Heap} {k : Nat}, I h k → (∀ o, h.get? it = some o → h'.get? it = some o) → I h' k
  ilt : ∀ {h : Heap} {k : Nat}, I h k → it < h.objs.size
  sat : ∀ {h h' : Heap}, S h → (∀ o, h.get? l = some o → h'.get? l = some o) → S h'
theorem src_tup {it l : Addr} {xs : Array Value} : Src (fun h k => h.IsTupleIter it l k) (fun h => h.IsTuple l xs) it l xs where
  item h s x q := nextOf_tuple_item h s x q
  last hh h s x q := nextOf_tuple_end hh h s x q
  iat h k := h.at k
  ilt h := by obtain ⟨_, e, _⟩ := h; exact Heap.lt_size e
  sat h k := by obtain ⟨o, e, r⟩ := h; exact ⟨o, k o e, r⟩
theorem src_lst {it l : Addr} {xs : Array Value} : Src (fun h k => h.IsListIter it l k) (fun h => h.IsList l xs) it l xs where
  item h s x q := wpAny_nextOf_list_item h s x q
  last hh h s x q := wpAny_nextOf_list_end hh h s x q
  iat h k := h.at k
  ilt h := by obtain ⟨_, e, _⟩ := h; exact Heap.lt_size e
  sat h k := by obtain ⟨o, e, r⟩ := h; exact ⟨o, k o e, r⟩
variable {I1 I2 : Heap → Nat → Prop} {S1 S2 : Heap → Prop} {z TI TO i1 i2 l1 l2 : Addr} {xs ys : Array Value}
variable {prog : Program} {w : World} {A : Around} {E : Value → Shared → Prop} {s : Shared} {k1 k2 : Nat} {x y a b : Value}
/-- what is not one of the four objects of the zip stays -/
abbrev Kept (z TO i1 i2 : Addr) (h h' : Heap) : Prop := ∀ c o, c ≠ z → c ≠ TO → c ≠ i1 → c ≠ i2 → h.get? c = some o → h'.get? c = some o
theorem nxt_item (R1 : Src I1 S1 i1 l1 xs) (R2 : Src I2 S2 i2 l2 ys) {Q : Value → Shared → Prop} (D : ZipApart z TI TO i1 i2 l1 l2)
    (hz : IsZip s.heap z TI TO .none) (hTI : IsPair s.heap TI (.ref i1) (.ref i2)) (hTO : IsPair s.heap TO a b) (h1 : I1 s.heap k1) (h2 : I2 s.heap k2) (hl1 : S1 s.heap) (hl2 : S2 s.heap) (hx : xs[k1]? = some x) (hy : ys[k2]? = some y)
    (hQ : ∀ h', IsZip h' z TI TO (rawInt s.heap.objs.size) → IsPair h' TO x y → I1 h' (k1 + 1) → I2 h' (k2 + 1) → IsPair h' s.heap.objs.size x y → h'.objs.size = s.heap.objs.size + 1 → Kept z TO i1 i2 s.heap h' → Q (.ref s.heap.objs.size) { s with heap := h' }) :
    wpAny (model prog w) A (Builtin.«zip.__next__» ⟨[.ref z], []⟩) (fun fin s' => ∃ v, fin = .done (.ret v) ∧ Q v s') E s := by
  show wpAny _ _ (field (.ref z) 2 >>= _) _ _ _
  refine wpAny_bind (wpAny_field hz rfl (x := .bool false) rfl ?_)
  show wpAny _ _ (field (.ref z) 3 >>= _) _ _ _
  refine wpAny_bind (wpAny_field hz rfl (x := .ref TI) rfl ?_)
  refine wpAny_bind (wpAny_seqItems hTI rfl ?_)
  show wpAny _ _ (Builtin.SmallTypes.ownedTupleIsFree (.ref z) >>= _) _ _ _
  refine wpAny_bind ?_
  unfold Builtin.SmallTypes.ownedTupleIsFree
  refine wpAny_bind (wpAny_field hz rfl (x := .none) rfl (wpAny_pure ?_))
  simp only [if_true]
  refine wpAny_bind (wpAny_rule ?_)
  refine wpAny_bind (wpAny_field hz rfl (x := .ref TO) rfl ?_)
  refine wpAny_bind (wpAny_setField_rec hz (by simp) fun ha za sa => ?_)
  replace za : IsZip ha z TI TO .ellipsis := za
  have ka : Heap.ExtBut z s.heap ha := sa.extBut
  refine wpAny_bind ?_
  simp only [List.zipIdx_cons, List.zipIdx_nil, List.forIn_cons, List.forIn_nil]
  refine wpAny_bind (wpAny_bind (wpAny_onRaise ?_))
  show wpAny _ _ (Builtin.SmallTypes.nextOf (.ref i1) >>= _) _ _ _
  refine wpAny_bind (R1.item (R1.iat h1 fun o => ka _ o D.i1z) (R1.sat hl1 fun o => ka _ o D.l1z) hx fun hb n1 sb => wpAny_pure ?_)
  have kb : Heap.ExtBut i1 ha hb := sb.extBut
  have tb : IsPair hb TO a b := kb _ _ D.TOi1 (ka _ _ D.TOz hTO)
  refine wpAny_bind (wpAny_seqItems tb rfl ?_)
  refine wpAny_bind (wpAny_updateSeq_pair tb fun hc tc sc => ?_)
  replace tc : IsPair hc TO x b := tc
  have kc : Heap.ExtBut TO hb hc := sc.extBut
  refine wpAny_bind (wpAny_letGo (wpAny_pure ?_))
  refine wpAny_bind (wpAny_bind (wpAny_onRaise ?_))
  show wpAny _ _ (Builtin.SmallTypes.nextOf (.ref i2) >>= _) _ _ _
  refine wpAny_bind (R2.item (R2.iat h2 fun o e => kc _ o D.TOi2.symm (kb _ o D.i12.symm (ka _ o D.i2z e))) (R2.sat hl2 fun o e => kc _ o D.l2TO (kb _ o D.l2i1 (ka _ o D.l2z e))) hy fun hd n2 sd => wpAny_pure ?_)
  have kd : Heap.ExtBut i2 hc hd := sd.extBut
  have td : IsPair hd TO x b := kd _ _ D.TOi2 tc
  refine wpAny_bind (wpAny_seqItems td rfl ?_)
  refine wpAny_bind (wpAny_updateSeq_pair td fun he te se => ?_)
  replace te : IsPair he TO x y := te
  have ke : Heap.ExtBut TO hd he := se.extBut
  refine wpAny_bind (wpAny_letGo (wpAny_pure (wpAny_pure ?_)))
  refine wpAny_bind (wpAny_seqItems te rfl ?_)
  refine wpAny_bind (wpAny_newTuple ?_)
  have hsz : he.objs.size = s.heap.objs.size := by rw [se.1, sd.1, sc.1, sb.1, sa.1]
  have ze : IsZip he z TI TO .ellipsis := ke _ _ D.TOz.symm (kd _ _ D.i2z.symm (kc _ _ D.TOz.symm (kb _ _ D.i1z.symm za)))
  have kk : Kept z TO i1 i2 s.heap he := fun c o c1 c2 c3 c4 e => ke _ _ c2 (kd _ _ c4 (kc _ _ c2 (kb _ _ c3 (ka _ _ c1 e))))
  have m1 : I1 he (k1 + 1) := R1.iat n1 fun o e => ke _ o D.TOi1.symm (kd _ o D.i12 (kc _ o D.TOi1.symm e))
  have m2 : I2 he (k2 + 1) := R2.iat n2 fun o e => ke _ o D.TOi2.symm e
  have zlt : z < he.objs.size := Heap.lt_size ze
  show wpAny _ _ (Builtin.SmallTypes.ownedTupleHandOut (.ref z) (.ref he.objs.size) >>= _) _ _ _
  refine wpAny_bind ?_
  unfold Builtin.SmallTypes.ownedTupleHandOut
  have zf : IsZip (he.push { cls := .type "tuple", data := .seq #[x, y] }) z TI TO .ellipsis := Heap.get?_push_of_some _ ze
  refine wpAny_bind (wpAny_setField_rec zf (by simp) fun hg zg sg => ?_)
  replace zg : IsZip hg z TI TO (rawInt he.objs.size) := zg
  refine wpAny_setField_rec zg (by simp) fun hh zh sh => ?_
  replace zh : IsZip hh z TI TO (rawInt he.objs.size) := zh
  have up : ∀ c o, c ≠ z → he.get? c = some o → hh.get? c = some o := fun c o c1 e => sh.extBut _ _ c1 (sg.extBut _ _ c1 (Heap.get?_push_of_some _ e))
  have pT : IsPair hh he.objs.size x y := sh.extBut _ _ (Nat.ne_of_gt zlt) (sg.extBut _ _ (Nat.ne_of_gt zlt) (Heap.get?_push_size _ rfl))
  have pz : hh.objs.size = he.objs.size + 1 := by rw [sh.1, sg.1, Heap.size_push]
  rw [hsz] at zh pT pz
  refine wpAny_pure ⟨_, rfl, ?_⟩
  show Q (.ref he.objs.size) _
  rw [hsz]
  exact hQ hh zh (up _ _ D.TOz te) (R1.iat m1 fun o e => up _ o D.i1z e) (R2.iat m2 fun o e => up _ o D.i2z e) pT pz fun c o c1 c2 c3 c4 e => up c o c1 (kk c o c1 c2 c3 c4 e)
theorem nxt_end (R1 : Src I1 S1 i1 l1 xs) (R2 : Src I2 S2 i2 l2 ys) {Q : Fin → Shared → Prop} (nh : A.handled = none) (D : ZipApart z TI TO i1 i2 l1 l2)
    (hz : IsZip s.heap z TI TO .none) (hTI : IsPair s.heap TI (.ref i1) (.ref i2)) (hTO : IsPair s.heap TO a b) (h1 : I1 s.heap k1) (h2 : I2 s.heap k2) (hl1 : S1 s.heap) (hl2 : S2 s.heap) (hend : xs[k1]? = none ∨ ys[k2]? = none)
    (hE : ∀ h' e, Kept z TO i1 i2 s.heap h' → (∃ o, h'.get? e = some o ∧ o.cls = .type "StopIteration") → E (.ref e) { s with heap := h' }) :
    wpAny (model prog w) A (Builtin.«zip.__next__» ⟨[.ref z], []⟩) Q E s := by
  show wpAny _ _ (field (.ref z) 2 >>= _) _ _ _
  refine wpAny_bind (wpAny_field hz rfl (x := .bool false) rfl ?_)
  show wpAny _ _ (field (.ref z) 3 >>= _) _ _ _
  refine wpAny_bind (wpAny_field hz rfl (x := .ref TI) rfl ?_)
  refine wpAny_bind (wpAny_seqItems hTI rfl ?_)
  show wpAny _ _ (Builtin.SmallTypes.ownedTupleIsFree (.ref z) >>= _) _ _ _
  refine wpAny_bind ?_
  unfold Builtin.SmallTypes.ownedTupleIsFree
  refine wpAny_bind (wpAny_field hz rfl (x := .none) rfl (wpAny_pure ?_))
  simp only [if_true]
  refine wpAny_bind (wpAny_rule ?_)
  refine wpAny_bind (wpAny_field hz rfl (x := .ref TO) rfl ?_)
  refine wpAny_bind (wpAny_setField_rec hz (by simp) fun ha za sa => ?_)
  replace za : IsZip ha z TI TO .ellipsis := za
  have ka : Heap.ExtBut z s.heap ha := sa.extBut
  refine wpAny_bind ?_
  simp only [List.zipIdx_cons, List.zipIdx_nil, List.forIn_cons, List.forIn_nil]
  refine wpAny_bind (wpAny_bind (wpAny_onRaise ?_))
  show wpAny _ _ (Builtin.SmallTypes.nextOf (.ref i1) >>= _) _ _ _
  have g1 := R1.iat h1 fun o => ka _ o D.i1z
  have g2 := R1.sat hl1 fun o => ka _ o D.l1z
  cases hx : xs[k1]? with
  | none =>
    refine wpAny_bind (R1.last nh g1 g2 hx fun hb e kb he => ?_)
    obtain ⟨oe, hoe, hce⟩ := he
    have zb : IsZip hb z TI TO .ellipsis := kb _ _ D.i1z.symm za
    have hez : e ≠ z := fun q => by subst q; rw [zb] at hoe; cases hoe; simp at hce
    exact wpAny_setField_rec zb (by simp) fun hc _ sc => hE hc e (fun c o c1 _ c3 _ q => sc.extBut _ _ c1 (kb _ _ c3 (ka _ _ c1 q))) ⟨oe, sc.extBut _ _ hez hoe, hce⟩
  | some x =>
    have hy : ys[k2]? = none := hend.resolve_left fun q => by rw [hx] at q; cases q
    refine wpAny_bind (R1.item g1 g2 hx fun hb n1 sb => wpAny_pure ?_)
    have kb : Heap.ExtBut i1 ha hb := sb.extBut
    have tb : IsPair hb TO a b := kb _ _ D.TOi1 (ka _ _ D.TOz hTO)
    refine wpAny_bind (wpAny_seqItems tb rfl ?_)
    refine wpAny_bind (wpAny_updateSeq_pair tb fun hc tc sc => ?_)
    have kc : Heap.ExtBut TO hb hc := sc.extBut
    refine wpAny_bind (wpAny_letGo (wpAny_pure ?_))
    refine wpAny_bind (wpAny_bind (wpAny_onRaise ?_))
    show wpAny _ _ (Builtin.SmallTypes.nextOf (.ref i2) >>= _) _ _ _
    refine wpAny_bind (R2.last nh (R2.iat h2 fun o e => kc _ o D.TOi2.symm (kb _ o D.i12.symm (ka _ o D.i2z e))) (R2.sat hl2 fun o e => kc _ o D.l2TO (kb _ o D.l2i1 (ka _ o D.l2z e))) hy fun hd e kd he => ?_)
    obtain ⟨oe, hoe, hce⟩ := he
    have zd : IsZip hd z TI TO .ellipsis := kd _ _ D.i2z.symm (kc _ _ D.TOz.symm (kb _ _ D.i1z.symm za))
    have hez : e ≠ z := fun q => by subst q; rw [zd] at hoe; cases hoe; simp at hce
    exact wpAny_setField_rec zd (by simp) fun hf _ sf => hE hf e (fun c o c1 c2 c3 c4 q => sf.extBut _ _ c1 (kd _ _ c4 (kc _ _ c2 (kb _ _ c3 (ka _ _ c1 q))))) ⟨oe, sf.extBut _ _ hez hoe, hce⟩
theorem py_item (R1 : Src I1 S1 i1 l1 xs) (R2 : Src I2 S2 i2 l2 ys) {Q : Option Value → Shared → Prop} (D : ZipApart z TI TO i1 i2 l1 l2)
    (hz : IsZip s.heap z TI TO .none) (hTI : IsPair s.heap TI (.ref i1) (.ref i2)) (hTO : IsPair s.heap TO a b) (h1 : I1 s.heap k1) (h2 : I2 s.heap k2) (hl1 : S1 s.heap) (hl2 : S2 s.heap) (hx : xs[k1]? = some x) (hy : ys[k2]? = some y)
    (hQ : ∀ h', IsZip h' z TI TO (rawInt s.heap.objs.size) → IsPair h' TO x y → I1 h' (k1 + 1) → I2 h' (k2 + 1) → IsPair h' s.heap.objs.size x y → h'.objs.size = s.heap.objs.size + 1 → Kept z TO i1 i2 s.heap h' → Q (some (.ref s.heap.objs.size)) { s with heap := h' }) :
    wpAny (model prog w) A (pyNext (.ref z)) Q E s := by
  have hT : s.TypeIs (.ref z) "zip" := ⟨_, hz, rfl⟩
  unfold pyNext
  exact wpAny_bind (wpAny_attempt (wpAny_callSpecial?_slot (name := Str.ofString "__next__") hT F.slot_zip_next (wpAny_call_entry F.slot_zip_next hT F.entry_zip_next
    (nxt_item R1 R2 D hz hTI hTO h1 h2 hl1 hl2 hx hy fun h' a1 a2 a3 a4 a5 a6 a7 => wpAny_pure (hQ h' a1 a2 a3 a4 a5 a6 a7)) (F.args_zip_next_1 _))))
theorem py_end (R1 : Src I1 S1 i1 l1 xs) (R2 : Src I2 S2 i2 l2 ys) {Q : Option Value → Shared → Prop} (nh : A.handled = none) (D : ZipApart z TI TO i1 i2 l1 l2)
    (hz : IsZip s.heap z TI TO .none) (hTI : IsPair s.heap TI (.ref i1) (.ref i2)) (hTO : IsPair s.heap TO a b) (h1 : I1 s.heap k1) (h2 : I2 s.heap k2) (hl1 : S1 s.heap) (hl2 : S2 s.heap) (hend : xs[k1]? = none ∨ ys[k2]? = none)
    (hQ : ∀ h', Kept z TO i1 i2 s.heap h' → Q none { s with heap := h' }) : wpAny (model prog w) A (pyNext (.ref z)) Q E s := by
  have hT : s.TypeIs (.ref z) "zip" := ⟨_, hz, rfl⟩
  unfold pyNext
  refine wpAny_bind (wpAny_attempt (wpAny_callSpecial?_slot (name := Str.ofString "__next__") hT F.slot_zip_next (wpAny_call_entry F.slot_zip_next hT F.entry_zip_next
    (nxt_end R1 R2 nh D hz hTI hTO h1 h2 hl1 hl2 hend fun h' e hk he => ?_) (F.args_zip_next_1 _))))
  obtain ⟨o, ho, hc⟩ := he
  exact wpAny_bind (wpAny_isInstance (T := "StopIteration") (b := true) ⟨o, ho, hc⟩ isSubtype_stop (wpAny_pure (hQ _ hk)))

/-! ## zip(tuple, list) -/
theorem new_meets (l1 l2 : Addr) (xs ys : Array Value) :
    Meets (Builtin.«zip.__new__» ⟨[.type "zip", .ref l1, .ref l2], []⟩) (fun _ R s => s.heap.IsTuple l1 xs ∧ s.heap.IsList l2 ys ∧
      R (.ok (.ret (.ref (s.heap.objs.size + 4)))) { s with heap := ((((s.heap.push { cls := .type "tuple_iterator", data := .fields #[.ref l1, .int 0 0] }).push { cls := .type "list_iterator", data := .fields #[.ref l2, .int 0 0] }).push { cls := .type "tuple", data := .seq #[.ref s.heap.objs.size, .ref (s.heap.objs.size + 1)] }).push { cls := .type "tuple", data := .seq #[.none, .none] }).push { cls := .type "zip", data := .fields #[.none, .bool false, .bool false, .ref (s.heap.objs.size + 2), .ref (s.heap.objs.size + 3)] } }) :=
  .of_wp fun prog w A R s h => by
    obtain ⟨hp, g, d, tk, os⟩ := s
    obtain ⟨hl1, hl2, h⟩ := h
    have hsub := sub_zip
    have q1 : Heap.IsTuple (Shared.heap ⟨hp, g, d, tk, os⟩) l1 xs := hl1
    have q2 : Heap.IsList (Shared.heap ⟨hp.push { cls := .type "tuple_iterator", data := .fields #[.ref l1, .int 0 0] }, g, d, tk, os⟩) l2 ys := Heap.IsList.push hl2 _
    wp_walk using wpAny_pyIter_tuple q1, wpAny_pyIter_list q2
    simp only [Heap.size_push] at h ⊢
    exact ⟨_, rfl, h⟩
theorem call_tl {Q : Value → Shared → Prop} (hl1 : s.heap.IsTuple l1 xs) (hl2 : s.heap.IsList l2 ys)
    (h : ∀ h', IsZip h' (s.heap.objs.size + 4) (s.heap.objs.size + 2) (s.heap.objs.size + 3) .none → IsPair h' (s.heap.objs.size + 2) (.ref s.heap.objs.size) (.ref (s.heap.objs.size + 1)) →
      IsPair h' (s.heap.objs.size + 3) .none .none → h'.IsTupleIter s.heap.objs.size l1 0 → h'.IsListIter (s.heap.objs.size + 1) l2 0 → (∀ c o, s.heap.get? c = some o → h'.get? c = some o) → Q (.ref (s.heap.objs.size + 4)) { s with heap := h' }) :
    wpAny (model prog w) A (call (.type "zip") [.ref l1, .ref l2]) Q E s := by
  refine callType_new F.called_zip (by decide) (F.typeCall_zip_2 _ _) (F.newCall_zip_2 _ _) (fun obj => F.args_object_init_3 obj _ _) F.entry_zip_new (new_meets l1 l2 xs ys) ⟨hl1, hl2, ?_⟩
  show _ ∧ _
  have up : ∀ {h : Heap} {c : Addr} {o p : Obj}, h.get? c = some o → (h.push p).get? c = some o := fun e => Heap.get?_push_of_some _ e
  have nw : ∀ {h : Heap} {n : Nat} {o : Obj}, h.objs.size = n → o.isFreed = false → (h.push o).get? n = some o := fun e f => by subst e; exact Heap.get?_push_size _ f
  have e1 := nw (h := s.heap) (o := { cls := .type "tuple_iterator", data := .fields #[.ref l1, .int 0 0] }) rfl rfl
  have e2 := nw (h := s.heap.push { cls := .type "tuple_iterator", data := .fields #[.ref l1, .int 0 0] }) (n := s.heap.objs.size + 1) (o := { cls := .type "list_iterator", data := .fields #[.ref l2, .int 0 0] }) (by simp only [Heap.size_push]) rfl
  refine ⟨⟨_, nw (by simp only [Heap.size_push]) rfl, rfl⟩, h _ (nw (by simp only [Heap.size_push]) rfl) (up (up (nw (by simp only [Heap.size_push]) rfl))) (up (nw (by simp only [Heap.size_push]) rfl)) ⟨_, up (up (up (up e1))), rfl, rfl⟩ ⟨_, up (up (up e2)), rfl, rfl⟩ fun c o x => up (up (up (up (up x))))⟩
/-- the tuple at a and the list at b, turn by turn, the items in new pairs -/
def Itm (K : PySem.W.Frag) (a b : Addr) : It :=
  ⟨fun i H => ∃ (us vs : List V) (x y : V), SqT K H a us ∧ SqL K H b vs ∧ us[i]? = some x ∧ vs[i]? = some y,
    fun i H v H' => ∃ T x y, v = .ref T ∧ H T = none ∧ H' = upd H T (.tup [x, y]) ∧ (∀ us, SqT K H a us → us[i]? = some x) ∧ ∀ vs, SqL K H b vs → vs[i]? = some y,
    fun i H => ∃ us vs : List V, SqT K H a us ∧ SqL K H b vs ∧ (us.length ≤ i ∨ vs.length ≤ i)⟩
theorem turn_m {P : Program} {w : World} {K : PySem.W.Frag} {elts : List Expr} {kk : Nat} {tpos : Pos} {a b z TI TO i1 i2 : Addr} (D : ZipApart z TI TO i1 i2 a b) :
    Turn P w K (.Tuple elts kk tpos) (Itm K a b) [z, TI, TO, i1, i2] z (fun i h => IsZip h z TI TO .none ∧ IsPair h TI (.ref i1) (.ref i2) ∧ (∃ x y, IsPair h TO x y) ∧ h.IsTupleIter i1 a i ∧ h.IsListIter i2 b i) where
  mem := by simp
  obj := fun i h st c hc => by
    obtain ⟨hz, hTI, ⟨x, y, hTO⟩, ⟨o1, e1, _, d1⟩, ⟨o2, e2, _, d2⟩⟩ := st
    simp only [List.mem_cons, List.not_mem_nil, or_false] at hc
    rcases hc with rfl | rfl | rfl | rfl | rfl
    · exact ⟨_, hz, fun v q => nomatch q⟩
    · exact ⟨_, hTI, fun v q => nomatch q⟩
    · exact ⟨_, hTO, fun v q => nomatch q⟩
    · exact ⟨o1, e1, fun v q => by rw [d1] at q; cases q⟩
    · exact ⟨o2, e2, fun v q => by rw [d2] at q; cases q⟩
  keep := fun i h h' st k => by
    obtain ⟨hz, hTI, ⟨x, y, hTO⟩, h1, h2⟩ := st
    exact ⟨k z (by simp) _ hz, k TI (by simp) _ hTI, ⟨x, y, k TO (by simp) _ hTO⟩, h1.at fun o q => k i1 (by simp) o q, h2.at fun o q => k i2 (by simp) o q⟩
  item := by
    intro X hP hw hK hc i pins s σ H E I hf st hg
    subst hP hw hK
    obtain ⟨hz, hTI, ⟨x0, y0, hTO⟩, h1, h2⟩ := st
    obtain ⟨us, vs, x, y, hqx, hqy, hx, hy⟩ := hg
    obtain ⟨its, rv, p, _⟩ := I.tuple hqx
    obtain ⟨its2, rv2, p2, _⟩ := I.list hqy
    obtain ⟨u, hu, ru⟩ := rv.get hx
    obtain ⟨u2, hu2, ru2⟩ := rv2.get hy
    have zlt : z < s.heap.objs.size := Heap.lt_size hz
    refine py_item (src_tup (xs := its.toArray)) (src_lst (xs := its2.toArray)) D hz hTI hTO h1 h2 p p2.isList (x := u) (y := u2) (by simpa using hu) (by simpa using hu2) fun h' z' TO' h1' h2' hT hsz hk => ?_
    refine ⟨_, rfl, wpAny_letOwnedTupleGo_zip (s := { s with heap := h' }) z' fun h'' z'' sb => ?_⟩
    have hT2 : h''.get? s.heap.objs.size = some { cls := .type "tuple", data := .seq #[u, u2] } := (sb.2 _ (Nat.ne_of_gt zlt)).trans hT
    have new : ObjOk X.prog X.w (upd H s.heap.objs.size (.tup [x, y])) h'' s.heap.objs.size (.tup [x, y]) :=
      ⟨by show 2 ≤ sizeLine; decide, [u, u2], .cons ru (.cons ru2 .nil), ⟨_, hT2, rfl, _, rfl⟩⟩
    have I1 : Inv X pins σ (upd H s.heap.objs.size (.tup [x, y])) { s with heap := h'' } :=
      I.turnedNew (t' := s.toks) (ch := [z, TI, TO, i1, i2]) (fun c o hb q => (sb.2 c (fun q' => hb (by simp [q']))).trans (hk c o (fun q' => hb (by simp [q'])) (fun q' => hb (by simp [q'])) (fun q' => hb (by simp [q'])) (fun q' => hb (by simp [q'])) q)) hf (Nat.le_refl _) new
    refine ⟨.ref s.heap.objs.size, _, I1, rfl, ⟨_, x, y, rfl, I.hok.fresh (Nat.le_refl _), rfl, fun l hl => by rw [I.tuple_inj hl hqx]; exact hx, fun l hl => by rw [I.list_inj hl hqy]; exact hy⟩,
      ⟨z'', (sb.2 _ D.TIz).trans (hk _ _ D.TIz D.TITO D.TIi1 D.TIi2 hTI), ⟨u, u2, (sb.2 _ D.TOz).trans TO'⟩, h1'.at fun o q => (sb.2 _ D.i1z).trans q, h2'.at fun o q => (sb.2 _ D.i2z).trans q⟩, fun c hcm => ?_⟩
    have hlt : c < s.heap.objs.size := by
      have l1 := (src_tup (xs := #[])).ilt h1
      have l2 := (src_lst (xs := #[])).ilt h2
      have hcm2 := hcm
      simp only [List.mem_cons, List.not_mem_nil, or_false] at hcm2
      rcases hcm2 with rfl | rfl | rfl | rfl | rfl
      · exact zlt
      · exact Heap.lt_size hTI
      · exact Heap.lt_size hTO
      · exact l1
      · exact l2
    rw [upd_ne (Nat.ne_of_lt hlt)]
    exact (hf c hcm).1
  done := by
    intro X hP hw hK hc i pins s σ H E I hf st hg
    subst hP hw hK
    obtain ⟨hz, hTI, ⟨x0, y0, hTO⟩, h1, h2⟩ := st
    obtain ⟨us, vs, hqx, hqy, hend⟩ := hg
    obtain ⟨its, rv, p, _⟩ := I.tuple hqx
    obtain ⟨its2, rv2, p2, _⟩ := I.list hqy
    have l1 := rv.length
    have l2 := rv2.length
    have he : its.toArray[i]? = none ∨ its2.toArray[i]? = none := hend.imp (fun q => by simp; omega) fun q => by simp; omega
    exact py_end (src_tup (xs := its.toArray)) (src_lst (xs := its2.toArray)) (I.ok.hd hc) D hz hTI hTO h1 h2 p p2.isList he fun h' hk => ⟨rfl, I.turnedL (t' := s.toks) (ch := [z, TI, TO, i1, i2]) (fun c o hb q =>
      hk c o (fun q' => hb (by simp [q'])) (fun q' => hb (by simp [q'])) (fun q' => hb (by simp [q'])) (fun q' => hb (by simp [q'])) q) hf⟩
  self := fun A i s Q E st h => wpAny_pyIter_zip st.1 h
def iZipM (K : PySem.W.Frag) (ta : L2.TA) : L2.TI := fun σ H R => ta σ H fun vs H1 => ∃ a b xs ys, vs = [.ref a, .ref b] ∧ SqT K H1 a xs ∧ SqL K H1 b ys ∧ R (Itm K a b) H1
theorem pi_zipM {X : Cx} {e e2 : Expr} {ta : TA} {p pos tpos : Pos} {elts : List Expr} {kk : Nat} (hg : Gl X "zip") (hm : X.mg "zip" = none) (ha : PA X [e, e2] ta)
    (hs : starEach [e, e2] X.env = (false, eval e X.env) :: starEach [e2] X.env := by rfl) (hpl : (backTo pos (starEach [e2] X.env)).any (·.1) = false := by rfl) :
    PI X (.Tuple elts kk tpos) (.Call (.Name "zip" p) [e, e2] [] pos) (iZipM X.K ta) := by
  refine ⟨fun pins s σ H R I h => ?_⟩
  refine Call_ (ld_blt I hg hm PyProof.Rows.boot_zip (PyProof.Rows.callWith_type1 (thn (ha.run pos pins s σ H _ I h) fun us s1 ⟨vs, H1, I1, r1, q1⟩ => ?_) hs hpl))
  obtain ⟨a, b, xs, ys, rfl, hqx, hqy, q⟩ := q1
  cases r1 with
  | cons r rr =>
    cases rr with
    | cons r' rr =>
      cases rr
      cases r
      cases r'
      obtain ⟨its, rv, p1, _⟩ := I1.tuple hqx
      obtain ⟨its2, rv2, p2, _⟩ := I1.list hqy
      obtain ⟨o1, ho1, _⟩ := id p1
      refine call_tl (show s1.heap.IsTuple a its.toArray from p1) p2.isList fun h' hz hTI hTO h1 h2 hk => wpAny_pyIter_zip hz ?_
      have I2 : Inv X pins σ H1 { s1 with heap := h' } := I1.kept (t' := s1.toks) hk
      refine ⟨s1.heap.objs.size + 4, [s1.heap.objs.size + 4, s1.heap.objs.size + 2, s1.heap.objs.size + 3, s1.heap.objs.size, s1.heap.objs.size + 1], _, _, H1, rfl, I2, turn_m (PySem.W.ktu_apart s1.heap.objs.size a b (Heap.lt_size ho1) p2.lt), ⟨hz, hTI, ⟨_, _, hTO⟩, h1, h2⟩, fun c hcm => ?_, q⟩
      have hle : s1.heap.objs.size ≤ c := by
        simp only [List.mem_cons, List.not_mem_nil, or_false] at hcm
        rcases hcm with rfl | rfl | rfl | rfl | rfl <;> first | exact Nat.le_add_right _ _ | exact Nat.le_refl _
      exact I1.fpOk hle (I1.hok.fresh hle)
end ZZ
namespace DL
open PySem PySem.Spec PyProof.Rows L2
theorem srcS_zipM {K : Fg} {a b : Addr} {xs ys : List D} : SrcOkS K (ZZ.Itm K a b) [.ref a, .ref b] [.tuple xs, .list ys] (zipD xs ys) := fun M σ H ρ pv pd A => by
  obtain ⟨ow, B, hp⟩ := A
  cases hp with
  | cons g1 hp =>
    cases hp with
    | cons g2 hp =>
      cases g1 with
      | @tup _ us _ g3 g4 =>
        cases g2 with
        | @lst _ vs _ g5 g6 =>
          have hS : SqT K H a us := same_t hide_le g3
          have hT : SqL K H b vs := .of (hide_le _ _ g5)
          refine ⟨fun i hi => ?_, us, vs, hS, hT, ?_⟩
          · rw [zipD_len] at hi
            have h1 : i < xs.length := by omega
            have h2 : i < ys.length := by omega
            obtain ⟨y, gy, gyd⟩ := g4.get (List.getElem?_eq_getElem h1)
            obtain ⟨w, gw, gwd⟩ := g6.get (List.getElem?_eq_getElem h2)
            refine ⟨⟨us, vs, y, w, hS, hT, gy, gw⟩, fun x H' hy => ?_⟩
            obtain ⟨T, z, z2, rfl, hT0, rfl, f1, f2⟩ := hy
            have ex : z = y := Option.some.inj ((f1 _ hS).symm.trans gy)
            have ex2 : z2 = w := Option.some.inj ((f2 _ hT).symm.trans gw)
            subst ex ex2
            obtain ⟨d1, d2, k1, k2, ee⟩ := zipD_get (List.getElem?_eq_getElem (by rw [zipD_len]; omega : i < (zipD xs ys).length))
            rw [ee]
            have : d1 = xs[i] := Option.some.inj (k1.symm.trans (List.getElem?_eq_getElem h1))
            subst this
            have : d2 = ys[i] := Option.some.inj (k2.symm.trans (List.getElem?_eq_getElem h2))
            subst this
            have e : Same H (upd H T (.tup [z, z2])) := same_new hT0
            refine ⟨ow, B.step (.of e) (B.cok.mono e), .cons (.tup (.of (new_vis B.hall hT0)) (.cons (gyd.mono (vis_of e)) (.cons (gwd.mono (vis_of e)) .nil))) ?_⟩
            exact DvAll.mono (vis_of e) (.cons (.tup g3 g4) (.cons (.lst g5 g6) hp))
          · rw [zipD_len, g4.length, g6.length]; omega
def wCompZM (wr : WA) (i k : Nat) (wt : WT) (we : WE) : WF := fun ρ P => wr ρ fun ds ρ1 => match ds with
  | [.tuple xs, .list ys] => wComp2D (zipD xs ys) i k wt we ρ1 P
  | _ => False
section
variable {X : Cx} {elt tg iter : Expr} {ifs : List Expr} {scope : Scope} {i k : Nat} {x y : Str} {pos : Pos} {wi : TI} {tt : TT} {te : TE} {wI : WI} {wt : WT} {we : WE} {wr : WA} {tr : TA} {e1 e2 : Expr} {es : List Expr} {kk : Nat} {tp p cp : Pos}
theorem df_compZM (hgz : Gl X "zip") (hmz : X.mg "zip" = none) (hik : i ≠ k) (hc : X.calm = true) (hN : X.N.Nodup) (ha : DA X [e1, e2] tr wr) (ok : BlkOk X.N X.env.scope scope [(x, i), (y, k)])
    (hg : ∀ (s : Shared) (H : Hp) (C : Addr) (cl : List (Str × Addr)) (fp : List Addr), PG (X.blk s H scope (compEnvC scope cl C X.env) fp) (.Tuple es kk tp) (gPair X.K i k)) (ht' : ∀ (s : Shared) (H : Hp) (C : Addr) (cl : List (Str × Addr)) (fp : List Addr), DTb (X.blk s H scope (compEnvC scope cl C X.env) fp) ifs tt wt)
    (he' : ∀ (s : Shared) (H : Hp) (C : Addr) (cl : List (Str × Addr)) (fp : List Addr), DEb (X.blk s H scope (compEnvC scope cl C X.env) fp) elt te we) (hz : starEach [e1, e2] X.env = (false, eval e1 X.env) :: starEach [e2] X.env := by rfl) (hpl : (backTo cp (starEach [e2] X.env)).any (·.1) = false := by rfl) (hs : ∀ x, foldedSetIterable (.Call (.Name "zip" p) [e1, e2] [] cp) X.env x = pure x := by intro _; rfl) :
    DF X (.ListComp elt [⟨.Tuple es kk tp, .Call (.Name "zip" p) [e1, e2] [] cp, ifs, 0⟩] scope pos) (tLc (ZZ.iZipM X.K tr) (gPair X.K i k) tt te [i, k]) (wCompZM wr i k wt we) := by
  have ht := fun s H C cl fp => (ht' s H C cl fp).dt
  have he := fun s H C cl fp => (he' s H C cl fp).de
  have sT : SndT X.K tt wt := (ht X.s_0 (fun _ => none) 0 [] []).sd
  have sE : Snd X.K te we := (he X.s_0 (fun _ => none) 0 [] []).sd
  refine ⟨pe_lc (own := [(x, i), (y, k)]) (g := gPair X.K i k) hc hN (ZZ.pi_zipM hgz hmz ha.pa hz hpl) ok hg (fun s H C cl fp => (ht s H C cl fp).pt) (fun s H C cl fp => (he s H C cl fp).pe) hs, fun M σ H ρ pv pd P Q A h q => ?_⟩
  refine ha.sd M σ H ρ pv pd _ _ A h fun vs ds H1 ρ1 hl A1 h1 => ?_
  split at h1
  · next xs ys =>
    obtain ⟨ow, B, hp⟩ := A1
    obtain ⟨g1, g2⟩ := DvAll.split hl hp
    cases g1 with
    | cons ga g1 =>
      cases g1 with
      | cons gb g1 =>
        cases g1
        cases ga with
        | @tup a us _ g3 g4 =>
          cases gb with
          | @lst b vs _ g5 g6 =>
            exact ⟨_, _, us, vs, rfl, same_t hide_le g3, .of (hide_le _ _ g5), comp2_core hik (vs := [.ref a, .ref b]) (dd := [.tuple xs, .list ys]) rfl sT sE srcS_zipM ⟨ow, B, .cons (.tup g3 g4) (.cons (.lst g5 g6) g2)⟩ h1 q⟩
  · exact h1.elim
end
theorem ds_setLcZM {X : Cx} {elt : Expr} {ifs : List Expr} {scope : Scope} {i k j : Nat} {x y z : Str} {pos py spos : Pos} {tt : TT} {te : TE} {wt : WT} {we : WE} {wr : WA} {tr : TA} {e1 e2 : Expr} {es : List Expr} {kk : Nat} {tp p cp : Pos} (hgz : Gl X "zip") (hmz : X.mg "zip" = none) (hik : i ≠ k) (hc : X.calm = true) (hN : X.N.Nodup) (ha : DA X [e1, e2] tr wr) (ok : BlkOk X.N X.env.scope scope [(x, i), (y, k)])
    (hg : ∀ (s : Shared) (H : Hp) (C : Addr) (cl : List (Str × Addr)) (fp : List Addr), PG (X.blk s H scope (compEnvC scope cl C X.env) fp) (.Tuple es kk tp) (gPair X.K i k)) (ht : ∀ (s : Shared) (H : Hp) (C : Addr) (cl : List (Str × Addr)) (fp : List Addr), DTb (X.blk s H scope (compEnvC scope cl C X.env) fp) ifs tt wt)
    (he : ∀ (s : Shared) (H : Hp) (C : Addr) (cl : List (Str × Addr)) (fp : List Addr), DEb (X.blk s H scope (compEnvC scope cl C X.env) fp) elt te we) (hy : X.N[j]? = some z) (hyl : X.env.scope.names.lookup z = some .local)
    (hsw : swapsWith (.ListComp elt [⟨.Tuple es kk tp, .Call (.Name "zip" p) [e1, e2] [] cp, ifs, 0⟩] scope pos) (some (.Name z py)) spos.line X.env = pure true) (hz : starEach [e1, e2] X.env = (false, eval e1 X.env) :: starEach [e2] X.env := by rfl) (hpl : (backTo cp (starEach [e2] X.env)).any (·.1) = false := by rfl) (hs : ∀ x, foldedSetIterable (.Call (.Name "zip" p) [e1, e2] [] cp) X.env x = pure x := by intro _; rfl) :
    DS X (.Assign [.Name z py] (.ListComp elt [⟨.Tuple es kk tp, .Call (.Name "zip" p) [e1, e2] [] cp, ifs, 0⟩] scope pos) spos) (tAsg (tLc (ZZ.iZipM X.K tr) (gPair X.K i k) tt te [i, k]) (gName j)) (wAsg (fun ρ P => wCompZM wr i k wt we ρ fun ds ρ1 => P (.list ds) ρ1) (wgName j)) :=
  ⟨ps_setLc (own := [(x, i), (y, k)]) hc hN hy hyl hsw (ZZ.pi_zipM hgz hmz ha.pa hz hpl) ok hg (fun s H C cl fp => (ht s H C cl fp).dt.pt) (fun s H C cl fp => (he s H C cl fp).de.pe) hs, snds_asg (df_compZM (pos := pos) hgz hmz hik hc hN ha ok hg ht he hz hpl hs).de.sd (sndg_name j)⟩
end DL

/-! zip of any two (lists or tuples), walked with any target: the tuple that zip gave out may live on -/
namespace ZK
open PySem PySem.Spec PyProof.Rows L2 RZ ZZ
abbrev ZSt (h : Heap) (z TI TO : Addr) (v : Value) (f : Bool) : Prop := h.get? z = some { cls := .type "zip", dict := none, data := .fields #[v, .bool f, .bool false, .ref TI, .ref TO], slots := #[] }
abbrev Own (v : Value) : Prop := v = .none ∨ ∃ T : Addr, v = rawInt T
variable {I1 I2 : Heap → Nat → Prop} {S1 S2 : Heap → Prop} {z TI TO i1 i2 l1 l2 : Addr} {xs ys : Array Value}
variable {prog : Program} {w : World} {A : Around} {E : Value → Shared → Prop} {s : Shared} {k1 k2 : Nat} {x y a b v : Value} {f : Bool}
theorem alive {a : Addr} {Q : Option Obj → Shared → Prop} (h : Q (s.heap.get? a) s) : wpAny (model prog w) A (loadIfAlive a) Q E s := fun _ _ _ => h
/-- whether the tuple that was given out is free -/
theorem own_free {Q : Bool → Shared → Prop} (hz : ZSt s.heap z TI TO v f) (hv : Own v) (h1 : Q true s) (h2 : ∀ h', ZSt h' z TI TO v true → Heap.SameBut z s.heap h' → Q false { s with heap := h' }) :
    wpAny (model prog w) A (Builtin.SmallTypes.ownedTupleIsFree (.ref z)) Q E s := by
  unfold Builtin.SmallTypes.ownedTupleIsFree
  rcases hv with rfl | ⟨T, rfl⟩
  · exact wpAny_bind (wpAny_field hz rfl (x := .none) rfl (wpAny_pure h1))
  · refine wpAny_bind (wpAny_field hz rfl (x := rawInt T) rfl ?_)
    show wpAny _ _ (loadIfAlive ((T : Int).toNat) >>= _) _ _ _
    rw [Int.toNat_natCast]
    refine wpAny_bind (alive ?_)
    cases hT : s.heap.get? T with
    | none =>
      simp only [Option.isNone_none, if_true]
      exact wpAny_pure h1
    | some o =>
      simp only [Option.isNone_some, Bool.false_eq_true, if_false]
      refine wpAny_bind (wpAny_field hz rfl (x := .bool f) rfl ?_)
      cases f with
      | true =>
        rw [if_neg (show ¬ ((Value.bool true != Value.bool true) = true) from Bool.false_ne_true)]
        exact wpAny_pure (h2 s.heap hz (Heap.SameBut.refl _ _))
      | false =>
        rw [if_pos (show (Value.bool false != Value.bool true) = true from rfl)]
        exact wpAny_bind (wpAny_setField_rec hz (by simp) fun h₁ hz₁ hs₁ => wpAny_pure (h2 h₁ hz₁ hs₁))
theorem nxt_item (R1 : Src I1 S1 i1 l1 xs) (R2 : Src I2 S2 i2 l2 ys) {Q : Value → Shared → Prop} (D : ZipApart z TI TO i1 i2 l1 l2)
    (hz : ZSt s.heap z TI TO v f) (hv : Own v) (hTI : IsPair s.heap TI (.ref i1) (.ref i2)) (hTO : IsPair s.heap TO a b) (h1 : I1 s.heap k1) (h2 : I2 s.heap k2) (hl1 : S1 s.heap) (hl2 : S2 s.heap) (hx : xs[k1]? = some x) (hy : ys[k2]? = some y)
    (hQ : ∀ h' v' f', ZSt h' z TI TO v' f' → Own v' → (∃ a b, IsPair h' TO a b) → I1 h' (k1 + 1) → I2 h' (k2 + 1) → IsPair h' s.heap.objs.size x y → h'.objs.size = s.heap.objs.size + 1 → Kept z TO i1 i2 s.heap h' → Q (.ref s.heap.objs.size) { s with heap := h' }) :
    wpAny (model prog w) A (Builtin.«zip.__next__» ⟨[.ref z], []⟩) (fun fin s' => ∃ v, fin = .done (.ret v) ∧ Q v s') E s := by
  show wpAny _ _ (field (.ref z) 2 >>= _) _ _ _
  refine wpAny_bind (wpAny_field hz rfl (x := .bool false) rfl ?_)
  show wpAny _ _ (field (.ref z) 3 >>= _) _ _ _
  refine wpAny_bind (wpAny_field hz rfl (x := .ref TI) rfl ?_)
  refine wpAny_bind (wpAny_seqItems hTI rfl ?_)
  show wpAny _ _ (Builtin.SmallTypes.ownedTupleIsFree (.ref z) >>= _) _ _ _
  refine wpAny_bind (own_free hz hv ?_ fun h₁ hz₁ hs₁ => ?_)
  · simp only [if_true]
    refine wpAny_bind (wpAny_rule ?_)
    refine wpAny_bind (wpAny_field hz rfl (x := .ref TO) rfl ?_)
    refine wpAny_bind (wpAny_setField_rec hz (by simp) fun ha za sa => ?_)
    replace za : ZSt ha z TI TO .ellipsis f := za
    have ka : Heap.ExtBut z s.heap ha := sa.extBut
    refine wpAny_bind ?_
    simp only [List.zipIdx_cons, List.zipIdx_nil, List.forIn_cons, List.forIn_nil]
    refine wpAny_bind (wpAny_bind (wpAny_onRaise ?_))
    show wpAny _ _ (Builtin.SmallTypes.nextOf (.ref i1) >>= _) _ _ _
    refine wpAny_bind (R1.item (R1.iat h1 fun o => ka _ o D.i1z) (R1.sat hl1 fun o => ka _ o D.l1z) hx fun hb n1 sb => wpAny_pure ?_)
    have kb : Heap.ExtBut i1 ha hb := sb.extBut
    have tb : IsPair hb TO a b := kb _ _ D.TOi1 (ka _ _ D.TOz hTO)
    refine wpAny_bind (wpAny_seqItems tb rfl ?_)
    refine wpAny_bind (wpAny_updateSeq_pair tb fun hc tc sc => ?_)
    replace tc : IsPair hc TO x b := tc
    have kc : Heap.ExtBut TO hb hc := sc.extBut
    refine wpAny_bind (wpAny_letGo (wpAny_pure ?_))
    refine wpAny_bind (wpAny_bind (wpAny_onRaise ?_))
    show wpAny _ _ (Builtin.SmallTypes.nextOf (.ref i2) >>= _) _ _ _
    refine wpAny_bind (R2.item (R2.iat h2 fun o e => kc _ o D.TOi2.symm (kb _ o D.i12.symm (ka _ o D.i2z e))) (R2.sat hl2 fun o e => kc _ o D.l2TO (kb _ o D.l2i1 (ka _ o D.l2z e))) hy fun hd n2 sd => wpAny_pure ?_)
    have kd : Heap.ExtBut i2 hc hd := sd.extBut
    have td : IsPair hd TO x b := kd _ _ D.TOi2 tc
    refine wpAny_bind (wpAny_seqItems td rfl ?_)
    refine wpAny_bind (wpAny_updateSeq_pair td fun he te se => ?_)
    replace te : IsPair he TO x y := te
    have ke : Heap.ExtBut TO hd he := se.extBut
    refine wpAny_bind (wpAny_letGo (wpAny_pure (wpAny_pure ?_)))
    refine wpAny_bind (wpAny_seqItems te rfl ?_)
    refine wpAny_bind (wpAny_newTuple ?_)
    have hsz : he.objs.size = s.heap.objs.size := by rw [se.1, sd.1, sc.1, sb.1, sa.1]
    have ze : ZSt he z TI TO .ellipsis f := ke _ _ D.TOz.symm (kd _ _ D.i2z.symm (kc _ _ D.TOz.symm (kb _ _ D.i1z.symm za)))
    have kk : Kept z TO i1 i2 s.heap he := fun c o c1 c2 c3 c4 e => ke _ _ c2 (kd _ _ c4 (kc _ _ c2 (kb _ _ c3 (ka _ _ c1 e))))
    have m1 : I1 he (k1 + 1) := R1.iat n1 fun o e => ke _ o D.TOi1.symm (kd _ o D.i12 (kc _ o D.TOi1.symm e))
    have m2 : I2 he (k2 + 1) := R2.iat n2 fun o e => ke _ o D.TOi2.symm e
    have zlt : z < he.objs.size := Heap.lt_size ze
    show wpAny _ _ (Builtin.SmallTypes.ownedTupleHandOut (.ref z) (.ref he.objs.size) >>= _) _ _ _
    refine wpAny_bind ?_
    unfold Builtin.SmallTypes.ownedTupleHandOut
    have zf : ZSt (he.push { cls := .type "tuple", data := .seq #[x, y] }) z TI TO .ellipsis f := Heap.get?_push_of_some _ ze
    refine wpAny_bind (wpAny_setField_rec zf (by simp) fun hg zg sg => ?_)
    replace zg : ZSt hg z TI TO (rawInt he.objs.size) f := zg
    refine wpAny_setField_rec zg (by simp) fun hh zh sh => ?_
    replace zh : ZSt hh z TI TO (rawInt he.objs.size) false := zh
    have up : ∀ c o, c ≠ z → he.get? c = some o → hh.get? c = some o := fun c o c1 e => sh.extBut _ _ c1 (sg.extBut _ _ c1 (Heap.get?_push_of_some _ e))
    have pT : IsPair hh he.objs.size x y := sh.extBut _ _ (Nat.ne_of_gt zlt) (sg.extBut _ _ (Nat.ne_of_gt zlt) (Heap.get?_push_size _ rfl))
    have pz : hh.objs.size = he.objs.size + 1 := by rw [sh.1, sg.1, Heap.size_push]
    rw [hsz] at zh pT pz
    refine wpAny_pure ⟨_, rfl, ?_⟩
    show Q (.ref he.objs.size) _
    rw [hsz]
    exact hQ hh _ _ zh (.inr ⟨_, rfl⟩) ⟨_, _, up _ _ D.TOz te⟩ (R1.iat m1 fun o e => up _ o D.i1z e) (R2.iat m2 fun o e => up _ o D.i2z e) pT pz fun c o c1 c2 c3 c4 e => up c o c1 (kk c o c1 c2 c3 c4 e)
  · simp only [Bool.false_eq_true, if_false]
    refine wpAny_bind ?_
    rw [← Array.forIn_toList]
    simp only [List.forIn_cons, List.forIn_nil]
    refine wpAny_bind (wpAny_bind (wpAny_holding ?_))
    show wpAny _ _ (Builtin.SmallTypes.nextOf (.ref i1) >>= _) _ _ _
    have q1 : Heap.ExtBut z s.heap h₁ := hs₁.extBut
    refine wpAny_bind (R1.item (s := { s with heap := h₁ }) (R1.iat h1 fun o => q1 _ o D.i1z) (R1.sat hl1 fun o => q1 _ o D.l1z) hx fun h₂ h1₂ hs₂ => wpAny_pure ?_)
    have q2 : Heap.ExtBut i1 h₁ h₂ := hs₂.extBut
    refine wpAny_pure ?_
    refine wpAny_bind (wpAny_bind (wpAny_holding ?_))
    show wpAny _ _ (Builtin.SmallTypes.nextOf (.ref i2) >>= _) _ _ _
    refine wpAny_bind (R2.item (s := { s with heap := h₂ }) (R2.iat h2 fun o e => q2 _ o D.i12.symm (q1 _ o D.i2z e)) (R2.sat hl2 fun o e => q2 _ o D.l2i1 (q1 _ o D.l2z e)) hy fun h₃ h2₃ hs₃ => wpAny_pure ?_)
    have q3 : Heap.ExtBut i2 h₂ h₃ := hs₃.extBut
    refine wpAny_pure (wpAny_pure ?_)
    show wpAny _ _ (newTuple [x, y] >>= _) _ _ _
    refine wpAny_bind (wpAny_newTuple ?_)
    have hsz : h₃.objs.size = s.heap.objs.size := by rw [hs₃.1, hs₂.1, hs₁.1]
    have hz₃ : ZSt h₃ z TI TO v true := q3 _ _ D.i2z.symm (q2 _ _ D.i1z.symm hz₁)
    have hk : ∀ c o, c ≠ z → c ≠ i1 → c ≠ i2 → s.heap.get? c = some o → h₃.get? c = some o := fun c o c1 c2 c3 e => q3 _ _ c3 (q2 _ _ c2 (q1 _ _ c1 e))
    have h1₃ : I1 h₃ (k1 + 1) := R1.iat h1₂ fun o e => q3 _ o D.i12 e
    refine wpAny_pure ⟨_, rfl, ?_⟩
    show Q (.ref h₃.objs.size) _
    have hp : IsPair (h₃.push { cls := .type "tuple", data := .seq #[x, y] }) h₃.objs.size x y := Heap.get?_push_size _ rfl
    have hz4 : (h₃.push { cls := .type "tuple", data := .seq #[x, y] }).objs.size = h₃.objs.size + 1 := Heap.size_push ..
    rw [hsz] at hp hz4 ⊢
    exact hQ _ _ _ (Heap.get?_push_of_some _ hz₃) hv ⟨_, _, Heap.get?_push_of_some _ (hk _ _ D.TOz D.TOi1 D.TOi2 hTO)⟩ (R1.iat h1₃ fun o e => Heap.get?_push_of_some _ e) (R2.iat h2₃ fun o e => Heap.get?_push_of_some _ e) hp hz4 fun c o c1 c2 c3 c4 e => Heap.get?_push_of_some _ (hk c o c1 c3 c4 e)
theorem nxt_end (R1 : Src I1 S1 i1 l1 xs) (R2 : Src I2 S2 i2 l2 ys) {Q : Fin → Shared → Prop} (nh : A.handled = none) (D : ZipApart z TI TO i1 i2 l1 l2)
    (hz : ZSt s.heap z TI TO v f) (hv : Own v) (hTI : IsPair s.heap TI (.ref i1) (.ref i2)) (hTO : IsPair s.heap TO a b) (h1 : I1 s.heap k1) (h2 : I2 s.heap k2) (hl1 : S1 s.heap) (hl2 : S2 s.heap) (hend : xs[k1]? = none ∨ ys[k2]? = none)
    (hE : ∀ h' e, Kept z TO i1 i2 s.heap h' → (∃ o, h'.get? e = some o ∧ o.cls = .type "StopIteration") → E (.ref e) { s with heap := h' }) :
    wpAny (model prog w) A (Builtin.«zip.__next__» ⟨[.ref z], []⟩) Q E s := by
  show wpAny _ _ (field (.ref z) 2 >>= _) _ _ _
  refine wpAny_bind (wpAny_field hz rfl (x := .bool false) rfl ?_)
  show wpAny _ _ (field (.ref z) 3 >>= _) _ _ _
  refine wpAny_bind (wpAny_field hz rfl (x := .ref TI) rfl ?_)
  refine wpAny_bind (wpAny_seqItems hTI rfl ?_)
  show wpAny _ _ (Builtin.SmallTypes.ownedTupleIsFree (.ref z) >>= _) _ _ _
  refine wpAny_bind (own_free hz hv ?_ fun h₁ hz₁ hs₁ => ?_)
  · simp only [if_true]
    refine wpAny_bind (wpAny_rule ?_)
    refine wpAny_bind (wpAny_field hz rfl (x := .ref TO) rfl ?_)
    refine wpAny_bind (wpAny_setField_rec hz (by simp) fun ha za sa => ?_)
    replace za : ZSt ha z TI TO .ellipsis f := za
    have ka : Heap.ExtBut z s.heap ha := sa.extBut
    refine wpAny_bind ?_
    simp only [List.zipIdx_cons, List.zipIdx_nil, List.forIn_cons, List.forIn_nil]
    refine wpAny_bind (wpAny_bind (wpAny_onRaise ?_))
    show wpAny _ _ (Builtin.SmallTypes.nextOf (.ref i1) >>= _) _ _ _
    have g1 := R1.iat h1 fun o => ka _ o D.i1z
    have g2 := R1.sat hl1 fun o => ka _ o D.l1z
    cases hx : xs[k1]? with
    | none =>
      refine wpAny_bind (R1.last nh g1 g2 hx fun hb e kb he => ?_)
      obtain ⟨oe, hoe, hce⟩ := he
      have zb : ZSt hb z TI TO .ellipsis f := kb _ _ D.i1z.symm za
      have hez : e ≠ z := fun q => by subst q; rw [zb] at hoe; cases hoe; simp at hce
      exact wpAny_setField_rec zb (by simp) fun hc _ sc => hE hc e (fun c o c1 _ c3 _ q => sc.extBut _ _ c1 (kb _ _ c3 (ka _ _ c1 q))) ⟨oe, sc.extBut _ _ hez hoe, hce⟩
    | some x =>
      have hy : ys[k2]? = none := hend.resolve_left fun q => by rw [hx] at q; cases q
      refine wpAny_bind (R1.item g1 g2 hx fun hb n1 sb => wpAny_pure ?_)
      have kb : Heap.ExtBut i1 ha hb := sb.extBut
      have tb : IsPair hb TO a b := kb _ _ D.TOi1 (ka _ _ D.TOz hTO)
      refine wpAny_bind (wpAny_seqItems tb rfl ?_)
      refine wpAny_bind (wpAny_updateSeq_pair tb fun hc tc sc => ?_)
      have kc : Heap.ExtBut TO hb hc := sc.extBut
      refine wpAny_bind (wpAny_letGo (wpAny_pure ?_))
      refine wpAny_bind (wpAny_bind (wpAny_onRaise ?_))
      show wpAny _ _ (Builtin.SmallTypes.nextOf (.ref i2) >>= _) _ _ _
      refine wpAny_bind (R2.last nh (R2.iat h2 fun o e => kc _ o D.TOi2.symm (kb _ o D.i12.symm (ka _ o D.i2z e))) (R2.sat hl2 fun o e => kc _ o D.l2TO (kb _ o D.l2i1 (ka _ o D.l2z e))) hy fun hd e kd he => ?_)
      obtain ⟨oe, hoe, hce⟩ := he
      have zd : ZSt hd z TI TO .ellipsis f := kd _ _ D.i2z.symm (kc _ _ D.TOz.symm (kb _ _ D.i1z.symm za))
      have hez : e ≠ z := fun q => by subst q; rw [zd] at hoe; cases hoe; simp at hce
      exact wpAny_setField_rec zd (by simp) fun hf _ sf => hE hf e (fun c o c1 c2 c3 c4 q => sf.extBut _ _ c1 (kd _ _ c4 (kc _ _ c2 (kb _ _ c3 (ka _ _ c1 q))))) ⟨oe, sf.extBut _ _ hez hoe, hce⟩
  · simp only [Bool.false_eq_true, if_false]
    have q1 : Heap.ExtBut z s.heap h₁ := hs₁.extBut
    refine wpAny_bind ?_
    rw [← Array.forIn_toList]
    simp only [List.forIn_cons, List.forIn_nil]
    refine wpAny_bind (wpAny_bind (wpAny_holding ?_))
    show wpAny _ _ (Builtin.SmallTypes.nextOf (.ref i1) >>= _) _ _ _
    cases hx : xs[k1]? with
    | none =>
      refine wpAny_bind (R1.last (s := { s with heap := h₁ }) nh (R1.iat h1 fun o => q1 _ o D.i1z) (R1.sat hl1 fun o => q1 _ o D.l1z) hx fun h₂ e hs₂ he => ?_)
      exact hE h₂ e (fun c o c1 _ c2 _ x => hs₂ _ _ c2 (q1 _ _ c1 x)) he
    | some x =>
      have hy : ys[k2]? = none := hend.resolve_left fun q => by rw [hx] at q; cases q
      refine wpAny_bind (R1.item (s := { s with heap := h₁ }) (R1.iat h1 fun o => q1 _ o D.i1z) (R1.sat hl1 fun o => q1 _ o D.l1z) hx fun h₂ h1₂ hs₂ => wpAny_pure ?_)
      have q2 : Heap.ExtBut i1 h₁ h₂ := hs₂.extBut
      refine wpAny_pure ?_
      refine wpAny_bind (wpAny_bind (wpAny_holding ?_))
      show wpAny _ _ (Builtin.SmallTypes.nextOf (.ref i2) >>= _) _ _ _
      refine wpAny_bind (R2.last (s := { s with heap := h₂ }) nh (R2.iat h2 fun o e => q2 _ o D.i12.symm (q1 _ o D.i2z e)) (R2.sat hl2 fun o e => q2 _ o D.l2i1 (q1 _ o D.l2z e)) hy fun h₃ e hs₃ he => ?_)
      exact hE h₃ e (fun c o c1 _ c2 c3 x => hs₃ _ _ c3 (q2 _ _ c2 (q1 _ _ c1 x))) he
theorem py_item (R1 : Src I1 S1 i1 l1 xs) (R2 : Src I2 S2 i2 l2 ys) {Q : Option Value → Shared → Prop} (D : ZipApart z TI TO i1 i2 l1 l2)
    (hz : ZSt s.heap z TI TO v f) (hv : Own v) (hTI : IsPair s.heap TI (.ref i1) (.ref i2)) (hTO : IsPair s.heap TO a b) (h1 : I1 s.heap k1) (h2 : I2 s.heap k2) (hl1 : S1 s.heap) (hl2 : S2 s.heap) (hx : xs[k1]? = some x) (hy : ys[k2]? = some y)
    (hQ : ∀ h' v' f', ZSt h' z TI TO v' f' → Own v' → (∃ a b, IsPair h' TO a b) → I1 h' (k1 + 1) → I2 h' (k2 + 1) → IsPair h' s.heap.objs.size x y → h'.objs.size = s.heap.objs.size + 1 → Kept z TO i1 i2 s.heap h' → Q (some (.ref s.heap.objs.size)) { s with heap := h' }) :
    wpAny (model prog w) A (pyNext (.ref z)) Q E s := by
  have hT : s.TypeIs (.ref z) "zip" := ⟨_, hz, rfl⟩
  unfold pyNext
  exact wpAny_bind (wpAny_attempt (wpAny_callSpecial?_slot (name := Str.ofString "__next__") hT F.slot_zip_next (wpAny_call_entry F.slot_zip_next hT F.entry_zip_next
    (nxt_item R1 R2 D hz hv hTI hTO h1 h2 hl1 hl2 hx hy fun h' v' f' a1 a2 a3 a4 a5 a6 a7 a8 => wpAny_pure (hQ h' v' f' a1 a2 a3 a4 a5 a6 a7 a8)) (F.args_zip_next_1 _))))
theorem py_end (R1 : Src I1 S1 i1 l1 xs) (R2 : Src I2 S2 i2 l2 ys) {Q : Option Value → Shared → Prop} (nh : A.handled = none) (D : ZipApart z TI TO i1 i2 l1 l2)
    (hz : ZSt s.heap z TI TO v f) (hv : Own v) (hTI : IsPair s.heap TI (.ref i1) (.ref i2)) (hTO : IsPair s.heap TO a b) (h1 : I1 s.heap k1) (h2 : I2 s.heap k2) (hl1 : S1 s.heap) (hl2 : S2 s.heap) (hend : xs[k1]? = none ∨ ys[k2]? = none)
    (hQ : ∀ h', Kept z TO i1 i2 s.heap h' → Q none { s with heap := h' }) : wpAny (model prog w) A (pyNext (.ref z)) Q E s := by
  have hT : s.TypeIs (.ref z) "zip" := ⟨_, hz, rfl⟩
  unfold pyNext
  refine wpAny_bind (wpAny_attempt (wpAny_callSpecial?_slot (name := Str.ofString "__next__") hT F.slot_zip_next (wpAny_call_entry F.slot_zip_next hT F.entry_zip_next
    (nxt_end R1 R2 nh D hz hv hTI hTO h1 h2 hl1 hl2 hend fun h' e hk he => ?_) (F.args_zip_next_1 _))))
  obtain ⟨o, ho, hc⟩ := he
  exact wpAny_bind (wpAny_isInstance (T := "StopIteration") (b := true) ⟨o, ho, hc⟩ isSubtype_stop (wpAny_pure (hQ _ hk)))
/-- the step ahead of the store, whatever the target is -/
theorem go_any {tg : Expr} {T : Addr} {Q : Unit → Shared → Prop} (hz : ZSt s.heap z TI TO v f) (hv : Own v)
    (hQ : ∀ h' v', ZSt h' z TI TO v' f → Own v' → Heap.SameBut z s.heap h' → Q () { s with heap := h' }) : wpAny (model prog w) A (letOwnedTupleGo tg (.ref z) (.ref T)) Q E s := by
  have main : wpAny (model prog w) A (do
      let o ← load z
      match o.cls, o.data with
      | .type n, .fields vs =>
        if ["enumerate", "zip", "dict_itemiterator", "dict_reverseitemiterator", "odict_iterator", "itertools.zip_longest", "itertools.pairwise"].contains n && vs[0]? == some (rawInt T) then
          rule "for.unpacks-the-owned-tuple"
          updateField z 0 .none
      | _, _ => pure () : Sem Unit) Q E s := by
    refine wpAny_bind (wpAny_load hz ?_)
    show wpAny _ _ (if (["enumerate", "zip", "dict_itemiterator", "dict_reverseitemiterator", "odict_iterator", "itertools.zip_longest", "itertools.pairwise"].contains "zip" &&
        (#[v, .bool f, .bool false, .ref TI, .ref TO] : Array Value)[0]? == some (rawInt T)) = true then _ else _) Q E s
    split
    · refine wpAny_bind (wpAny_rule ?_)
      show wpAny _ _ (setField (.ref z) 0 .none) Q E s
      exact wpAny_setField_rec hz (by simp) fun h' hz' hs' => hQ h' .none hz' (.inl rfl) hs'
    · exact wpAny_pure (hQ s.heap v hz hv (Heap.SameBut.refl _ _))
  unfold letOwnedTupleGo
  cases tg <;> first
    | exact main
    | exact wpAny_pure (hQ s.heap v hz hv (Heap.SameBut.refl _ _))
theorem iter_zip {Q : Value → Shared → Prop} (hz : ZSt s.heap z TI TO v f) (h : Q (.ref z) s) : wpAny (model prog w) A (pyIter (.ref z)) Q E s := by
  have hT : s.TypeIs (.ref z) "zip" := ⟨_, hz, rfl⟩
  refine wpAny_pyIter_slot hT F.slot_zip_iter (wpAny_call_entry F.slot_zip_iter hT F.entry_zip_iter ?_ (F.args_zip_iter_1 _))
  show wpAny _ _ (ret (.ref z)) _ _ s
  exact wpAny_pure ⟨_, rfl, "zip", _, hT, F.slot_zip_next.lookup, h⟩
/-! ## by kinds: true = a tuple, false = a list -/
def Sk (K : PySem.W.Frag) (k : Bool) (H : Hp) (a : Addr) (xs : List V) : Prop := match k with
  | true => SqT K H a xs
  | false => SqL K H a xs
def Ik (k : Bool) (it l : Addr) (h : Heap) (i : Nat) : Prop := match k with
  | true => h.IsTupleIter it l i
  | false => h.IsListIter it l i
def Lk (k : Bool) (l : Addr) (xs : Array Value) (h : Heap) : Prop := match k with
  | true => h.IsTuple l xs
  | false => h.IsList l xs
theorem src_k {k : Bool} {it l : Addr} {xs : Array Value} : Src (Ik k it l) (Lk k l xs) it l xs := by
  cases k
  · exact src_lst
  · exact src_tup
theorem obj_k {k : Bool} {it l : Addr} {h : Heap} {i : Nat} (e : Ik k it l h i) : ∃ o, h.get? it = some o ∧ ∀ v, o.data ≠ .cell v := by
  cases k <;> (obtain ⟨o, e, _, d⟩ := e; exact ⟨o, e, fun v q => by rw [d] at q; cases q⟩)
theorem inv_k {X : Cx} {pins : List (Addr × Obj)} {σ : L2.St} {H : Hp} {s : Shared} {k : Bool} {a : Addr} {xs : List V} (I : Inv X pins σ H s) (h : Sk X.K k H a xs) : ∃ its : List Value, Vals xs its ∧ Lk k a its.toArray s.heap ∧ a < s.heap.objs.size := by
  cases k
  · obtain ⟨its, rv, p, _⟩ := I.list h
    exact ⟨its, rv, p.isList, p.lt⟩
  · obtain ⟨its, rv, p, _⟩ := I.tuple h
    obtain ⟨o, ho, _⟩ := id p
    exact ⟨its, rv, p, Heap.lt_size ho⟩
theorem inj_k {X : Cx} {pins : List (Addr × Obj)} {σ : L2.St} {H : Hp} {s : Shared} {k : Bool} {a : Addr} {xs ys : List V} (I : Inv X pins σ H s) (h : Sk X.K k H a xs) (g : Sk X.K k H a ys) : xs = ys := by
  cases k
  · exact I.list_inj h g
  · exact I.tuple_inj h g
theorem call_k {k1 k2 : Bool} {l1 l2 : Addr} {xs ys : Array Value} {Q : Value → Shared → Prop} (hl1 : Lk k1 l1 xs s.heap) (hl2 : Lk k2 l2 ys s.heap)
    (h : ∀ h', ZSt h' (s.heap.objs.size + 4) (s.heap.objs.size + 2) (s.heap.objs.size + 3) .none false → IsPair h' (s.heap.objs.size + 2) (.ref s.heap.objs.size) (.ref (s.heap.objs.size + 1)) →
      IsPair h' (s.heap.objs.size + 3) .none .none → Ik k1 s.heap.objs.size l1 h' 0 → Ik k2 (s.heap.objs.size + 1) l2 h' 0 → (∀ c o, s.heap.get? c = some o → h'.get? c = some o) → Q (.ref (s.heap.objs.size + 4)) { s with heap := h' }) :
    wpAny (model prog w) A (call (.type "zip") [.ref l1, .ref l2]) Q E s := by
  cases k1 <;> cases k2
  · exact call_zip_2 hl1 hl2 fun h' a1 a2 a3 a4 a5 _ a6 => h h' a1 a2 a3 a4 a5 a6
  · have new_meets : Meets (Builtin.«zip.__new__» ⟨[.type "zip", .ref l1, .ref l2], []⟩) (fun _ R s => s.heap.IsList l1 xs ∧ s.heap.IsTuple l2 ys ∧
      R (.ok (.ret (.ref (s.heap.objs.size + 4)))) { s with heap := ((((s.heap.push { cls := .type "list_iterator", data := .fields #[.ref l1, .int 0 0] }).push { cls := .type "tuple_iterator", data := .fields #[.ref l2, .int 0 0] }).push { cls := .type "tuple", data := .seq #[.ref s.heap.objs.size, .ref (s.heap.objs.size + 1)] }).push { cls := .type "tuple", data := .seq #[.none, .none] }).push { cls := .type "zip", data := .fields #[.none, .bool false, .bool false, .ref (s.heap.objs.size + 2), .ref (s.heap.objs.size + 3)] } }) :=
      .of_wp fun prog w A R s h => by
        obtain ⟨hp, g, d, tk, os⟩ := s
        obtain ⟨hl1, hl2, h⟩ := h
        have hsub := sub_zip
        have q1 : Heap.IsList (Shared.heap ⟨hp, g, d, tk, os⟩) l1 xs := hl1
        have q2 : Heap.IsTuple (Shared.heap ⟨hp.push { cls := .type "list_iterator", data := .fields #[.ref l1, .int 0 0] }, g, d, tk, os⟩) l2 ys := by
          obtain ⟨o, e, r⟩ := hl2
          exact ⟨o, Heap.get?_push_of_some _ e, r⟩
        wp_walk using wpAny_pyIter_list q1, wpAny_pyIter_tuple q2
        simp only [Heap.size_push] at h ⊢
        exact ⟨_, rfl, h⟩
    refine callType_new F.called_zip (by decide) (F.typeCall_zip_2 _ _) (F.newCall_zip_2 _ _) (fun obj => F.args_object_init_3 obj _ _) F.entry_zip_new new_meets ⟨hl1, hl2, ?_⟩
    show _ ∧ _
    have up : ∀ {h : Heap} {c : Addr} {o p : Obj}, h.get? c = some o → (h.push p).get? c = some o := fun e => Heap.get?_push_of_some _ e
    have nw : ∀ {h : Heap} {n : Nat} {o : Obj}, h.objs.size = n → o.isFreed = false → (h.push o).get? n = some o := fun e f => by subst e; exact Heap.get?_push_size _ f
    have e1 := nw (h := s.heap) (o := { cls := .type "list_iterator", data := .fields #[.ref l1, .int 0 0] }) rfl rfl
    have e2 := nw (h := s.heap.push { cls := .type "list_iterator", data := .fields #[.ref l1, .int 0 0] }) (n := s.heap.objs.size + 1) (o := { cls := .type "tuple_iterator", data := .fields #[.ref l2, .int 0 0] }) (by simp only [Heap.size_push]) rfl
    exact ⟨⟨_, nw (by simp only [Heap.size_push]) rfl, rfl⟩, h _ (nw (by simp only [Heap.size_push]) rfl) (up (up (nw (by simp only [Heap.size_push]) rfl))) (up (nw (by simp only [Heap.size_push]) rfl)) ⟨_, up (up (up (up e1))), rfl, rfl⟩ ⟨_, up (up (up e2)), rfl, rfl⟩ fun c o x => up (up (up (up (up x))))⟩
  · exact call_tl hl1 hl2 fun h' a1 a2 a3 a4 a5 a6 => h h' a1 a2 a3 a4 a5 a6
  · exact call_zipT hl1 hl2 fun h' a1 a2 a3 a4 a5 _ a6 => h h' a1 a2 a3 a4 a5 a6
/-- the sequences at a and b, turn by turn, the items in new pairs -/
def Itk (K : PySem.W.Frag) (k1 k2 : Bool) (a b : Addr) : It :=
  ⟨fun i H => ∃ (us vs : List V) (x y : V), Sk K k1 H a us ∧ Sk K k2 H b vs ∧ us[i]? = some x ∧ vs[i]? = some y,
    fun i H v H' => ∃ T x y, v = .ref T ∧ H T = none ∧ H' = upd H T (.tup [x, y]) ∧ (∀ us, Sk K k1 H a us → us[i]? = some x) ∧ ∀ vs, Sk K k2 H b vs → vs[i]? = some y,
    fun i H => ∃ us vs : List V, Sk K k1 H a us ∧ Sk K k2 H b vs ∧ (us.length ≤ i ∨ vs.length ≤ i)⟩
theorem turn_k {P : Program} {w : World} {K : PySem.W.Frag} {tg : Expr} {k1 k2 : Bool} {a b z TI TO i1 i2 : Addr} (D : ZipApart z TI TO i1 i2 a b) :
    Turn P w K tg (Itk K k1 k2 a b) [z, TI, TO, i1, i2] z (fun i h => (∃ v f, ZSt h z TI TO v f ∧ Own v) ∧ IsPair h TI (.ref i1) (.ref i2) ∧ (∃ x y, IsPair h TO x y) ∧ Ik k1 i1 a h i ∧ Ik k2 i2 b h i) where
  mem := by simp
  obj := fun i h st c hc => by
    obtain ⟨⟨v, f, hz, hv⟩, hTI, ⟨x, y, hTO⟩, g1, g2⟩ := st
    simp only [List.mem_cons, List.not_mem_nil, or_false] at hc
    rcases hc with rfl | rfl | rfl | rfl | rfl
    · exact ⟨_, hz, fun v q => nomatch q⟩
    · exact ⟨_, hTI, fun v q => nomatch q⟩
    · exact ⟨_, hTO, fun v q => nomatch q⟩
    · exact obj_k g1
    · exact obj_k g2
  keep := fun i h h' st k => by
    obtain ⟨⟨v, f, hz, hv⟩, hTI, ⟨x, y, hTO⟩, h1, h2⟩ := st
    exact ⟨⟨v, f, k z (by simp) _ hz, hv⟩, k TI (by simp) _ hTI, ⟨x, y, k TO (by simp) _ hTO⟩, (src_k (xs := #[])).iat h1 fun o q => k i1 (by simp) o q, (src_k (xs := #[])).iat h2 fun o q => k i2 (by simp) o q⟩
  item := by
    intro X hP hw hK hc i pins s σ H E I hf st hg
    subst hP hw hK
    obtain ⟨⟨v, f, hz, hv⟩, hTI, ⟨x0, y0, hTO⟩, h1, h2⟩ := st
    obtain ⟨us, vs, x, y, hqx, hqy, hx, hy⟩ := hg
    obtain ⟨its, rv, p, _⟩ := inv_k I hqx
    obtain ⟨its2, rv2, p2, _⟩ := inv_k I hqy
    obtain ⟨u, hu, ru⟩ := rv.get hx
    obtain ⟨u2, hu2, ru2⟩ := rv2.get hy
    have zlt : z < s.heap.objs.size := Heap.lt_size hz
    refine py_item (src_k (xs := its.toArray)) (src_k (xs := its2.toArray)) D hz hv hTI hTO h1 h2 p p2 (x := u) (y := u2) (by simpa using hu) (by simpa using hu2) fun h' v' f' z' hv' TO' h1' h2' hT hsz hk => ?_
    obtain ⟨ta, tb, TO'⟩ := TO'
    refine ⟨_, rfl, go_any (s := { s with heap := h' }) z' hv' fun h'' v'' z'' hv'' sb => ?_⟩
    have hT2 : h''.get? s.heap.objs.size = some { cls := .type "tuple", data := .seq #[u, u2] } := (sb.2 _ (Nat.ne_of_gt zlt)).trans hT
    have new : ObjOk X.prog X.w (upd H s.heap.objs.size (.tup [x, y])) h'' s.heap.objs.size (.tup [x, y]) :=
      ⟨by show 2 ≤ sizeLine; decide, [u, u2], .cons ru (.cons ru2 .nil), ⟨_, hT2, rfl, _, rfl⟩⟩
    have I1 : Inv X pins σ (upd H s.heap.objs.size (.tup [x, y])) { s with heap := h'' } :=
      I.turnedNew (t' := s.toks) (ch := [z, TI, TO, i1, i2]) (fun c o hb q => (sb.2 c (fun q' => hb (by simp [q']))).trans (hk c o (fun q' => hb (by simp [q'])) (fun q' => hb (by simp [q'])) (fun q' => hb (by simp [q'])) (fun q' => hb (by simp [q'])) q)) hf (Nat.le_refl _) new
    refine ⟨.ref s.heap.objs.size, _, I1, rfl, ⟨_, x, y, rfl, I.hok.fresh (Nat.le_refl _), rfl, fun l hl => by rw [inj_k I hl hqx]; exact hx, fun l hl => by rw [inj_k I hl hqy]; exact hy⟩,
      ⟨⟨v'', _, z'', hv''⟩, (sb.2 _ D.TIz).trans (hk _ _ D.TIz D.TITO D.TIi1 D.TIi2 hTI), ⟨ta, tb, (sb.2 _ D.TOz).trans TO'⟩, (src_k (xs := #[])).iat h1' fun o q => (sb.2 _ D.i1z).trans q, (src_k (xs := #[])).iat h2' fun o q => (sb.2 _ D.i2z).trans q⟩, fun c hcm => ?_⟩
    have hlt : c < s.heap.objs.size := by
      have l1 := (src_k (xs := #[])).ilt h1
      have l2 := (src_k (xs := #[])).ilt h2
      have hcm2 := hcm
      simp only [List.mem_cons, List.not_mem_nil, or_false] at hcm2
      rcases hcm2 with rfl | rfl | rfl | rfl | rfl
      · exact zlt
      · exact Heap.lt_size hTI
      · exact Heap.lt_size hTO
      · exact l1
      · exact l2
    rw [upd_ne (Nat.ne_of_lt hlt)]
    exact (hf c hcm).1
  done := by
    intro X hP hw hK hc i pins s σ H E I hf st hg
    subst hP hw hK
    obtain ⟨⟨v, f, hz, hv⟩, hTI, ⟨x0, y0, hTO⟩, h1, h2⟩ := st
    obtain ⟨us, vs, hqx, hqy, hend⟩ := hg
    obtain ⟨its, rv, p, _⟩ := inv_k I hqx
    obtain ⟨its2, rv2, p2, _⟩ := inv_k I hqy
    have l1 := rv.length
    have l2 := rv2.length
    have he : its.toArray[i]? = none ∨ its2.toArray[i]? = none := hend.imp (fun q => by simp; omega) fun q => by simp; omega
    exact py_end (src_k (xs := its.toArray)) (src_k (xs := its2.toArray)) (I.ok.hd hc) D hz hv hTI hTO h1 h2 p p2 he fun h' hk => ⟨rfl, I.turnedL (t' := s.toks) (ch := [z, TI, TO, i1, i2]) (fun c o hb q =>
      hk c o (fun q' => hb (by simp [q'])) (fun q' => hb (by simp [q'])) (fun q' => hb (by simp [q'])) (fun q' => hb (by simp [q'])) q) hf⟩
  self := fun A i s Q E st h => by
    obtain ⟨⟨v, f, hz, hv⟩, _⟩ := st
    exact iter_zip hz h
def iZipK (K : PySem.W.Frag) (k1 k2 : Bool) (ta : L2.TA) : L2.TI := fun σ H R => ta σ H fun vs H1 => ∃ a b xs ys, vs = [.ref a, .ref b] ∧ Sk K k1 H1 a xs ∧ Sk K k2 H1 b ys ∧ R (Itk K k1 k2 a b) H1
theorem pi_zipK {X : Cx} {e e2 tg : Expr} {ta : TA} {p pos : Pos} (k1 k2 : Bool) (hg : Gl X "zip") (hm : X.mg "zip" = none) (ha : PA X [e, e2] ta)
    (hs : starEach [e, e2] X.env = (false, eval e X.env) :: starEach [e2] X.env := by rfl) (hpl : (backTo pos (starEach [e2] X.env)).any (·.1) = false := by rfl) :
    PI X tg (.Call (.Name "zip" p) [e, e2] [] pos) (iZipK X.K k1 k2 ta) := by
  refine ⟨fun pins s σ H R I h => ?_⟩
  refine Call_ (ld_blt I hg hm PyProof.Rows.boot_zip (PyProof.Rows.callWith_type1 (thn (ha.run pos pins s σ H _ I h) fun us s1 ⟨vs, H1, I1, r1, q1⟩ => ?_) hs hpl))
  obtain ⟨a, b, xs, ys, rfl, hqx, hqy, q⟩ := q1
  cases r1 with
  | cons r rr =>
    cases rr with
    | cons r' rr =>
      cases rr
      cases r
      cases r'
      obtain ⟨its, rv, p1, lt1⟩ := inv_k I1 hqx
      obtain ⟨its2, rv2, p2, lt2⟩ := inv_k I1 hqy
      refine call_k p1 p2 fun h' hz hTI hTO h1 h2 hk => iter_zip hz ?_
      have I2 : Inv X pins σ H1 { s1 with heap := h' } := I1.kept (t' := s1.toks) hk
      refine ⟨s1.heap.objs.size + 4, [s1.heap.objs.size + 4, s1.heap.objs.size + 2, s1.heap.objs.size + 3, s1.heap.objs.size, s1.heap.objs.size + 1], _, _, H1, rfl, I2, turn_k (PySem.W.ktu_apart s1.heap.objs.size a b lt1 lt2), ⟨⟨_, _, hz, .inl rfl⟩, hTI, ⟨_, _, hTO⟩, h1, h2⟩, fun c hcm => ?_, q⟩
      have hle : s1.heap.objs.size ≤ c := by
        simp only [List.mem_cons, List.not_mem_nil, or_false] at hcm
        rcases hcm with rfl | rfl | rfl | rfl | rfl <;> first | exact Nat.le_add_right _ _ | exact Nat.le_refl _
      exact I1.fpOk hle (I1.hok.fresh hle)
end ZK
namespace DL
open PySem PySem.Spec PyProof.Rows L2 ZK
/-! ## what is walked, where more than one value is held -/
def SndIS (K : Fg) (wi : TI) (w : WI) : Prop := ∀ (M : Amb) (σ : L2.St) (H : Hp) (ρ : Rho) (pv : List V) (pd : List D) (P : List D → Rho → Prop) (R : It → Hp → Prop),
  At K M σ H ρ pv pd → w ρ P → (∀ J H1 ρ1 vs dd ds, vs.length = dd.length → At K M σ H1 ρ1 (vs ++ pv) (dd ++ pd) → SrcOkS K J vs dd ds → P ds ρ1 → R J H1) → wi σ H R
structure DIS (X : Cx) (tg iter : Expr) (wi : TI) (w : WI) : Prop where
  pi : PI X tg iter wi
  sd : SndIS X.K wi w
def seqD : Bool → D → Option (List D)
  | true, .tuple xs => some xs
  | false, .list xs => some xs
  | _, _ => none
theorem seq_dv {K : Fg} {lc : Option Addr} {hd : Addr → Prop} {H : Hp} {k : Bool} {v : V} {d : D} {xs : List D} (h : Dv K lc (hide hd H) v d) (e : seqD k d = some xs) : ∃ a us, v = .ref a ∧ Sk K k H a us ∧ DvAll K lc (hide hd H) us xs := by
  cases k <;> cases d <;> first | (cases e; done) | skip
  · cases e
    cases h with
    | lst g1 g2 => exact ⟨_, _, rfl, .of (hide_le _ _ g1), g2⟩
  · cases e
    cases h with
    | tup g1 g2 => exact ⟨_, _, rfl, same_t hide_le g1, g2⟩
theorem srcS_zipK {K : Fg} {k1 k2 : Bool} {a b : Addr} {d1 d2 : D} {xs ys : List D} (e1 : seqD k1 d1 = some xs) (e2 : seqD k2 d2 = some ys) : SrcOkS K (Itk K k1 k2 a b) [.ref a, .ref b] [d1, d2] (zipD xs ys) := fun M σ H ρ pv pd A => by
  obtain ⟨ow, B, hp⟩ := A
  cases hp with
  | cons g1 hp =>
    cases hp with
    | cons g2 hp =>
      obtain ⟨a', us, ea, hS, g4⟩ := seq_dv g1 e1
      obtain ⟨b', vs, eb, hT, g6⟩ := seq_dv g2 e2
      cases ea
      cases eb
      refine ⟨fun i hi => ?_, us, vs, hS, hT, ?_⟩
      · rw [zipD_len] at hi
        have h1 : i < xs.length := by omega
        have h2 : i < ys.length := by omega
        obtain ⟨y, gy, gyd⟩ := g4.get (List.getElem?_eq_getElem h1)
        obtain ⟨w, gw, gwd⟩ := g6.get (List.getElem?_eq_getElem h2)
        refine ⟨⟨us, vs, y, w, hS, hT, gy, gw⟩, fun x H' hy => ?_⟩
        obtain ⟨T, z, z2, rfl, hT0, rfl, f1, f2⟩ := hy
        have ex : z = y := Option.some.inj ((f1 _ hS).symm.trans gy)
        have ex2 : z2 = w := Option.some.inj ((f2 _ hT).symm.trans gw)
        subst ex ex2
        obtain ⟨d1', d2', k1', k2', ee⟩ := zipD_get (List.getElem?_eq_getElem (by rw [zipD_len]; omega : i < (zipD xs ys).length))
        rw [ee]
        have : d1' = xs[i] := Option.some.inj (k1'.symm.trans (List.getElem?_eq_getElem h1))
        subst this
        have : d2' = ys[i] := Option.some.inj (k2'.symm.trans (List.getElem?_eq_getElem h2))
        subst this
        have e : Same H (upd H T (.tup [z, z2])) := same_new hT0
        refine ⟨ow, B.step (.of e) (B.cok.mono e), .cons (.tup (.of (new_vis B.hall hT0)) (.cons (gyd.mono (vis_of e)) (.cons (gwd.mono (vis_of e)) .nil))) ?_⟩
        exact DvAll.mono (vis_of e) (.cons g1 (.cons g2 hp))
      · rw [zipD_len, g4.length, g6.length]; omega
def wiZip (k1 k2 : Bool) (wr : WA) : WI := fun ρ P => wr ρ fun ds ρ1 => match ds with
  | [d1, d2] => ∃ xs ys, seqD k1 d1 = some xs ∧ seqD k2 d2 = some ys ∧ P (zipD xs ys) ρ1
  | _ => False
section
variable {X : Cx} {elt tg iter : Expr} {ifs : List Expr} {scope : Scope} {i k : Nat} {x y : Str} {pos : Pos} {wi : TI} {tt : TT} {te : TE} {wI : WI} {wt : WT} {we : WE} {wr : WA} {tr : TA} {e1 e2 : Expr} {es : List Expr} {kk : Nat} {tp p cp : Pos}
theorem dis_zip (k1 k2 : Bool) (hgz : Gl X "zip") (hmz : X.mg "zip" = none) (ha : DA X [e1, e2] tr wr) (hz : starEach [e1, e2] X.env = (false, eval e1 X.env) :: starEach [e2] X.env := by rfl) (hpl : (backTo cp (starEach [e2] X.env)).any (·.1) = false := by rfl) :
    DIS X tg (.Call (.Name "zip" p) [e1, e2] [] cp) (iZipK X.K k1 k2 tr) (wiZip k1 k2 wr) := ⟨pi_zipK k1 k2 hgz hmz ha.pa hz hpl, fun M σ H ρ pv pd P R A h q => by
  refine ha.sd M σ H ρ pv pd _ _ A h fun vs ds H1 ρ1 hl A1 h1 => ?_
  split at h1
  · next d1 d2 =>
    obtain ⟨xs, ys, q1, q2, h1⟩ := h1
    obtain ⟨ow, B, hp⟩ := A1
    obtain ⟨g1, g2⟩ := DvAll.split hl hp
    cases g1 with
    | cons ga g1 =>
      cases g1 with
      | cons gb g1 =>
        cases g1
        obtain ⟨a, us, rfl, hS, g4⟩ := seq_dv ga q1
        obtain ⟨b, vs, rfl, hT, g6⟩ := seq_dv gb q2
        exact ⟨a, b, us, vs, rfl, hS, hT, q _ _ _ [.ref a, .ref b] [d1, d2] _ rfl ⟨ow, B, .cons ga (.cons gb g2)⟩ (srcS_zipK q1 q2) h1⟩
  · exact h1.elim⟩
/-- a loop over it -/
theorem ds_forS {a : Expr} {g : TG} {wg : WG} {sts : List Stmt} {ts : TS} {w : WS} (hN : PassesOwn (model X.prog X.w) X.A X.env X.xe) (hc : X.calm = true) (hi : DIS X a iter wi wI) (hg : DG X a g wg) (hb : DSs X sts ts w) (hfs : ∀ x, foldedSetIterable iter X.env x = pure x := by intro _; rfl) :
    DS X (.For a iter sts [] pos) (tFor wi g ts) (wFor wI wg w) := ⟨ps_for hN hc hi.pi hg.pg hb.ps hfs, fun M σ H ρ pv pd DD HD A h F => by
  refine hi.sd M σ H ρ pv pd _ _ A h fun J H1 ρ1 vs dd ds hl A1 sk h1 => ?_
  obtain ⟨I, h0, hs, hd⟩ := h1
  refine ⟨fun i m σ' H' => ∃ ρ', At X.K M σ' H' ρ' (vs ++ pv) (dd ++ pd) ∧ I i ρ' ∧ i + m = ds.length, ⟨ds.length, ρ1, A1, h0, by omega⟩, ?_⟩
  rintro i m σ2 H2 ⟨ρ2, A2, i2, em⟩
  by_cases hi : i < ds.length
  · obtain ⟨g1, g2⟩ := (sk M σ2 H2 ρ2 pv pd A2).1 i hi
    refine .inr ⟨g1, fun σ' H' => ∃ ρ', At X.K M σ' H' ρ' (vs ++ pv) (dd ++ pd) ∧ I (i + 1) ρ', fun σ' H' ⟨ρ', A', i'⟩ => ⟨m - 1, by omega, ρ', A', i', by omega⟩, fun x H' hy => ?_⟩
    refine hg.sd M σ2 _ ρ2 (vs ++ pv) (dd ++ pd) x ds[i] _ _ (g2 x H' hy) (hs i ds[i] ρ2 (List.getElem?_eq_getElem hi) i2) fun σ' H'' ρ' A' h' => ?_
    exact hb.sd M σ' H'' ρ' _ _ _ _ A' h' ⟨fun σ' H' ρ' A' h' => ⟨ρ', A', h'⟩, F.rt, fun σ' H' ρ' A' h' => F.nx _ _ _ (A'.popA hl) h', fun σ' H' ρ' A' h' => ⟨ρ', A', h'⟩⟩
  · have ei : i = ds.length := by omega
    subst ei
    exact .inl ⟨(sk M σ2 H2 ρ2 pv pd A2).2, F.nx _ _ _ (A2.popA hl) (hd _ i2)⟩⟩
/-- a comprehension over it, one name -/
theorem df_compS (hc : X.calm = true) (hN : X.N.Nodup) (hi : DIS X tg iter wi wI) (ok : BlkOk X.N X.env.scope scope [(x, i)])
    (hg : ∀ (s : Shared) (H : Hp) (C : Addr) (cl : List (Str × Addr)) (fp : List Addr), PG (X.blk s H scope (compEnvC scope cl C X.env) fp) tg (gName i)) (ht' : ∀ (s : Shared) (H : Hp) (C : Addr) (cl : List (Str × Addr)) (fp : List Addr), DTb (X.blk s H scope (compEnvC scope cl C X.env) fp) ifs tt wt)
    (he' : ∀ (s : Shared) (H : Hp) (C : Addr) (cl : List (Str × Addr)) (fp : List Addr), DEb (X.blk s H scope (compEnvC scope cl C X.env) fp) elt te we) (hs : ∀ x, foldedSetIterable iter X.env x = pure x := by intro _; rfl) :
    DF X (.ListComp elt [⟨tg, iter, ifs, 0⟩] scope pos) (tLc wi (gName i) tt te [i]) (wComp wI i wt we) := by
  have ht := fun s H C cl fp => (ht' s H C cl fp).dt
  have he := fun s H C cl fp => (he' s H C cl fp).de
  have sT : SndT X.K tt wt := (ht X.s_0 (fun _ => none) 0 [] []).sd
  have sE : Snd X.K te we := (he X.s_0 (fun _ => none) 0 [] []).sd
  refine ⟨pe_lc (own := [(x, i)]) (g := gName i) hc hN hi.pi ok hg (fun s H C cl fp => (ht s H C cl fp).pt) (fun s H C cl fp => (he s H C cl fp).pe) hs, fun M σ H ρ pv pd P Q A h q => ?_⟩
  refine hi.sd M σ H ρ pv pd _ _ A h fun J H1 ρ1 vs dd ds hl A1 sk h1 => ?_
  obtain ⟨I, h0, hs, hd⟩ := h1
  intro D0 hD
  have w0 : ∀ σ' : L2.St, wipe σ' [i] = σ'.set i none := fun σ' => rfl
  have l0 : ∀ σ' : L2.St, (wipe σ' [i]).length = σ'.length := fun σ' => wipe_length _ _
  have A1' : At X.K M (wipe σ [i]) H1 (put ρ1 i .un) (vs ++ pv) (dd ++ pd) := A1.unset i (l0 σ) fun j hj => by rw [w0, List.getElem?_set_ne (fun z => hj z.symm)]
  refine ⟨fun j m H' => ∃ acc, At X.K (M.plus D0 acc) (wipe σ [i]) H' (put ρ1 i .un) (vs ++ pv) (dd ++ pd) ∧ I j acc ∧ j + m = ds.length, ⟨ds.length, [], ?_, h0, by omega⟩, ?_⟩
  · exact At.plus (vs := []) (ds := []) A1' rfl hD
  rintro j m H2 ⟨acc, A2, i2, em⟩
  by_cases hi : j < ds.length
  · obtain ⟨g1, g2⟩ := (sk _ _ H2 _ pv pd A2).1 j hi
    refine .inr ⟨g1, fun H' => ∃ acc, At X.K (M.plus D0 acc) (wipe σ [i]) H' (put ρ1 i .un) (vs ++ pv) (dd ++ pd) ∧ I (j + 1) acc, fun H' ⟨acc, A', i'⟩ => ⟨m - 1, by omega, acc, A', i', by omega⟩, fun y H' hy => ?_⟩
    have A3 : At X.K (M.plus D0 acc) ((wipe σ [i]).set i (some y)) H' (put ρ1 i (.val ds[j])) (vs ++ pv) (dd ++ pd) := by
      have := At.put (g2 y H' hy) i rfl rfl
      rwa [put_put] at this
    have back : ∀ {H' : Hp} {acc : List D}, At X.K (M.plus D0 acc) ((wipe σ [i]).set i (some y)) H' (put ρ1 i (.val ds[j])) (vs ++ pv) (dd ++ pd) → At X.K (M.plus D0 acc) (wipe σ [i]) H' (put ρ1 i .un) (vs ++ pv) (dd ++ pd) := fun {H' acc} A => by
      have := A.unset i (σ' := wipe σ [i]) (by rw [List.length_set]) fun k hk => by rw [List.getElem?_set_ne (fun z => hk z.symm)]
      rwa [put_put] at this
    refine ⟨by rw [w0, w0, List.set_set, List.set_set], ?_⟩
    refine sT _ _ _ _ _ _ _ _ A3 (hs j ds[j] acc (List.getElem?_eq_getElem hi) i2) fun b H3 ρ2 A4 h4 => ?_
    obtain ⟨rfl, h4⟩ := h4
    cases b with
    | true =>
      rw [if_pos rfl] at h4 ⊢
      refine sE _ _ _ _ _ _ _ _ A4 h4 fun z dz H4 ρ3 A5 h5 => ?_
      obtain ⟨rfl, hz, h5⟩ := h5
      obtain ⟨xs, e1, e2⟩ := A5.gh
      exact ⟨xs, e1, by rw [e2]; exact size_lt hz, _, back (A5.grow e1), h5⟩
    | false =>
      rw [if_neg Bool.false_ne_true] at h4 ⊢
      exact ⟨acc, back A4, h4⟩
  · have ei : j = ds.length := by omega
    subst ei
    refine .inl ⟨(sk _ _ H2 _ pv pd A2).2, q D0 acc H2 _ ?_ (hd acc i2)⟩
    have := (A2.popA hl).unset i (σ' := σ) (l0 σ).symm fun k hk => by rw [w0, List.getElem?_set_ne (fun z => hk z.symm)]
    rwa [put_put] at this
/-- two names -/
theorem df_comp2S (hik : i ≠ k) (hc : X.calm = true) (hN : X.N.Nodup) (hi : DIS X tg iter wi wI) (ok : BlkOk X.N X.env.scope scope [(x, i), (y, k)])
    (hg : ∀ (s : Shared) (H : Hp) (C : Addr) (cl : List (Str × Addr)) (fp : List Addr), PG (X.blk s H scope (compEnvC scope cl C X.env) fp) tg (gPair X.K i k)) (ht' : ∀ (s : Shared) (H : Hp) (C : Addr) (cl : List (Str × Addr)) (fp : List Addr), DTb (X.blk s H scope (compEnvC scope cl C X.env) fp) ifs tt wt)
    (he' : ∀ (s : Shared) (H : Hp) (C : Addr) (cl : List (Str × Addr)) (fp : List Addr), DEb (X.blk s H scope (compEnvC scope cl C X.env) fp) elt te we) (hs : ∀ x, foldedSetIterable iter X.env x = pure x := by intro _; rfl) :
    DF X (.ListComp elt [⟨tg, iter, ifs, 0⟩] scope pos) (tLc wi (gPair X.K i k) tt te [i, k]) (wComp2 wI i k wt we) := by
  have ht := fun s H C cl fp => (ht' s H C cl fp).dt
  have he := fun s H C cl fp => (he' s H C cl fp).de
  have sT : SndT X.K tt wt := (ht X.s_0 (fun _ => none) 0 [] []).sd
  have sE : Snd X.K te we := (he X.s_0 (fun _ => none) 0 [] []).sd
  refine ⟨pe_lc (own := [(x, i), (y, k)]) (g := gPair X.K i k) hc hN hi.pi ok hg (fun s H C cl fp => (ht s H C cl fp).pt) (fun s H C cl fp => (he s H C cl fp).pe) hs, fun M σ H ρ pv pd P Q A h q => ?_⟩
  exact hi.sd M σ H ρ pv pd _ _ A h fun J H1 ρ1 vs dd ds hl A1 sk h1 => comp2_core hik hl sT sE sk A1 h1 q
end
/-! ## x[b] as a target, x a list of the def's own -/
def wgSub (i : Nat) (wk : WE) : WG := fun d ρ P => match look ρ i with
  | .own _ => wk ρ fun k ρ2 => match k, look ρ2 i with
    | .int k, .own ds => ∃ j, ixN ds.length k = some j ∧ P (put ρ2 i (.own (ds.set j d)))
    | _, _ => False
  | _ => False
theorem dg_sub {X : Cx} {i : Nat} {x : Str} {b : Expr} {tb : TE} {wb : WE} {px p2 : Pos} (hk : DE X b tb wb) (hg : PG X (.Subscript (.Name x px) b p2) (gSub (tVar i) tb rSetL)) : DG X (.Subscript (.Name x px) b p2) (gSub (tVar i) tb rSetL) (wgSub i wb) := ⟨hg, fun M σ H ρ pv pd v d P Q A h q => by
  unfold wgSub at h
  split at h
  · next ds0 e0 =>
    have A' := A
    obtain ⟨ow0, B0, hp0⟩ := A
    obtain ⟨p, xs0, k1, k2, k3, k4⟩ := B0.own i ds0 e0
    refine ⟨.ref p, k2, ?_⟩
    refine hk.sd M σ H ρ _ _ _ _ A' h fun kk dk H2 ρ2 A2 h2 => ?_
    obtain ⟨ow2, B2, hp2⟩ := A2
    cases hp2 with
    | cons gk hp2 =>
      cases hp2 with
      | cons gv hp2 =>
        split at h2
        · next k ds e2 =>
          cases gk
          obtain ⟨j, ej, hnx⟩ := h2
          obtain ⟨q2, xs, l1, l2, l3, l4⟩ := B2.own i ds e2
          have : q2 = p := by
            rw [k2] at l2
            cases l2; rfl
          subst this
          obtain ⟨C, vis⟩ := B2.owset e2 l1 (l4.set gv j)
          exact ⟨q2, xs, k, j, rfl, rfl, l3, by rw [l4.length]; exact ej, q _ _ _ ⟨ow2, C, hp2.mono vis⟩ hnx⟩
        · exact h2.elim
  · exact h.elim⟩
end DL

namespace DL
open PySem PySem.Spec PyProof.Rows L2
/-! ## owned lists that change their names -/
section
variable {K : Fg} {M : Amb} {H H' : Hp} {σ : L2.St} {ρ : Rho} {pv : List V} {pd : List D} {ow : Nat → Option Addr} {p : Addr} {ds : List D} {i : Nat}
theorem hdO_rel (hp : ow i = some p) : hdO (M.plus p ds) (owOff ow i) = hdO M ow := funext fun b => propext ⟨fun z => by
  rcases z with z | ⟨j, z⟩ | ⟨es, z⟩
  · exact .inl z
  · exact .inr (.inl ⟨j, (owOff_some z).2⟩)
  · rcases List.mem_cons.mp z with z | z
    · cases z; exact .inr (.inl ⟨i, hp⟩)
    · exact .inr (.inr ⟨es, z⟩), fun z => by
  rcases z with z | ⟨j, z⟩ | ⟨es, z⟩
  · exact .inl z
  · by_cases c : j = i
    · subst c
      rw [hp] at z; cases z
      exact .inr (.inr ⟨ds, List.mem_cons_self ..⟩)
    · exact .inr (.inl ⟨j, by rw [owOff_ne ow c]; exact z⟩)
  · exact .inr (.inr ⟨es, List.mem_cons_of_mem _ z⟩)⟩
theorem AtW.rel (A : AtW K M σ H ρ ow) (hi : look ρ i = .own ds) (hp : ow i = some p) : AtW K (M.plus p ds) σ H (DL.put ρ i .un) (owOff ow i) where
  evo := A.evo
  cok := A.cok
  sub := A.sub
  all := A.all
  len := by rw [put_length]; exact A.len
  val := fun j d hj => by
    have c : j ≠ i := fun e => by
      subst e
      rcases look_put ρ j .un with z | z <;> (rw [z] at hj; cases hj)
    rw [look_put_ne _ _ _ _ c] at hj
    rw [hdO_rel hp]
    exact A.val j d hj
  own := fun j es hj => by
    have c : j ≠ i := fun e => by
      subst e
      rcases look_put ρ j .un with z | z <;> (rw [z] at hj; cases hj)
    rw [look_put_ne _ _ _ _ c] at hj
    obtain ⟨q, xs, h1, h2, h3, h4⟩ := A.own j es hj
    rw [hdO_rel hp]
    exact ⟨q, xs, by rw [owOff_ne ow c]; exact h1, h2, h3, h4⟩
  fre := fun j q h => A.fre j q (owOff_some h).2
  inj := fun j k q h1 h2 => A.inj j k q (owOff_some h1).2 (owOff_some h2).2
  gho := fun q es h => by
    rw [hdO_rel hp]
    rcases List.mem_cons.mp h with h | h
    · cases h
      obtain ⟨q, xs, h1, h2, h3, h4⟩ := A.own i _ hi
      rw [hp] at h1; cases h1
      exact ⟨(A.fre i _ hp).1, fun j z => (owOff_some z).1 (A.inj j i _ (owOff_some z).2 hp), xs, h3, h4⟩
    · obtain ⟨h1, h2, h3⟩ := A.gho q es h
      exact ⟨h1, fun j z => h2 j (owOff_some z).2, h3⟩
  gnd := by
    show (p :: M.gh.map (·.1)).Nodup
    refine List.nodup_cons.mpr ⟨fun z => ?_, A.gnd⟩
    obtain ⟨⟨q, es⟩, h1, h2⟩ := List.mem_map.mp z
    cases h2
    exact (A.gho _ es h1).2.1 i hp
theorem At.rel (A : At K M σ H ρ pv pd) (hi : look ρ i = .own ds) : ∃ p, σ[i]? = some (some (.ref p)) ∧ At K (M.plus p ds) σ H (DL.put ρ i .un) pv pd := by
  obtain ⟨ow, A, h⟩ := A
  obtain ⟨p, xs, h1, h2, h3, h4⟩ := A.own i ds hi
  refine ⟨p, h2, _, A.rel hi h1, ?_⟩
  have e : hide (hdO (M.plus p ds) (owOff ow i)) H = hide (hdO M ow) H := by rw [hdO_rel h1]
  show DvAll K M.lc (hide (hdO (M.plus p ds) (owOff ow i)) H) pv pd
  rw [e]; exact h
end
section
variable {X : Cx} {a b : Expr} {tb : TE} {pos : Pos}
/-- x, y = y, a new list -/
def wMov (i j : Nat) (wf : WF) : WS := fun DD ρ => match look ρ j with
  | .own _ => wf ρ fun es ρ1 => match look ρ1 j with
    | .own ds => DD.nx (put (put (put ρ1 j .un) i (.own ds)) j (.own es))
    | _ => False
  | _ => False
theorem ds_mov {i j : Nat} {x y : Str} {px py pt p2 : Pos} {kt k2 pt2} {wf : WF} (hc : X.calm = true) (hN : X.N.Nodup) (hb : DF X b tb wf) (hi : X.N[i]? = some x := by rfl) (hj : X.N[j]? = some y := by rfl) (hij : i ≠ j := by decide)
    (hv : Vis X.env.scope y := by first | exact Or.inl rfl | exact Or.inr (Or.inl rfl) | exact Or.inr (Or.inr rfl)) (hd : (y == ("__debug__" : Str)) = false := by decide) (hcd : (y == ("__classdict__" : Str)) = false := by decide)
    (na : starEach [.Name y p2, b] X.env = (false, eval (.Name y p2) X.env) :: starEach [b] X.env := by rfl) (nb : starEach [b] X.env = (false, eval b X.env) :: starEach [] X.env := by rfl)
    (hx : X.env.scope.names.lookup x = some .local := by rfl) (hy : X.env.scope.names.lookup y = some .local := by rfl)
    (hw : swappedStores [.Tuple [.Name x px, .Name y py] kt pt] (.Tuple [.Name y p2, b] k2 pt2) X.env = pure (some [x, y]) := by rfl)
    (hs : swapsWithSole [.Tuple [.Name x px, .Name y py] kt pt] (.Tuple [.Name y p2, b] k2 pt2) pos.line X.env = pure false := by rfl) :
    DS X (.Assign [.Tuple [.Name x px, .Name y py] kt pt] (.Tuple [.Name y p2, b] k2 pt2) pos) (tPar i j (tCons (tVar j) (tCons tb tNil))) (wMov i j wf) := ⟨ps_par hc hN hi hj hij hx hy (pa_cons (pe_var hj hv hd hcd) (pa_cons hb.pe pa_nil nb) na) hw hs, fun M σ H ρ pv pd DD HD A h F => by
  unfold wMov at h
  split at h
  · next ds0 e0 =>
    obtain ⟨p0, s0, -⟩ := A.rel e0
    refine ⟨.ref p0, s0, ?_⟩
    refine hb.sd M σ H ρ pv pd _ _ A h fun q es H1 ρ1 A1 h1 => ?_
    split at h1
    · next ds e1 =>
      obtain ⟨p, s1, A2⟩ := A1.rel e1
      rw [s0] at s1; cases s1
      refine ⟨.ref p0, .ref q, rfl, ?_⟩
      have A3 := A2.keep i
      exact F.nx _ _ _ (A3.keep j) h1
    · exact h1.elim
  · exact h.elim⟩
/-- x, y = y, x -/
def wSwp (i j : Nat) : WS := fun DD ρ => match look ρ i, look ρ j with
  | .own ds, .own es => DD.nx (put (put (put (put ρ j .un) i .un) j (.own ds)) i (.own es))
  | _, _ => False
theorem ds_swp {i j : Nat} {x y : Str} {px py pt p1 p2 : Pos} {kt k2 pt2} (hc : X.calm = true) (hN : X.N.Nodup) (hi : X.N[i]? = some x := by rfl) (hj : X.N[j]? = some y := by rfl) (hij : i ≠ j := by decide)
    (hv : Vis X.env.scope y := by first | exact Or.inl rfl | exact Or.inr (Or.inl rfl) | exact Or.inr (Or.inr rfl)) (hd : (y == ("__debug__" : Str)) = false := by decide) (hcd : (y == ("__classdict__" : Str)) = false := by decide)
    (hv' : Vis X.env.scope x := by first | exact Or.inl rfl | exact Or.inr (Or.inl rfl) | exact Or.inr (Or.inr rfl)) (hd' : (x == ("__debug__" : Str)) = false := by decide) (hcd' : (x == ("__classdict__" : Str)) = false := by decide)
    (na : starEach [.Name y p2, .Name x p1] X.env = (false, eval (.Name y p2) X.env) :: starEach [.Name x p1] X.env := by rfl) (nb : starEach [.Name x p1] X.env = (false, eval (.Name x p1) X.env) :: starEach [] X.env := by rfl)
    (hx : X.env.scope.names.lookup x = some .local := by rfl) (hy : X.env.scope.names.lookup y = some .local := by rfl)
    (hw : swappedStores [.Tuple [.Name x px, .Name y py] kt pt] (.Tuple [.Name y p2, .Name x p1] k2 pt2) X.env = pure (some [x, y]) := by rfl)
    (hs : swapsWithSole [.Tuple [.Name x px, .Name y py] kt pt] (.Tuple [.Name y p2, .Name x p1] k2 pt2) pos.line X.env = pure false := by rfl) :
    DS X (.Assign [.Tuple [.Name x px, .Name y py] kt pt] (.Tuple [.Name y p2, .Name x p1] k2 pt2) pos) (tPar i j (tCons (tVar j) (tCons (tVar i) tNil))) (wSwp i j) := ⟨ps_par hc hN hi hj hij hx hy (pa_cons (pe_var hj hv hd hcd) (pa_cons (pe_var hi hv' hd' hcd') pa_nil nb) na) hw hs, fun M σ H ρ pv pd DD HD A h F => by
  unfold wSwp at h
  split at h
  · next ds es e1 e2 =>
    obtain ⟨q, s2, A2⟩ := A.rel e2
    obtain ⟨p, s1, A1⟩ := A2.rel (i := i) (ds := ds) (by rw [look_put_ne _ _ _ _ hij]; exact e1)
    refine ⟨.ref q, s2, .ref p, s1, .ref q, .ref p, rfl, ?_⟩
    rw [List.set_comm _ _ hij]
    exact F.nx _ _ _ ((A1.keep j).keep i) h
  · exact h.elim⟩
end
/-! ## divmod -/
abbrev rDivmod : List V → Hp → VK → Prop := fun xs H Q => ∃ i j, xs = [.int i, .int j] ∧ divOk j ∧ ∀ p, H p = none → Q (.ref p) (upd H p (.tup [.int (i.fdiv j), .int (i.fmod j)]))
theorem call_divmodF {X : Cx} : CallR X (.builtin "divmod") rDivmod := by
  intro pins s σ H xs us Q I r h
  obtain ⟨i, j, rfl, ⟨h1, h2⟩, q⟩ := h
  obtain ⟨u, w', rfl, ⟨t, rfl⟩, ⟨t', rfl⟩⟩ := vals2 r
  refine divmod_int h1 ?_ (.inl (PyProof.noPylong_of_log2 h2))
  have hn : H s.heap.objs.size = none := I.hok.fresh (Nat.le_refl _)
  refine ⟨.ref s.heap.objs.size, _, ?_, rfl, q _ hn⟩
  refine I.laid (fun b o e => Heap.get?_push_of_some _ e) (Nat.le_refl _) ⟨by simp only [List.length_cons, List.length_nil]; rw [sizeLine_eq]; decide, [.int (i.fdiv j) s.toks, .int (i.fmod j) (s.toks + 1)], .cons ⟨_, rfl⟩ (.cons ⟨_, rfl⟩ .nil), ?_⟩
  exact ⟨_, Heap.get?_push_size s.heap rfl, rfl, 0, rfl⟩
def bDivmod : List D → (D → Prop) → Prop
  | [.int i, .int j], P => divOk j ∧ P (.tuple [.int (i.fdiv j), .int (i.fmod j)])
  | _, _ => False
theorem snc_divmod {K : Fg} : SnC K rDivmod bDivmod := fun lc hd H xs as P Q al hx h q => by
  unfold bDivmod at h
  split at h
  · obtain ⟨x, y, rfl, g, g'⟩ := da2 hx
    cases g
    cases g'
    exact ⟨_, _, rfl, h.1, fun l hl => q _ _ _ (same_new hl) (.tup (.of (new_vis al hl)) (.cons (.int _) (.cons (.int _) .nil))) h.2⟩
  · exact h.elim
end DL

namespace DL
open PySem PySem.Spec PyProof.Rows L2
/-! ## other = X if c else line; for k in range(j): total = .. line[k] .. other[k] .. (line is owned) -/
section
variable {K : Fg} {M : Amb} {H H' : Hp} {σ : L2.St} {ρ : Rho} {pv : List V} {pd : List D} {ds : List D} {i : Nat}
theorem At.lego (A : At K M σ H ρ pv pd) (hi : look ρ i = .own ds) : ∃ p, σ[i]? = some (some (.ref p)) ∧ At K M σ H (DL.put ρ i (.val (.list ds))) (.ref p :: pv) (.list ds :: pd) := by
  obtain ⟨ow, A, hp⟩ := A
  obtain ⟨p, xs, h1, h2, h3, h4⟩ := A.own i ds hi
  have np : ¬ hdO M (owOff ow i) p := fun z => by
    rcases z with z | ⟨j, z⟩ | ⟨es, z⟩
    · exact A.ne (A.fre i p h1).1 z
    · exact (owOff_some z).1 (A.inj j i p (owOff_some z).2 h1)
    · exact (A.gho p es z).2.1 i h1
  have dv : Dv K M.lc (hide (hdO M (owOff ow i)) H) (.ref p) (.list ds) := .lst (hide_some.mpr ⟨np, h3⟩) (h4.mono (vis_off ow i H))
  have A0 : AtW K M σ H (DL.put ρ i (.val (.list ds))) (owOff ow i) := by
    have B := A.put i dv
    have e0 : σ.set i (some (.ref p)) = σ := by
      obtain ⟨hlt, he⟩ := List.getElem?_eq_some_iff.mp h2
      rw [← he]
      exact List.set_getElem_self hlt
    rw [e0] at B
    exact B
  exact ⟨p, h2, _, A0, .cons dv (hp.mono (vis_off ow i H))⟩
theorem At0.learn (A : At0 K M σ H ρ pv pd) {v : V} {d : D} (h : σ[i]? = some (some v)) (g : Dv K M.lc (hide (h0 M) H) v d) : At0 K M σ H (DL.put ρ i (.val d)) pv pd := by
  have eo : owOff (fun _ => none) i = fun _ => none := funext fun j => by unfold owOff; split <;> rfl
  have B := A.a.put i (v := v) (d := d) (by rw [eo]; exact g)
  have e0 : σ.set i (some v) = σ := by
    obtain ⟨hlt, he⟩ := List.getElem?_eq_some_iff.mp h
    rw [← he]
    exact List.set_getElem_self hlt
  rw [e0, eo] at B
  exact ⟨B, A.p⟩
theorem At.evo (A : At K M σ H ρ pv pd) (e : Evo M.lc H H') (c : Cok K M.lc M.hc H') : At K M σ H' ρ pv pd := At.step A e c
theorem noOwn_val {ρ : Rho} {i : Nat} {d : D} (no : NoOwn ρ) : NoOwn (DL.put ρ i (.val d)) := fun j ds z => by
  by_cases c : j = i
  · subst c
    rcases look_put ρ j (.val d) with e | e <;> (rw [e] at z; cases z)
  · rw [look_put_ne _ _ _ _ c] at z
    exact no j ds z
theorem put_lk : ∀ {ρ : Rho} {i : Nat} {s : Slot}, look ρ i = s → DL.put ρ i s = ρ
  | [], _, _, _ => rfl
  | t :: r, 0, s, h => by cases h; rfl
  | t :: r, n + 1, s, h => by
    show t :: DL.put r n s = t :: r
    rw [put_lk (ρ := r) h]
theorem set_oth {i j : Nat} {v : Option V} (h : j ≠ i) : (σ.set i v)[j]? = σ[j]? := by rw [List.getElem?_set, if_neg (fun z => h z.symm)]
end
/-- the names of the loop's state -/
def aliR (ρ : Rho) (O T Kk : Nat) (x : Int) : Rho := put (put (put ρ O .un) T (.val (.int x))) Kk .un
def wAli (L O T J Kk : Nat) (wt : WT) (wa we : WE) : WS := fun DD ρ => ∃ (ln : List D) (n : Nat) (F : Nat → Int) (o : D),
  look ρ L = .own ln ∧ look ρ J = .val (.int n) ∧ n ≤ 100000 ∧ O < ρ.length ∧ NoOwn (put ρ L (.val (.list ln))) ∧
  (wt (put ρ L (.val (.list ln))) fun b _ => if b = true then wa (put ρ L (.val (.list ln))) (fun d _ => d = o) else o = .list ln) ∧
  look ρ T = .val (.int (F 0)) ∧
  (∀ k : Nat, k < n → we (put (put (put (aliR ρ O T Kk (F k)) Kk (.val (.int k))) L (.val (.list ln))) O (.val o)) fun r _ => r = .int (F (k + 1))) ∧
  DD.nx (aliR ρ O T Kk (F n))
section
variable {K : Fg} {tt : TT} {wt : WT} {ta te : TE} {wa we : WE} {L O T J Kk : Nat}
theorem snds_ali (d1 : L ≠ O) (d2 : L ≠ T) (d3 : L ≠ Kk) (d4 : O ≠ T) (d5 : O ≠ Kk) (d6 : T ≠ Kk) (d7 : J ≠ O) (ht : SndT K tt wt) (ha : Snd K ta wa) (he : Snd K te we) :
    SndS K (tSeq (tAsg (tIf tt ta (tVar L)) (gName O)) (tFor (iRng1 (tCons (tVar J) tNil)) (gName Kk) (tAsg te (gName T)))) (wAli L O T J Kk wt wa we) := fun M σ H ρ pv pd DD HD A h F0 => by
  obtain ⟨ln, n, F, o, hL, hJ, hn, hO, no, hw, hT, hs, hnx⟩ := h
  have hOL : ∀ ds, look ρ O ≠ .own ds := fun ds z => no O ds (by rw [look_put_ne _ _ _ _ (fun z => d1 z.symm)]; exact z)
  obtain ⟨p, sp, AV⟩ := A.lego hL
  have AV0 := AV.zero no
  have hpv : Dv K M.lc (hide (h0 M) H) (.ref p) (.list ln) := by
    cases AV0.p with
    | cons g1 g2 => exact g1
  -- the loop
  have loop : ∀ (vo : V) (H2 : Hp), Evo M.lc H H2 → Cok K M.lc M.hc H2 → Dv K M.lc (hide (h0 M) H2) vo o → tFor (iRng1 (tCons (tVar J) tNil)) (gName Kk) (tAsg te (gName T)) HD (σ.set O (some vo)) H2 := fun vo H2 e2 c2 gv => by
    have B0 : At K M (σ.set O (some vo)) H2 (put ρ O .un) pv pd := (A.evo e2 c2).unset O (by rw [List.length_set]) fun j hj => set_oth hj
    have B : At K M (σ.set O (some vo)) H2 (aliR ρ O T Kk (F 0)) pv pd := by
      unfold aliR
      rw [put_lk (ρ := put ρ O .un) (i := T) (by rw [look_put_ne _ _ _ _ (fun z => d4 z.symm)]; exact hT)]
      exact B0.unset Kk rfl fun j _ => rfl
    have hvJ : ∃ w, (σ.set O (some vo))[J]? = some (some w) ∧ w = .int n := by
      obtain ⟨ow, AW, _⟩ := A
      obtain ⟨w, h1, h2⟩ := AW.val J _ hJ
      refine ⟨w, by rw [set_oth d7]; exact h1, ?_⟩
      cases h2; rfl
    obtain ⟨w, hw1, rfl⟩ := hvJ
    refine ⟨_, hw1, (n : Int), rfl, by omega, by omega, ?_⟩
    rw [Int.toNat_natCast]
    refine ⟨fun i m σ' H' => m + i = n ∧ At K M σ' H' (aliR ρ O T Kk (F i)) pv pd ∧ σ'[O]? = some (some vo) ∧ Dv K M.lc (hide (h0 M) H') vo o, ⟨n, by omega, B, ?_, gv⟩, ?_⟩
    · have hlt : O < σ.length := by
        obtain ⟨ow, AW, _⟩ := A
        rw [AW.len]; exact hO
      rw [List.getElem?_set, if_pos rfl, if_pos hlt]
    rintro i m σ' H' ⟨em, A', so, go⟩
    by_cases hi : i < n
    · refine .inr ⟨hi, fun σ3 H3 => At K M σ3 H3 (aliR ρ O T Kk (F (i + 1))) pv pd ∧ σ3[O]? = some (some vo) ∧ Dv K M.lc (hide (h0 M) H3) vo o, fun σ3 H3 h3 => ⟨m - 1, by omega, by omega, h3⟩, fun x H3 hy => ?_⟩
      obtain ⟨hH, rfl⟩ := hy
      rw [hH]
      have ei : (0 : Int) + (i : Nat) = (i : Nat) := by omega
      rw [ei]
      -- the name k
      have A1 : At K M (σ'.set Kk (some (.int i))) H' (put (aliR ρ O T Kk (F i)) Kk (.val (.int i))) pv pd := by
        obtain ⟨ow, W, hp⟩ := A'
        exact At.put ⟨ow, W, .cons (.int _) hp⟩ Kk rfl rfl
      have lL : look (put (aliR ρ O T Kk (F i)) Kk (.val (.int i))) L = .own ln := by
        unfold aliR
        rw [look_put_ne _ _ _ _ d3, look_put_ne _ _ _ _ d3, look_put_ne _ _ _ _ d2, look_put_ne _ _ _ _ d1]; exact hL
      obtain ⟨p', sp', AV'⟩ := A1.lego lL
      have noV : NoOwn (put (put (aliR ρ O T Kk (F i)) Kk (.val (.int i))) L (.val (.list ln))) := by
        unfold aliR
        rw [put_put_ne (fun z => d3 z.symm), put_put_ne (fun z => d3 z.symm), put_put_ne (fun z => d2 z.symm), put_put_ne (fun z => d1 z.symm)]
        exact noOwn_val (noOwn_put (noOwn_val (noOwn_put no)))
      have AV1 := (AV'.zero noV).learn (i := O) (v := vo) (d := o) (by rw [set_oth d5]; exact so) go
      show te (σ'.set Kk (some (.int i))) H' _
      refine snd_evo he AV1 (noOwn_val noV) (hs i hi) fun v d H4 ρ4 e4 c4 gd hd => ?_
      subst hd
      cases gd
      show At K M _ _ _ _ _ ∧ _
      have A2 : At K M ((σ'.set Kk (some (.int i))).set T (some (.int (F (i + 1))))) H4 (put (put (aliR ρ O T Kk (F i)) Kk (.val (.int i))) T (.val (.int (F (i + 1))))) pv pd := by
        obtain ⟨ow, W, hp⟩ := A1.evo e4 c4
        exact At.put ⟨ow, W, .cons (.int _) hp⟩ T rfl rfl
      refine ⟨?_, by rw [set_oth d4, set_oth d5]; exact so, ?_⟩
      · have A3 := A2.unset Kk rfl fun j _ => rfl
        unfold aliR at A3 ⊢
        rw [put_put, put_put_ne (ρ := put (put ρ O .un) T (.val (.int (F i)))) (fun z => d6 z.symm), put_put, put_put] at A3
        exact A3
      · exact go.mono (AV1.a.vis e4 |> fun h => h)
    · have : i = n := by omega
      subst this
      exact .inl ⟨Nat.le_refl _, F0.nx _ _ _ A' hnx⟩
  show tIf tt ta (tVar L) σ H _
  refine sndt_evo ht AV0 no hw fun b H1 ρ1 e1 c1 hb => ?_
  cases b with
  | true =>
    rw [if_pos rfl] at hb ⊢
    refine snd_evo ha (AV0.step e1 c1) no hb fun v d H2 ρ2 e2 c2 gd hd => ?_
    subst hd
    exact loop v H2 (e1.trans e2) c2 gd
  | false =>
    rw [if_neg Bool.false_ne_true] at hb ⊢
    subst hb
    exact ⟨_, sp, loop (.ref p) H1 e1 c1 (hpv.mono (AV0.a.vis e1))⟩
theorem dss_ali {X : Cx} {L O T J Kk : Nat} {c e e0 e2 tg1 tg2 tg3 it2 : Expr} {q1 q2 q3 q4 : Pos} {sts : List Stmt} {tt : TT} {wt : WT} {ta te : TE} {wa we : WE} {tu : TS} {u w1 w2 : WS} (h1 : DS X (.Assign [tg1] (.IfExp c e e0 q1) q2) (tAsg (tIf tt ta (tVar L)) (gName O)) w1) (h2 : DS X (.For tg2 it2 [.Assign [tg3] e2 q3] [] q4) (tFor (iRng1 (tCons (tVar J) tNil)) (gName Kk) (tAsg te (gName T))) w2)
    (ht : DT X c tt wt) (ha : DE X e ta wa) (he : DE X e2 te we) (hu : DSs X sts tu u) (d1 : L ≠ O := by decide) (d2 : L ≠ T := by decide) (d3 : L ≠ Kk := by decide) (d4 : O ≠ T := by decide) (d5 : O ≠ Kk := by decide) (d6 : T ≠ Kk := by decide) (d7 : J ≠ O := by decide) :
    DSs X (.Assign [tg1] (.IfExp c e e0 q1) q2 :: .For tg2 it2 [.Assign [tg3] e2 q3] [] q4 :: sts) (tSeq (tAsg (tIf tt ta (tVar L)) (gName O)) (tSeq (tFor (iRng1 (tCons (tVar J) tNil)) (gName Kk) (tAsg te (gName T))) tu)) (wSeq (wAli L O T J Kk wt wa we) u) := ⟨pss_cons h1.ps (pss_cons h2.ps hu.ps), fun M σ H ρ pv pd DD HD A h F =>
  snds_seq (snds_ali d1 d2 d3 d4 d5 d6 d7 ht.sd ha.sd he.sd) hu.sd M σ H ρ pv pd DD HD A h F⟩
end
end DL

namespace PySem
open Sem (wp)
open AutoSeq1 (wpAny_loadPart')
theorem meets_enum_newT (l : Addr) (items : Array Value) :
    Meets (Builtin.«enumerate.__new__» ⟨[.type "enumerate", .ref l], []⟩) (fun _ R s => s.heap.IsTuple l items ∧
      R (.ok (.ret (.ref (s.heap.push { cls := .type "tuple_iterator", data := .fields #[.ref l, .int 0 0] }).objs.size)))
        { s with heap := (s.heap.push { cls := .type "tuple_iterator", data := .fields #[.ref l, .int 0 0] }).push { cls := .type "enumerate", data := .fields #[.none, .bool false, .ref s.heap.objs.size, rawInt 0, .none, .none] } }) :=
  .of_wp fun prog w A R s h => by
    obtain ⟨hp, g, d, tk, os⟩ := s; obtain ⟨hL, h⟩ := h
    have hsub := sub_enumerate
    wp_walk using wpAny_pyIter_tuple hL
    refine wpAny_stack_any fun st => wpAny_pure ?_
    split
    · rename_i c _ _ _ _ _
      cases (c == Value.type "enumerate")
      · wp_walk using wpAny_pyIter_tuple hL
        exact ⟨_, rfl, h⟩
      · wp_walk using wpAny_pyIter_tuple hL
        exact ⟨_, rfl, h⟩
    · wp_walk using wpAny_pyIter_tuple hL
      exact ⟨_, rfl, h⟩
section
variable {prog : Program} {w : World} {A : Around} {E : Value → Shared → Prop} {s : Shared}
theorem call_enum_tuple {l : Addr} {items : Array Value} {Q : Value → Shared → Prop} (hL : s.heap.IsTuple l items)
    (h : ∀ h', IsEnum h' (s.heap.objs.size + 1) s.heap.objs.size 0 .none → h'.IsTupleIter s.heap.objs.size l 0 → h'.objs.size = s.heap.objs.size + 2 →
      (∀ b o, s.heap.get? b = some o → h'.get? b = some o) → Q (.ref (s.heap.objs.size + 1)) { s with heap := h' }) :
    wpAny (model prog w) A (call (.type "enumerate") [.ref l]) Q E s := by
  refine callType_new F.called_enumerate (by decide) (F.typeCall_enumerate_1 _) (F.newCall_enumerate_1 _) (fun obj => F.args_object_init_2 obj _) F.entry_enumerate_new
    (meets_enum_newT l items) ⟨hL, ?_⟩
  have hz : (s.heap.push { cls := .type "tuple_iterator", data := .fields #[.ref l, .int 0 0] }).objs.size = s.heap.objs.size + 1 := Heap.size_push ..
  show _ ∧ _
  rw [hz]
  have he : IsEnum ((s.heap.push { cls := .type "tuple_iterator", data := .fields #[.ref l, .int 0 0] }).push
      { cls := .type "enumerate", data := .fields #[.none, .bool false, .ref s.heap.objs.size, rawInt 0, .none, .none] }) (s.heap.objs.size + 1) s.heap.objs.size 0 .none := by
    have := Heap.get?_push_size (s.heap.push { cls := .type "tuple_iterator", data := .fields #[.ref l, .int 0 0] })
      (o := { cls := .type "enumerate", data := .fields #[.none, .bool false, .ref s.heap.objs.size, rawInt 0, .none, .none] }) rfl
    rw [hz] at this; exact this
  refine ⟨⟨_, he, rfl⟩, h _ he ⟨_, Heap.get?_push_of_some _ (Heap.get?_push_size _ rfl), rfl, rfl⟩ (by rw [Heap.size_push, hz]) fun b o x => Heap.get?_push_of_some _ (Heap.get?_push_of_some _ x)⟩
end
end PySem
namespace DL
open PySem PySem.Spec PyProof.Rows L2
/-! ## enumerate(tuple) -/
def Itnt (K : Fg) (k0 : Int) (a : Addr) : It where
  go i H := ∃ (ys : List V) (y : V), SqT K H a ys ∧ ys[i]? = some y
  yld i H v H' := ∃ T y, v = V.ref T ∧ H T = none ∧ H' = upd H T (.tup [.int (k0 + (i : Nat)), y]) ∧ (∀ ys, SqT K H a ys → ys[i]? = some y)
  stop i H := ∃ ys : List V, SqT K H a ys ∧ ys.length = i
def tnT (k0 : Int) (a e c : Addr) (i : Nat) (h : Heap) : Prop := (∃ old, IsEnum h e c (k0 + (i : Nat)) old) ∧ (h.IsTupleIter c a i ∧ e ≠ c)
theorem turn_nT {P : Program} {w : World} {K : Fg} {es : List Expr} {kk : Nat} {tp : Pos} (k0 : Int) (a e c : Addr) : Turn P w K (.Tuple es kk tp) (Itnt K k0 a) [e, c] e (tnT k0 a e c) where
  mem := List.mem_cons_self ..
  obj i h st b hb := by
    have ⟨⟨_, he⟩, ⟨o, ho, _, hd⟩, _⟩ := st
    cases mem2 hb with
    | inl z => subst z; exact ⟨_, he, fun v q => nomatch q⟩
    | inr z => subst z; exact ⟨o, ho, fun v q => by rw [hd] at q; cases q⟩
  keep i h h' st k := by
    have ⟨⟨old, he⟩, hi, hne⟩ := st
    exact ⟨⟨old, k e (List.mem_cons_self ..) _ he⟩, (hi.at fun o q => k c (by simp) o q), hne⟩
  item := by
    intro X hP hw hK hc i pins s σ H E I hf st hg
    cases hP; cases hw; cases hK
    have ⟨⟨old, he⟩, hit, hne⟩ := st
    have ⟨ys, y, hq, hy⟩ := hg
    obtain ⟨its, rv, pl, _⟩ := I.tuple hq
    have pl : s.heap.IsTuple a its.toArray := pl
    obtain ⟨u, hu, ru⟩ := rv.get hy
    have le := Heap.lt_size he
    have lc : c < s.heap.objs.size := by have ⟨_, q, _⟩ := hit; exact Heap.lt_size q
    have nea : e ≠ a := fun z => by
      have ⟨o, q1, q2⟩ := pl
      rw [z] at he
      have z2 := q1.symm.trans he
      injection z2 with z2
      rw [z2] at q2
      exact absurd q2.1 (by simp)
    have hh := I.ok.hd hc
    have nca : a ≠ c := fun z => by
      have ⟨o, q1, q2⟩ := pl
      have ⟨o', q3, q4, _⟩ := hit
      rw [← z] at q3
      have z2 := q1.symm.trans q3
      injection z2 with z2
      rw [z2] at q2
      exact absurd (q4.symm.trans q2.1) (by simp)
    have hlt : i < its.toArray.size := by
      have := (List.getElem?_eq_some_iff.mp hu).1
      simpa using this
    refine wpAny_pyNext_enum_itemC (Draws.tuple (A := X.A.in1) hh c a nca its.toArray) he ⟨hit, pl⟩ hlt hne (by simp [hne, nea]) (fun x h1 tk hx ho hst1 hT hsz hk => ⟨_, rfl, wpAny_letOwnedTupleGo_enum (s := { s with heap := h1, toks := tk + 1 }) ho (fun h2 he2 sb => ?_)⟩)
    have hit1 := hst1.1
    have ex : x = u := by
      have : its[i]? = some x := by simpa using hx
      exact Option.some.inj (this.symm.trans hu)
    subst ex
    have hT2 := (sb.2 _ (Nat.ne_of_gt le)).trans hT
    have new : ObjOk X.prog X.w (upd H s.heap.objs.size (.tup [.int (k0 + (i : Nat)), y])) h2 s.heap.objs.size (.tup [.int (k0 + (i : Nat)), y]) := by
      refine ⟨?_, [.int (k0 + (i : Nat)) tk, x], .cons ⟨_, rfl⟩ (.cons ru .nil), _, hT2, rfl, _, rfl⟩
      show 2 ≤ sizeLine
      decide
    have I1 : Inv X pins σ (upd H s.heap.objs.size (.tup [.int (k0 + (i : Nat)), y])) { s with heap := h2, toks := tk + 1 } := by
      refine I.turnedNew (ch := [e, c]) (fun b ob hb q => ?_) hf (Nat.le_refl _) new
      have be : b ≠ e := fun z => hb (by simp [z])
      have bc : b ≠ c := fun z => hb (by simp [z])
      exact (sb.2 b be).trans (hk b ob be bc q)
    refine ⟨.ref s.heap.objs.size, _, I1, rfl, ⟨_, y, rfl, I.hok.fresh (Nat.le_refl _), rfl, fun zs hz => ?_⟩, ⟨⟨x, ?_⟩, hit1.at (fun o q => (sb.2 c (Ne.symm hne)).trans q), hne⟩, fun b hb => ?_⟩
    · rw [I.tuple_inj hz hq]; exact hy
    · rw [show k0 + ((i + 1 : Nat) : Int) = k0 + (i : Nat) + 1 by omega]
      exact he2
    · have hb' : b < s.heap.objs.size := by
        rcases mem2 hb with z | z <;> (rw [z]; assumption)
      rw [upd_ne (Nat.ne_of_lt hb')]
      exact (hf b hb).1
  done := by
    intro X hP hw hK hc i pins s σ H E I hf st hg
    cases hP; cases hw; cases hK
    have ⟨⟨old, he⟩, hit, hne⟩ := st
    have ⟨ys, hq, hy⟩ := hg
    obtain ⟨its, rv, pl, _⟩ := I.tuple hq
    have pl : s.heap.IsTuple a its.toArray := pl
    have ⟨f0, f1, f2, f3, f4, f5⟩ := hf c (by simp)
    have hl := rv.length
    have hh := I.ok.hd hc
    have nca : a ≠ c := fun z => by
      have ⟨o, q1, q2⟩ := pl
      have ⟨o', q3, q4, _⟩ := hit
      rw [← z] at q3
      have z2 := q1.symm.trans q3
      injection z2 with z2
      rw [z2] at q2
      exact absurd (q4.symm.trans q2.1) (by simp)
    refine wpAny_pyNext_enum_endD (Draws.tuple (A := X.A.in1) hh c a nca its.toArray) he ⟨?_, pl⟩ (fun h' eb => ⟨rfl, ?_⟩)
    · have e : its.toArray.size = i := by simp; omega
      rw [e]; exact hit
    exact I.turned (t' := s.toks) (fun b o hb q => eb b o hb q) f0 f1 f3 f4 f5
  self A i s Q E st h := by
    have ⟨⟨_, he⟩, _⟩ := st
    exact wpAny_pyIter_enum he h
def iEnumT (K : Fg) (ta : TA) : TI := fun σ H R => ta σ H fun vs H1 => ∃ a ys, vs = [V.ref a] ∧ SqT K H1 a ys ∧ R (Itnt K 0 a) H1
section
variable {X : Cx} {e : Expr} {ta : TA} {p pos tp : Pos} {es : List Expr} {kk : Nat}
theorem pi_enumT (hg : Gl X "enumerate") (hm : X.mg "enumerate" = none) (ha : PA X [e] ta) (hs : starEach [e] X.env = [(false, eval e X.env)] := by rfl) : PI X (.Tuple es kk tp) (.Call (.Name "enumerate" p) [e] [] pos) (iEnumT X.K ta) := by
  refine ⟨fun pins s σ H R I h => Call_ (ld_blt I hg hm boot_enumerate (PyProof.Rows.callWith_type1 (thn (ha.run pos pins s σ H _ I h) fun us s1 ⟨vs, H1, I1, r1, q1⟩ => ?_) hs rfl))⟩
  obtain ⟨a, ys, ex, hq, q⟩ := q1
  obtain ⟨u, rfl, ru⟩ := vals_one r1 ex
  cases ru
  obtain ⟨its, rv, pl, _⟩ := I1.tuple hq
  have pl : s1.heap.IsTuple a its.toArray := pl
  refine call_enum_tuple pl (fun h1 he hit hsz hk => wpAny_pyIter_enum he ?_)
  exact ⟨s1.heap.objs.size + 1, [s1.heap.objs.size + 1, s1.heap.objs.size], _, _, H1, rfl, I1.kept (t' := s1.toks) hk, turn_nT 0 a (s1.heap.objs.size + 1) s1.heap.objs.size, ⟨⟨.none, he⟩, hit, Nat.succ_ne_self _⟩, new2 (I1.kept (t' := s1.toks) hk |> fun _ => I1), q⟩
end
theorem src_nT {K : Fg} {k0 : Int} {l : Addr} {ds : List D} : SrcOk K (Itnt K k0 l) (.ref l) (.tuple ds) (enD k0 ds) := fun M σ H ρ pv pd A => by
  obtain ⟨ow, B, hp⟩ := A
  cases hp with
  | cons g3 hp =>
    cases g3 with
    | @tup _ ys _ g3 g4 =>
      have hS : SqT K H l ys := same_t hide_le g3
      refine ⟨fun i hi => ?_, ⟨ys, hS, by rw [g4.length, enD_len]⟩⟩
      have hi' : i < ds.length := by rwa [enD_len] at hi
      obtain ⟨y, gy, gyd⟩ := g4.get (List.getElem?_eq_getElem hi')
      refine ⟨⟨ys, y, hS, gy⟩, fun x H' hy => ?_⟩
      obtain ⟨T, z, rfl, hT, rfl, fv⟩ := hy
      have ex : z = y := Option.some.inj ((fv _ hS).symm.trans gy)
      subst ex
      obtain ⟨d, hd, ee⟩ := enD_get (List.getElem?_eq_getElem hi)
      rw [ee]
      have : d = ds[i] := Option.some.inj (hd.symm.trans (List.getElem?_eq_getElem hi'))
      subst this
      have e : Same H (upd H T (.tup [.int (k0 + (i : Nat)), z])) := same_new hT
      refine ⟨ow, B.step (.of e) (B.cok.mono e), .cons (.tup (.of (new_vis B.hall hT)) (.cons (.int _) (.cons (gyd.mono (vis_of e)) .nil))) ?_⟩
      exact DvAll.mono (vis_of e) (.cons (.tup g3 g4) hp)
def wiEnumT (wr : WA) : WI := fun ρ P => wr ρ fun ds ρ1 => match ds with
  | [.tuple es] => P (enD 0 es) ρ1
  | _ => False
section
variable {X : Cx} {e tg : Expr} {t : TA} {wr : WA} {p pos tp : Pos} {es : List Expr} {kk : Nat}
theorem di_enumT (hg : Gl X "enumerate") (hm : X.mg "enumerate" = none) (ha : DA X [e] t wr) (hs : starEach [e] X.env = [(false, eval e X.env)] := by rfl) : DI X (.Tuple es kk tp) (.Call (.Name "enumerate" p) [e] [] pos) (iEnumT X.K t) (wiEnumT wr) := ⟨pi_enumT hg hm ha.pa hs, fun M σ H ρ pv pd P R A h q => by
  refine ha.sd M σ H ρ pv pd _ _ A h fun vs ds H1 ρ1 hl A1 h1 => ?_
  split at h1
  · next es' =>
    obtain ⟨ow, B, hp⟩ := A1
    obtain ⟨g1, g2⟩ := DvAll.split hl hp
    obtain ⟨v, rfl, gv⟩ := da1 g1
    cases gv with
    | tup g3 g4 => exact ⟨_, _, rfl, same_t hide_le g3, q _ _ _ _ _ _ ⟨ow, B, .cons (.tup g3 g4) g2⟩ src_nT h1⟩
  · exact h1.elim⟩
end
/-! ## f(e, names ..): a call with owned arguments that gives a new list of ints -/
def wCallPF (pre : List D → Prop) (post : List D → D → Prop) (we : WE) (wp : WPs) : WF := fun ρ P => we ρ fun d0 ρ1 => match wp ρ1 with
  | some ds => pre (d0 :: ds) ∧ ∀ es, post (d0 :: ds) (.list es) → (∃ l : List Int, es = l.map .int) ∧ P es ρ1
  | none => False
theorem mk_ints {K : Fg} {lc : Option Addr} {H : Hp} : ∀ l : List Int, DvAll K lc H (l.map V.int) (l.map PyData.int)
  | [] => .nil
  | i :: l => .cons (.int i) (mk_ints l)
section
variable {X : Cx} {K : Fg} {a e : Expr} {es : List Expr} {te : TE} {we : WE} {t : TA} {wr : WPs} {p pos : Pos}
theorem sndf_callP {pre : List D → Prop} {post : List D → D → Prop} {E : XK} (he : Snd K te we) (h : SndPs K t wr) : SndF K (tCall (SpF K pre post) [] E (tCons te t)) (wCallPF pre post we wr) := fun M σ H ρ pv pd P Q A hw q => by
  refine he M σ H ρ pv pd _ _ A hw fun v0 d0 H1 ρ1 A1 h1 => ?_
  split at h1
  · next ds e1 =>
    obtain ⟨ow, B, hp⟩ := A1
    cases hp with
    | cons g0 hp =>
      obtain ⟨vs, g, k⟩ := h M σ H1 ρ1 ow ds B e1
      refine k _ ?_
      show SpF K pre post ((v0 :: vs) ++ []) H1 Q E
      rw [List.append_nil]
      refine ⟨M.lc, M.hc, hdO M noOw, d0 :: ds, .cons (g0.mono (hide_same fun b o n e => ⟨fun z => n (hdO_noOw z), e⟩)) g, B.cok, fun b z => .inl (B.sub b z), B.hallN, h1.1, fun p xs es H' h0 e c hx g p2 => ?_⟩
      obtain ⟨⟨l, rfl⟩, hP⟩ := h1.2 es p2
      obtain rfl := dv_ints g
      exact q p _ H' ρ1 ⟨ow, B.plus1 h0 e c hx (mk_ints l), hp.mono (B.vis1 h0 e)⟩ hP
  · exact h1.elim
theorem df_callP {CX : CXT} {k : Nat} {f : Addr} {fd : FuncData} {ps : List Str} {pre : List D → Prop} {post : List D → D → Prop} {E : XK} {x : Str} {K' : Fg} (F : FnOk X.prog X.w X.K X.mg X.base CX k f fd ps (SpF K' pre post)) (hr : Room k X.A) (hg : Gl X x) (hm : X.mg x = some (.ref f))
    (hk : PySem.W.keepIn X.K (.ref f) = true) (hb : Binds X.K fd ps []) (hx : Passes CX X E) (he : DE X e te we) (ha : DPs X (a :: es) t wr) (hK : X.K = K' := by rfl) (hdb : (x == ("__debug__" : Str)) = false := by decide) (hs : starEach (e :: a :: es) X.env = (false, eval e X.env) :: starEach (a :: es) X.env := by rfl)
    (hpl : (backTo pos (starEach (a :: es) X.env)).any (·.1) = false := by rfl) : DF X (.Call (.Name x p) (e :: a :: es) [] pos) (tCall (SpF K' pre post) [] E (tCons te t)) (wCallPF pre post we wr) :=
  ⟨pe_call F hr hg hm hk hb .nil hx (pa_cons he.pe ha.pa hs) hdb hs hpl, by subst hK; exact sndf_callP he.sd ha.sd⟩
end
end DL

namespace DL
open PySem PySem.Spec PyProof.Rows L2
/-! ## try with several clauses, each with a name or without -/
/-- what a clause does with the exception at an address -/
abbrev HT := Addr → Value → Option Addr → TS
/-- the clauses one by one; what no clause takes goes out -/
def wCatch (K : Fg) (Wo : WX) (D : Ends) : List (Value × HT) → WX
  | [] => Wo
  | (c, h) :: r => fun cl d σ H => ∃ b, PySem.W.exmOne K cl c = some b ∧ (b = true → ∀ a, H a = none → h a cl d D σ H) ∧ (b = false → wCatch K Wo D r cl d σ H)
/-- the name of a clause is gone behind its suite -/
def offName (i : Nat) (D : Ends) : Ends := { nx := fun σ H => D.nx (σ.set i none) H, rt := D.rt, bk := fun σ H => D.bk (σ.set i none) H, ct := fun σ H => D.ct (σ.set i none) H }
def named (i : Nat) (h : HT) : HT := fun a cl d D σ H => h a cl d (offName i D) (σ.set i (some (.ref a))) H
def Suite (X : Cx) (sts : List Stmt) (h : HT) : Prop := ∀ (a : Addr) (o : Obj) (cl : Value) (d : Option Addr) (pn : List (Addr × Obj)), Zc cl d o → (∃ fs, o.data = .fields fs) → PSs (X.suite a ((a, o) :: pn)) sts (h a cl d)
inductive Clauses (X : Cx) : List ExceptHandler → List (Value × HT) → Prop
  | nil : Clauses X [] []
  | bare {x : Str} {c : Value} {h : HT} {st : Stmt} {sts : List Stmt} {p p' : Pos} {es : List ExceptHandler} {l : List (Value × HT)} (hc : Names X x c) (hs : Suite X (st :: sts) h) (r : Clauses X es l) :
      Clauses X (.ExceptHandler (some (.Name x p)) none (st :: sts) p' :: es) ((c, h) :: l)
  | asN {x n : Str} {i : Nat} {c : Value} {h : HT} {st : Stmt} {sts : List Stmt} {p p' : Pos} {es : List ExceptHandler} {l : List (Value × HT)} (hc : Names X x c) (nd : X.N.Nodup) (hi : X.N[i]? = some n) (hl : X.env.kindOf n = some .local)
      (hs : Suite X (st :: sts) h) (r : Clauses X es l) : Clauses X (.ExceptHandler (some (.Name x p)) (some n) (st :: sts) p' :: es) ((c, named i h) :: l)
theorem ps_tryN {X : Cx} {body : List Stmt} {e0 : ExceptHandler} {es : List ExceptHandler} {l : List (Value × HT)} {pos : Pos} {tb : WX → TS} {Wo : WX} (stk : X.stack = X.env :: X.outer) (frm : X.env.frame = some X.env.locals) (tko : Takes X Wo)
    (bd : ∀ (V : WX) (pn : List (Addr × Obj)) (E : Value → Shared → Prop), Takes (X.tr pn E) V → PassesOwn (model X.prog X.w) X.A X.env E → PSs (X.tr pn E) body (tb V))
    (cls : Clauses X (e0 :: es) l) : PS X (.Try body (e0 :: es) [] [] pos) (fun D σ H => tb (wCatch X.K Wo D l) D σ H) := by
  constructor
  intro pins s σ H D I h
  have okX := I.ok
  have frames : X.A.frames = some (X.env :: X.outer) := okX.frames.trans (congrArg some stk)
  apply wpAny_Try_except
  have R := (bd (wCatch X.K Wo D l) (X.pn ++ pins)
    (fun e t1 => wpAny (model X.prog X.w) X.A (noteFrame e X.env) (fun _ t2 => wpAny (model X.prog X.w) X.A (setFlight e none)
      (fun _ t3 => wpAny (model X.prog X.w) X.A (handleBy e X.env (e0 :: es)) (SP X pins D) X.xe t3) X.xe t2) X.xe t1) ?tk PassesOwn.looking).run [] s σ H D (I.toTry _) h
  case tk =>
    rintro _ t0 ⟨a, B, sI, q', τ, G, cl, d, rfl, J0, gro, upw, air, fresh, oss, bar, wsh⟩
    have J : Inv X pins τ G sI := J0.ofTry okX
    rw [show (X.tr (X.pn ++ pins) _).stack = X.env :: X.outer from stk] at air
    refine Sky.land Zc.steady frames frm air fun g3 fly up3 => ?_
    have J3 : Inv X pins τ G { t0 with heap := g3 } := J.landed gro fly.1 (upw.trans up3) oss bar
    obtain ⟨o3, w3, get3, z3, dat3⟩ := fly.there
    have offFr : a ∉ frs (X.env :: X.outer) := fun hm => by
      obtain ⟨_, o', got, nf⟩ := fly.2.2.1.mem hm
      have eo : o3 = o' := Option.some.inj (get3.symm.trans got)
      exact nf _ (eo ▸ dat3)
    have offL : a ≠ X.env.locals := fun z => offFr (List.mem_filterMap.mpr ⟨X.env, List.mem_cons_self, by rw [frm, z]⟩)
    have offO : a ∉ X.fs := fun hm => by
      obtain ⟨v, hv, q⟩ := List.mem_filterMap.mp hm
      exact offFr (List.mem_filterMap.mpr ⟨v, List.mem_cons_of_mem _ hv, q⟩)
    have S3 := J3.suite get3 dat3 fresh offL offO
    have typ : PySem.W.Looks (model X.prog X.w) g3 (typeOf (.ref a)) cl := fun A Q E u k q => wpAny_typeOf_ref (k _ _ get3) (by rw [z3.1]; exact q)
    clear h
    generalize e0 :: es = cs at cls
    induction cls with
    | nil =>
      refine wpAny_handleBy_nil ?_
      obtain ⟨_, _, _, o, ws, T, oT, _, gt, zt, dt, h1, _⟩ := id fly
      unfold PySem.passOn
      refine wpAny_bind (wpAny_field gt dt h1 ?_)
      rw [if_neg (show ¬ ((Value.ref T == Value.none) = true) by simp)]
      have out : wpAny (model X.prog X.w) X.A (setFlight (.ref a) X.env.frame) (fun _ u => wpAny (model X.prog X.w) X.A (throw (.ref a) : Sem Flow) (SP X pins D) X.xe u) X.xe { t0 with heap := g3 } := by
        rw [frm]
        refine HandSPX.setFlight_upZ fly fun g4 held up4 => wpAny_throw (tko _ _ ⟨a, B, sI, pins, τ, G, cl, d, rfl, J, gro, (upw.trans up3).trans up4, .inr (.inr (stk ▸ held)), fresh, oss, bar, wsh⟩)
      first
        | exact wpAny_bind (wpAny_pure (wpAny_bind out))
        | exact wpAny_bind out
    | bare hc hs r ih =>
      obtain ⟨b, hb, yes, no⟩ := wsh
      refine wpAny_handleBy_cons (codeAny_handlers_test ?_) nofun
      have mat := PySem.W.exm_one (M := model X.prog X.w) J3.kIn typ hb
      obtain ⟨hg, hdb, m1 | ⟨m1, m2, m3⟩⟩ := hc
      all_goals first
        | refine ld_glob (X := X.suite a ((a, o3) :: (X.pn ++ pins))) S3 hg m1 ?_ hdb
        | refine ld_blt (X := X.suite a ((a, o3) :: (X.pn ++ pins))) S3 hg m1 m2 ?_ m3 hdb
      all_goals
        refine mat.here ?_
        cases b with
        | false => exact ih (no rfl)
        | true =>
          refine codeAny_handlers_suite (HandSPX.lands_againZ fly fun g4 fly4 up4 => ?_)
          have J4 : Inv X pins τ G { t0 with heap := g4 } := J.landed gro fly4.1 ((upw.trans up3).trans up4) oss bar
          obtain ⟨o4, w4, get4, z4, dat4⟩ := fly4.there
          have S4 := J4.suite get4 dat4 fresh offL offO
          refine wpAny_mono ((hs a o4 cl d (X.pn ++ pins) z4 ⟨_, dat4⟩).run [] _ τ G _ S4 (yes rfl a fresh)) (fun f u hf => ?_) fun _ _ z => z.elim
          cases f with
          | ret v => exact hf.elim fun v6 ⟨σ6, H6, S6, r6, q6⟩ => ⟨v6, σ6, H6, S6.unsuite okX, r6, q6⟩
          | next => exact hf.elim fun σ6 ⟨H6, S6, q6⟩ => ⟨σ6, H6, S6.unsuite okX, q6⟩
          | brk => exact hf.elim fun σ6 ⟨H6, S6, q6⟩ => ⟨σ6, H6, S6.unsuite okX, q6⟩
          | cont => exact hf.elim fun σ6 ⟨H6, S6, q6⟩ => ⟨σ6, H6, S6.unsuite okX, q6⟩
    | @asN x n i c h st sts p p' es l hc nd hi hl hs r ih =>
      obtain ⟨b, hb, yes, no⟩ := wsh
      refine wpAny_handleBy_cons (codeAny_handlers_test ?_) nofun
      have mat := PySem.W.exm_one (M := model X.prog X.w) J3.kIn typ hb
      obtain ⟨hg, hdb, m1 | ⟨m1, m2, m3⟩⟩ := hc
      all_goals first
        | refine ld_glob (X := X.suite a ((a, o3) :: (X.pn ++ pins))) S3 hg m1 ?_ hdb
        | refine ld_blt (X := X.suite a ((a, o3) :: (X.pn ++ pins))) S3 hg m1 m2 ?_ m3 hdb
      all_goals
        refine mat.here ?_
        cases b with
        | false => exact ih (no rfl)
        | true =>
          refine codeAny_handlers_suite_as (HandSPX.lands_againZ fly fun g4 fly4 up4 => ?_)
          have J4 : Inv X pins τ G { t0 with heap := g4 } := J.landed gro fly4.1 ((upw.trans up3).trans up4) oss bar
          obtain ⟨o4, w4, get4, z4, dat4⟩ := fly4.there
          have S4 := J4.suite get4 dat4 fresh offL offO
          refine store_ok (X := X.suite a ((a, o4) :: (X.pn ++ pins))) (v := .ref a) S4 nd hi (.inl hl) rfl (fun s5 S5 => ?_) (.inr hl)
          refine wpAny_mono ((hs a o4 cl d (X.pn ++ pins) z4 ⟨_, dat4⟩).run [] s5 _ G _ S5 (yes rfl a fresh)) (fun f u hf => ?_) fun _ _ z => z.elim
          cases f with
          | ret v => exact hf.elim fun v6 ⟨σ6, H6, S6, r6, q6⟩ => gone_ok (S6.unsuite okX) nd hi hl fun s7 J7 => ⟨v6, _, H6, J7, r6, q6⟩
          | next => exact hf.elim fun σ6 ⟨H6, S6, q6⟩ => gone_ok (S6.unsuite okX) nd hi hl fun s7 J7 => ⟨_, H6, J7, q6⟩
          | brk => exact hf.elim fun σ6 ⟨H6, S6, q6⟩ => gone_ok (S6.unsuite okX) nd hi hl fun s7 J7 => ⟨_, H6, J7, q6⟩
          | cont => exact hf.elim fun σ6 ⟨H6, S6, q6⟩ => gone_ok (S6.unsuite okX) nd hi hl fun s7 J7 => ⟨_, H6, J7, q6⟩
  refine wpAny_mono R (fun f u hf => ?_) fun _ _ z => z
  cases f with
  | ret v => exact hf.elim fun v6 ⟨σ6, H6, S6, r6, q6⟩ => ⟨v6, σ6, H6, S6.ofTry okX, r6, q6⟩
  | next => exact hf.elim fun σ6 ⟨H6, S6, q6⟩ => wpAny_execs_nil ⟨σ6, H6, S6.ofTry okX, q6⟩
  | brk => exact hf.elim fun σ6 ⟨H6, S6, q6⟩ => ⟨σ6, H6, S6.ofTry okX, q6⟩
  | cont => exact hf.elim fun σ6 ⟨H6, S6, q6⟩ => ⟨σ6, H6, S6.ofTry okX, q6⟩
end DL

namespace DL
open PySem PySem.Spec PyProof.Rows L2
/-! ## what may be raised -/
/-- a def that returns, or raises a class by its number -/
def SpX (K : Fg) (ca : Nat → Addr) (pre : List D → Prop) (post : List D → D → Prop) (exn : List D → Nat → Prop) : Sp := fun vs H Q E => ∃ (lc : Option Addr) (hc hd : Addr → Prop) (ds : List D),
  DvAll K lc (hide hd H) vs ds ∧ Cok K lc hc H ∧ (∀ b, hc b → hd b) ∧ (∀ b, hd b → H b ≠ none) ∧ pre ds ∧
    (∀ v d H', Evo lc H H' → Cok K lc hc H' → Dv K lc (hide hd H') v d → post ds d → Q v H') ∧
    ∀ c H', Evo lc H H' → Cok K lc hc H' → exn ds c → E (.ref (ca c)) none H'
abbrev XP := Nat → Rho → Prop
/-- what is raised under the values pv is taken -/
def Out (K : Fg) (ca : Nat → Addr) (W : WX) (M : Amb) (pv : List V) (pd : List D) (xp : XP) : Prop := ∀ c σ H ρ qv qd, qv.length = qd.length → At K M σ H ρ (qv ++ pv) (qd ++ pd) → xp c ρ → W (.ref (ca c)) none σ H
section
variable {K : Fg} {ca : Nat → Addr} {W : WX} {M : Amb} {pv : List V} {pd : List D} {xp : XP}
theorem Out.app (o : Out K ca W M pv pd xp) {vs : List V} {ds : List D} (h : vs.length = ds.length) : Out K ca W M (vs ++ pv) (ds ++ pd) xp := fun c σ H ρ qv qd hl A x => by
  rw [← List.append_assoc, ← List.append_assoc] at A
  exact o c σ H ρ _ _ (by rw [List.length_append, List.length_append, hl, h]) A x
theorem Out.one (o : Out K ca W M pv pd xp) (v : V) (d : D) : Out K ca W M (v :: pv) (d :: pd) xp := o.app (vs := [v]) (ds := [d]) rfl
theorem Out.imp (o : Out K ca W M pv pd xp) {yp : XP} (h : ∀ c ρ, yp c ρ → xp c ρ) : Out K ca W M pv pd yp := fun c σ H ρ qv qd hl A x => o c σ H ρ qv qd hl A (h c ρ x)
end
abbrev WEX := Rho → XP → (D → Rho → Prop) → Prop
abbrev WAX := Rho → XP → (List D → Rho → Prop) → Prop
abbrev WSX := DEnds → XP → Rho → Prop
def SndEX (K : Fg) (ca : Nat → Addr) (W : WX) (t : TE) (w : WEX) : Prop := ∀ (M : Amb) (σ : L2.St) (H : Hp) (ρ : Rho) (pv : List V) (pd : List D) (xp : XP) (P : D → Rho → Prop) (Q : VK),
  At K M σ H ρ pv pd → w ρ xp P → Out K ca W M pv pd xp → (∀ v d H' ρ', At K M σ H' ρ' (v :: pv) (d :: pd) → P d ρ' → Q v H') → t σ H Q
def SndAX (K : Fg) (ca : Nat → Addr) (W : WX) (t : TA) (w : WAX) : Prop := ∀ (M : Amb) (σ : L2.St) (H : Hp) (ρ : Rho) (pv : List V) (pd : List D) (xp : XP) (P : List D → Rho → Prop) (Q : List V → Hp → Prop),
  At K M σ H ρ pv pd → w ρ xp P → Out K ca W M pv pd xp → (∀ vs ds H' ρ', vs.length = ds.length → At K M σ H' ρ' (vs ++ pv) (ds ++ pd) → P ds ρ' → Q vs H') → t σ H Q
def SndSX (K : Fg) (ca : Nat → Addr) (W : WX) (t : TS) (w : WSX) : Prop := ∀ (M : Amb) (σ : L2.St) (H : Hp) (ρ : Rho) (pv : List V) (pd : List D) (DD : DEnds) (xp : XP) (HD : Ends),
  At K M σ H ρ pv pd → w DD xp ρ → Fin K M pv pd DD HD → Out K ca W M pv pd xp → t HD σ H
structure DEX (X : Cx) (ca : Nat → Addr) (W : WX) (e : Expr) (t : TE) (w : WEX) : Prop where
  pe : PE X e t
  sd : SndEX X.K ca W t w
structure DAX (X : Cx) (ca : Nat → Addr) (W : WX) (es : List Expr) (t : TA) (w : WAX) : Prop where
  pa : PA X es t
  sd : SndAX X.K ca W t w
structure DSX (X : Cx) (ca : Nat → Addr) (W : WX) (st : Stmt) (t : TS) (w : WSX) : Prop where
  ps : PS X st t
  sd : SndSX X.K ca W t w
structure DSsX (X : Cx) (ca : Nat → Addr) (W : WX) (sts : List Stmt) (t : TS) (w : WSX) : Prop where
  ps : PSs X sts t
  sd : SndSX X.K ca W t w
def xE (w : WE) : WEX := fun ρ _ P => w ρ P
def xA (w : WA) : WAX := fun ρ _ P => w ρ P
def xS (w : WS) : WSX := fun DD _ ρ => w DD ρ
def xCons (wa : WEX) (wr : WAX) : WAX := fun ρ xp P => wa ρ xp fun x ρ1 => wr ρ1 xp fun xs ρ2 => P (x :: xs) ρ2
def xCall (pre : List D → Prop) (post : List D → D → Prop) (exn : List D → Nat → Prop) (wa : WAX) : WEX := fun ρ xp P => wa ρ xp fun ds ρ1 => pre ds ∧ (∀ d, post ds d → P d ρ1) ∧ ∀ c, exn ds c → xp c ρ1
def xBin (w2 : D → D → (D → Prop) → Prop) (wa wb : WEX) : WEX := fun ρ xp P => wa ρ xp fun x ρ1 => wb ρ1 xp fun y ρ2 => w2 x y fun z => P z ρ2
def xTup (wa : WAX) : WEX := fun ρ xp P => wa ρ xp fun ds ρ1 => ds.length ≤ 100000 ∧ P (.tuple ds) ρ1
def xLst (wa : WAX) : WEX := fun ρ xp P => wa ρ xp fun ds ρ1 => ds.length ≤ 100000 ∧ P (.list ds) ρ1
def xB (wc : List D → (D → Prop) → Prop) (wa : WAX) : WEX := fun ρ xp P => wa ρ xp fun ds ρ1 => wc ds fun d => P d ρ1
/-- a call that does not raise, of a def that may -/
def wCallN (pre : List D → Prop) (post : List D → D → Prop) (exn : List D → Nat → Prop) (wa : WA) : WE := fun ρ P => wa ρ fun ds ρ1 => pre ds ∧ (∀ d, post ds d → P d ρ1) ∧ ∀ c, ¬ exn ds c
section
variable {X : Cx} {K : Fg} {ca : Nat → Addr} {W : WX} {a b c e : Expr} {es : List Expr} {ta tb tc : TE} {wa wb wc : WE} {xa xb : WEX} {t u : TA} {wr : WA} {xr : WAX} {pos p p2 : Pos}
theorem dex_of (h : DE X e ta wa) : DEX X ca W e ta (xE wa) := ⟨h.pe, fun M σ H ρ pv pd xp P Q A h1 _ q => h.sd M σ H ρ pv pd P Q A h1 q⟩
theorem dax_of (h : DA X es t wr) : DAX X ca W es t (xA wr) := ⟨h.pa, fun M σ H ρ pv pd xp P Q A h1 _ q => h.sd M σ H ρ pv pd P Q A h1 q⟩
theorem dax_cons (ha : DEX X ca W e ta xa) (hr : DAX X ca W es t xr) (hs : starEach (e :: es) X.env = (false, eval e X.env) :: starEach es X.env := by rfl) : DAX X ca W (e :: es) (tCons ta t) (xCons xa xr) := ⟨pa_cons ha.pe hr.pa hs, fun M σ H ρ pv pd xp P Q A h o q => by
  refine ha.sd M σ H ρ pv pd xp _ _ A h o fun x dx H1 ρ1 A1 h1 => ?_
  refine hr.sd M σ H1 ρ1 _ _ xp _ _ A1 h1 (o.one x dx) fun vs ds H2 ρ2 hl A2 h2 => ?_
  obtain ⟨ow, B, hp⟩ := A2
  obtain ⟨g1, g2⟩ := DvAll.split hl hp
  cases g2 with
  | cons g2 g3 => exact q (x :: vs) (dx :: ds) H2 ρ2 (by simp [hl]) ⟨ow, B, .cons g2 (g1.app g3)⟩ h2⟩
theorem sndex_op {r : R2} {w2 : D → D → (D → Prop) → Prop} (h2 : Sn2 K r w2) (ha : SndEX K ca W ta xa) (hb : SndEX K ca W tb xb) : SndEX K ca W (tOp r ta tb) (xBin w2 xa xb) := fun M σ H ρ pv pd xp P Q A h o q => by
  refine ha M σ H ρ pv pd xp _ _ A h o fun x dx H1 ρ1 A1 h1 => ?_
  refine hb M σ H1 ρ1 _ _ xp _ _ A1 h1 (o.one x dx) fun y dy H2 ρ2 A2 h2' => ?_
  obtain ⟨ow, B, hp⟩ := A2
  cases hp with
  | cons gy hp =>
    cases hp with
    | cons gx hp =>
      refine h2 M.lc (hdO M ow) H2 x y dx dy _ _ B.hall gx gy h2' fun v d H' e g pp => ?_
      exact q v d H' ρ2 ⟨ow, B.step (.of e) (B.cok.mono e), .cons g (hp.mono (B.vis (.of e)))⟩ pp
theorem dex_op {op : Operator} {r : R2} {w2 : D → D → (D → Prop) → Prop} (ho : OpR X (binaryOp op) r) (h2 : Sn2 X.K r w2) (ha : DEX X ca W a ta xa) (hb : DEX X ca W b tb xb) : DEX X ca W (.BinOp a op b pos) (tOp r ta tb) (xBin w2 xa xb) := ⟨pe_op ho ha.pe hb.pe, sndex_op h2 ha.sd hb.sd⟩
theorem dex_ix {r : R2} {w2 : D → D → (D → Prop) → Prop} (ho : IxR X r) (h2 : Sn2 X.K r w2) (ha : DEX X ca W a ta xa) (hb : DEX X ca W b tb xb) (hs : PlainIx b := by exact fun _ _ => rfl) : DEX X ca W (.Subscript a b pos) (tOp r ta tb) (xBin w2 xa xb) := ⟨pe_ix ho ha.pe hb.pe hs, sndex_op h2 ha.sd hb.sd⟩
theorem dex_tup {x1} (h : DAX X ca W es t xr) : DEX X ca W (.Tuple es x1 pos) (tTup t) (xTup xr) := ⟨pe_tup h.pa, fun M σ H ρ pv pd xp P Q A hw o q => by
  refine h.sd M σ H ρ pv pd xp _ _ A hw o fun vs ds H1 ρ1 hl A1 h1 => ⟨by rw [hl]; exact size_ok h1.1, fun p hp => ?_⟩
  obtain ⟨ow, B, hp'⟩ := A1
  obtain ⟨g1, g2⟩ := DvAll.split hl hp'
  have e : Same H1 (upd H1 p (.tup vs)) := same_new hp
  exact q _ (.tuple ds) _ ρ1 ⟨ow, B.step (.of e) (B.cok.mono e), .cons (.tup (.of (new_vis B.hall hp)) (g1.mono (vis_of e))) (g2.mono (vis_of e))⟩ h1.2⟩
theorem dex_lst (h : DAX X ca W es t xr) : DEX X ca W (.List es pos) (tLst t) (xLst xr) := ⟨pe_lst h.pa, fun M σ H ρ pv pd xp P Q A hw o q => by
  refine h.sd M σ H ρ pv pd xp _ _ A hw o fun vs ds H1 ρ1 hl A1 h1 => ⟨by rw [hl]; exact size_ok h1.1, fun p hp => ?_⟩
  obtain ⟨ow, B, hp'⟩ := A1
  obtain ⟨g1, g2⟩ := DvAll.split hl hp'
  have e : Same H1 (upd H1 p (.lst vs)) := same_new hp
  exact q _ (.list ds) _ ρ1 ⟨ow, B.step (.of e) (B.cok.mono e), .cons (.lst (new_vis B.hall hp) (g1.mono (vis_of e))) (g2.mono (vis_of e))⟩ h1.2⟩
theorem passW {W : WX} (tk : Takes X W) (σ : L2.St) : PassesAt (L2.CX X.prog X.w) X σ (fun cl d H => W cl d σ H) := fun _ _ _ e s' I c => tk e s' (XE.of_call I (fun _ _ _ h => h) c)
theorem dex_call {k : Nat} {f : Addr} {fd : FuncData} {ps : List Str} {pre : List D → Prop} {post : List D → D → Prop} {exn : List D → Nat → Prop} {x : Str} {K' : Fg} (F : FnOk X.prog X.w X.K X.mg X.base (L2.CX X.prog X.w) k f fd ps (SpX K' ca pre post exn)) (hr : Room k X.A) (hg : Gl X x) (hm : X.mg x = some (.ref f))
    (hk : PySem.W.keepIn X.K (.ref f) = true) (hb : Binds X.K fd ps []) (tk : Takes X W) (ha : DAX X ca W (e :: es) t xr) (hK : X.K = K' := by rfl) (hdb : (x == ("__debug__" : Str)) = false := by decide) (he : starEach (e :: es) X.env = (false, eval e X.env) :: starEach es X.env := by rfl)
    (hpl : (backTo pos (starEach es X.env)).any (·.1) = false := by rfl) : DEX X ca W (.Call (.Name x p) (e :: es) [] pos) (tCallSD (SpX K' ca pre post exn) [] (fun σ cl d H => W cl d σ H) t) (xCall pre post exn xr) :=
  ⟨pe_callSD F hr hg hm hk hb .nil (passW tk) ha.pa hdb he hpl, by
    subst hK
    intro M σ H ρ pv pd xp P Q A hw o q
    refine ha.sd M σ H ρ pv pd xp _ _ A hw o fun vs ds H1 ρ1 hl A1 h1 => ?_
    obtain ⟨ow, B, hp⟩ := A1
    obtain ⟨g1, g2⟩ := DvAll.split hl hp
    show SpX X.K ca pre post exn (vs ++ []) H1 Q _
    rw [List.append_nil]
    refine ⟨M.lc, M.hc, hdO M ow, ds, g1, B.cok, fun b z => .inl (B.sub b z), B.hall, h1.1, fun v d H' e c g p => ?_, fun c H' e c' x => ?_⟩
    · exact q v d H' ρ1 ⟨ow, B.step e c, .cons g (g2.mono (B.vis e))⟩ (h1.2.1 d p)
    · exact o c σ H' ρ1 [] [] rfl ⟨ow, B.step e c', g2.mono (B.vis e)⟩ (h1.2.2 c x)⟩
def xCallD (pre : List D → Prop) (post : List D → D → Prop) (wa : WAX) : WEX := fun ρ xp P => wa ρ xp fun ds ρ1 => pre ds ∧ ∀ d, post ds d → P d ρ1
/-- a call of a def that raises nothing, an argument of which may raise -/
theorem dex_callD {CX : CXT} {k : Nat} {f : Addr} {fd : FuncData} {ps : List Str} {pre : List D → Prop} {post : List D → D → Prop} {E : XK} {x : Str} {K' : Fg} (F : FnOk X.prog X.w X.K X.mg X.base CX k f fd ps (SpD K' pre post)) (hr : Room k X.A) (hg : Gl X x) (hm : X.mg x = some (.ref f))
    (hk : PySem.W.keepIn X.K (.ref f) = true) (hb : Binds X.K fd ps []) (hx : Passes CX X E) (ha : DAX X ca W (e :: es) t xr) (hK : X.K = K' := by rfl) (hdb : (x == ("__debug__" : Str)) = false := by decide) (he : starEach (e :: es) X.env = (false, eval e X.env) :: starEach es X.env := by rfl)
    (hpl : (backTo pos (starEach es X.env)).any (·.1) = false := by rfl) : DEX X ca W (.Call (.Name x p) (e :: es) [] pos) (tCall (SpD K' pre post) [] E t) (xCallD pre post xr) :=
  ⟨pe_call F hr hg hm hk hb .nil hx ha.pa hdb he hpl, by
    subst hK
    intro M σ H ρ pv pd xp P Q A hw o q
    refine ha.sd M σ H ρ pv pd xp _ _ A hw o fun vs ds H1 ρ1 hl A1 h1 => ?_
    obtain ⟨ow, B, hp⟩ := A1
    obtain ⟨g1, g2⟩ := DvAll.split hl hp
    show SpD X.K pre post (vs ++ []) H1 Q E
    rw [List.append_nil]
    refine ⟨M.lc, M.hc, hdO M ow, ds, g1, B.cok, fun b z => .inl (B.sub b z), B.hall, h1.1, fun v d H' e c g p => ?_⟩
    exact q v d H' ρ1 ⟨ow, B.step e c, .cons g (g2.mono (B.vis e))⟩ (h1.2 d p)⟩
theorem passE {X : Cx} : Passes (L2.CX X.prog X.w) X (fun _ _ _ => False) := fun _ _ _ _ _ _ _ ⟨_, _, _, _, _, _, _, _, _, _, _, _, z⟩ => z.elim
theorem de_callN {k : Nat} {f : Addr} {fd : FuncData} {ps : List Str} {pre : List D → Prop} {post : List D → D → Prop} {exn : List D → Nat → Prop} {x : Str} {K' : Fg} (F : FnOk X.prog X.w X.K X.mg X.base (L2.CX X.prog X.w) k f fd ps (SpX K' ca pre post exn)) (hr : Room k X.A) (hg : Gl X x) (hm : X.mg x = some (.ref f))
    (hk : PySem.W.keepIn X.K (.ref f) = true) (hb : Binds X.K fd ps []) (ha : DA X (e :: es) t wr) (hK : X.K = K' := by rfl) (hdb : (x == ("__debug__" : Str)) = false := by decide) (he : starEach (e :: es) X.env = (false, eval e X.env) :: starEach es X.env := by rfl)
    (hpl : (backTo pos (starEach es X.env)).any (·.1) = false := by rfl) : DE X (.Call (.Name x p) (e :: es) [] pos) (tCall (SpX K' ca pre post exn) [] (fun _ _ _ => False) t) (wCallN pre post exn wr) :=
  ⟨pe_call F hr hg hm hk hb .nil passE ha.pa hdb he hpl, by
    subst hK
    intro M σ H ρ pv pd P Q A hw q
    refine ha.sd M σ H ρ pv pd _ _ A hw fun vs ds H1 ρ1 hl A1 h1 => ?_
    obtain ⟨ow, B, hp⟩ := A1
    obtain ⟨g1, g2⟩ := DvAll.split hl hp
    show SpX X.K ca pre post exn (vs ++ []) H1 Q _
    rw [List.append_nil]
    refine ⟨M.lc, M.hc, hdO M ow, ds, g1, B.cok, fun b z => .inl (B.sub b z), B.hall, h1.1, fun v d H' e c g p => ?_, fun c H' e c' x => h1.2.2 c x⟩
    exact q v d H' ρ1 ⟨ow, B.step e c, .cons g (g2.mono (B.vis e))⟩ (h1.2.1 d p)⟩
end
/-! ### statements -/
def xNext : WSX := fun DD _ ρ => DD.nx ρ
def xSeq (w u : WSX) : WSX := fun DD xp ρ => w { DD with nx := fun ρ' => u DD xp ρ' } xp ρ
def xAsg (wa : WEX) (wg : WG) : WSX := fun DD xp ρ => wa ρ xp fun d ρ1 => wg d ρ1 DD.nx
def xDrop (wa : WEX) : WSX := fun DD xp ρ => wa ρ xp fun _ ρ1 => DD.nx ρ1
def xRet (wa : WEX) : WSX := fun DD xp ρ => wa ρ xp fun d _ => DD.rt d
def xIf (wt : WT) (w u : WSX) : WSX := fun DD xp ρ => wt ρ fun b ρ1 => if b = true then w DD xp ρ1 else u DD xp ρ1
def xRaise (c : Nat) : WSX := fun _ xp ρ => xp c ρ
def xForD (ds : List D) (wg : WG) (wb : WSX) : WSX := fun DD xp ρ => ∃ I : Nat → Rho → Prop, I 0 ρ ∧ (∀ i x ρ, ds[i]? = some x → I i ρ → wg x ρ fun ρ1 => wb { DD with nx := I (i + 1), ct := I (i + 1), bk := DD.nx } xp ρ1) ∧ ∀ ρ, I ds.length ρ → DD.nx ρ
def xFor (wI : WI) (wg : WG) (wb : WSX) : WSX := fun DD xp ρ => wI ρ fun ds ρ1 => xForD ds wg wb DD xp ρ1
def xWhile (wt : WT) (wb : WSX) : WSX := fun DD xp ρ => ∃ (I : Rho → Prop) (μ : Rho → Nat), I ρ ∧ ∀ ρ, I ρ → wt ρ fun b ρ1 => if b = true then
  wb { DD with nx := fun ρ' => I ρ' ∧ μ ρ' < μ ρ, ct := fun ρ' => I ρ' ∧ μ ρ' < μ ρ, bk := DD.nx } xp ρ1 else DD.nx ρ1
section
variable {X : Cx} {K : Fg} {ca : Nat → Addr} {W : WX} {a b c e : Expr} {es : List Expr} {ta tb tc : TE} {wa wb wc : WE} {xa xb : WEX} {t : TA} {wr : WA} {pos p p2 : Pos} {tt : TT} {wt : WT} {g : TG} {wg : WG} {st : Stmt} {sts sts2 : List Stmt} {ts tu : TS} {ws : WS} {w u : WSX}
theorem dsx_of (h : DS X st ts ws) : DSX X ca W st ts (xS ws) := ⟨h.ps, fun M σ H ρ pv pd DD xp HD A h1 F _ => h.sd M σ H ρ pv pd DD HD A h1 F⟩
theorem dssx_of (h : DSs X sts ts ws) : DSsX X ca W sts ts (xS ws) := ⟨h.ps, fun M σ H ρ pv pd DD xp HD A h1 F _ => h.sd M σ H ρ pv pd DD HD A h1 F⟩
theorem dssx_nil : DSsX X ca W [] tNext xNext := ⟨pss_nil, fun M σ H ρ pv pd DD xp HD A h F _ => F.nx σ H ρ A h⟩
theorem dssx_one (h1 : DSX X ca W st ts w) : DSsX X ca W [st] ts w := ⟨pss_one h1.ps, h1.sd⟩
theorem dssx_cons (h1 : DSX X ca W st ts w) (h2 : DSsX X ca W sts tu u) : DSsX X ca W (st :: sts) (tSeq ts tu) (xSeq w u) := ⟨pss_cons h1.ps h2.ps, fun M σ H ρ pv pd DD xp HD A h F o =>
  h1.sd M σ H ρ pv pd _ xp { HD with nx := tu HD } A h ⟨fun σ' H' ρ' A' h' => h2.sd M σ' H' ρ' pv pd _ xp _ A' h' F o, F.rt, F.bk, F.ct⟩ o⟩
theorem dsx_asg {tg : Expr} (he : DEX X ca W e ta xa) (hg : DG X tg g wg) (hs : swapsWithSole [tg] e pos.line X.env = pure false := by rfl) (hw : swappedStores [tg] e X.env = pure none := by rfl) (h1 : (assignEach [tg] X.env).map (·.2) = [assign tg X.env] := by rfl) : DSX X ca W (.Assign [tg] e pos) (tAsg ta g) (xAsg xa wg) := ⟨ps_asg he.pe hg.pg hs hw h1, fun M σ H ρ pv pd DD xp HD A h F o =>
  he.sd M σ H ρ pv pd xp _ _ A h o fun v d H1 ρ1 A1 h1 => hg.sd M σ H1 ρ1 pv pd v d _ _ A1 h1 fun σ' H' ρ' A' h' => F.nx σ' H' ρ' A' h'⟩
theorem dsx_set {i : Nat} {x : Str} {pos' : Pos} (hN : X.N.Nodup) (he : DEX X ca W e ta xa) (hi : X.N[i]? = some x := by rfl) (hx : Loc X.env.scope x := by first | exact .inl rfl | exact .inr rfl) (hs : swapsWith e (some (.Name x pos')) pos.line X.env = pure false := by rfl)
    (hf : X.fn x = true ∨ X.env.scope.names.lookup x = some .local := by first | exact .inl rfl | exact .inr rfl | assumption) : DSX X ca W (.Assign [.Name x pos'] e pos) (tAsg ta (gName i)) (xAsg xa (wgName i)) := ⟨ps_set hN hi hx he.pe hs hf, fun M σ H ρ pv pd DD xp HD A h F o =>
  he.sd M σ H ρ pv pd xp _ _ A h o fun v d H1 ρ1 A1 h1 => sndg_name i M σ H1 ρ1 pv pd v d _ _ A1 h1 fun σ' H' ρ' A' h' => F.nx σ' H' ρ' A' h'⟩
theorem dsx_expr (he : DEX X ca W e ta xa) (hs : swapsWith e none pos.line X.env = pure false := by rfl) : DSX X ca W (.Expr e pos) (tDrop ta) (xDrop xa) := ⟨ps_expr he.pe hs, fun M σ H ρ pv pd DD xp HD A h F o => he.sd M σ H ρ pv pd xp _ _ A h o fun v d H' ρ' A' h' => F.nx _ _ _ A'.pop h'⟩
theorem dsx_ret (he : DEX X ca W e ta xa) : DSX X ca W (.Return (some e) pos) (tRet ta) (xRet xa) := ⟨ps_ret he.pe, fun M σ H ρ pv pd DD xp HD A h F o => he.sd M σ H ρ pv pd xp _ _ A h o fun v d H' ρ' A' h' => by
  obtain ⟨ow, B, hp⟩ := A'
  cases hp with
  | cons g1 g2 => exact F.rt v d H' B.evo B.cok (g1.mono (hide_same fun b o n h => ⟨fun z => n (.inl z), h⟩)) h'⟩
theorem dsx_if {c : Expr} (hc : DT X c tt wt) (ha : DSsX X ca W sts ts w) (hb : DSsX X ca W sts2 tu u) : DSX X ca W (.If c sts sts2 pos) (tIfS tt ts tu) (xIf wt w u) := ⟨ps_if hc.pt ha.ps hb.ps, fun M σ H ρ pv pd DD xp HD A h F o => by
  refine hc.sd M σ H ρ pv pd _ _ A h fun b H1 ρ1 A1 h1 => ?_
  cases b with
  | true =>
    rw [if_pos rfl] at h1 ⊢
    exact ha.sd M σ H1 ρ1 pv pd _ xp _ A1 h1 F o
  | false =>
    rw [if_neg Bool.false_ne_true] at h1 ⊢
    exact hb.sd M σ H1 ρ1 pv pd _ xp _ A1 h1 F o⟩
theorem dsx_raise {n : Nat} {x m : Str} {j : Nat} {p p2 pos pos' : Pos} (hc : X.calm = true) (tk : Takes X W) (q : PySem.W.excIn X.K (ca n) [.type "ValueError", .type "Exception", .type "BaseException", .type "object"] "ValueError.__new__" = true) (gC : X.mg x = some (.ref (ca n)))
    (kC : PySem.W.keepIn X.K (.ref (ca n)) = true) (sB : PySem.W.subIn X.K (.ref (ca n)) (.type "BaseException") = some true) (tT : PySem.W.typeIn X.K (.ref (ca n)) = some (.type "type")) (hg : Gl X x) (hdb : (x == ("__debug__" : Str)) = false := by decide) :
    DSX X ca W (.Raise (some (.Call (.Name x p) [.Constant (.str m) j p2] [] pos)) none pos') (fun _ σ H => W (.ref (ca n)) none σ H) (xRaise n) := ⟨ps_raise hc tk (pmk_own PySem.F.excBase_ValueError q gC kC (raises_own sB tT) hg hdb), fun M σ H ρ pv pd DD xp HD A h F o => o n σ H ρ [] [] rfl A h⟩
theorem dsx_for {iter : Expr} {wi : TI} {wI : WI} (hN : PassesOwn (model X.prog X.w) X.A X.env X.xe) (hc : X.calm = true) (hi : DI X a iter wi wI) (hg : DG X a g wg) (hb : DSsX X ca W sts ts w) (hfs : ∀ x, foldedSetIterable iter X.env x = pure x := by intro _; rfl) :
    DSX X ca W (.For a iter sts [] pos) (tFor wi g ts) (xFor wI wg w) := ⟨ps_for hN hc hi.pi hg.pg hb.ps hfs, fun M σ H ρ pv pd DD xp HD A h F o => by
  refine hi.sd M σ H ρ pv pd _ _ A h fun J H1 ρ1 v d ds A1 sk h1 => ?_
  obtain ⟨I, h0, hs, hd⟩ := h1
  refine ⟨fun i m σ' H' => ∃ ρ', At X.K M σ' H' ρ' (v :: pv) (d :: pd) ∧ I i ρ' ∧ i + m = ds.length, ⟨ds.length, ρ1, A1, h0, by omega⟩, ?_⟩
  rintro i m σ2 H2 ⟨ρ2, A2, i2, em⟩
  by_cases hi : i < ds.length
  · obtain ⟨g1, g2⟩ := (sk M σ2 H2 ρ2 pv pd A2).1 i hi
    refine .inr ⟨g1, fun σ' H' => ∃ ρ', At X.K M σ' H' ρ' (v :: pv) (d :: pd) ∧ I (i + 1) ρ', fun σ' H' ⟨ρ', A', i'⟩ => ⟨m - 1, by omega, ρ', A', i', by omega⟩, fun x H' hy => ?_⟩
    refine hg.sd M σ2 _ ρ2 (v :: pv) (d :: pd) x ds[i] _ _ (g2 x H' hy) (hs i ds[i] ρ2 (List.getElem?_eq_getElem hi) i2) fun σ' H'' ρ' A' h' => ?_
    exact hb.sd M σ' H'' ρ' _ _ _ xp _ A' h' ⟨fun σ' H' ρ' A' h' => ⟨ρ', A', h'⟩, F.rt, fun σ' H' ρ' A' h' => F.nx _ _ _ A'.pop h', fun σ' H' ρ' A' h' => ⟨ρ', A', h'⟩⟩ (o.one v d)
  · have ei : i = ds.length := by omega
    subst ei
    exact .inl ⟨(sk M σ2 H2 ρ2 pv pd A2).2, F.nx _ _ _ A2.pop (hd _ i2)⟩⟩
theorem dsx_while {c : Expr} (hp : PassesOwn (model X.prog X.w) X.A X.env X.xe) (hc : DT X c tt wt) (hb : DSsX X ca W sts ts w) : DSX X ca W (.While c sts [] pos) (tWhile tt ts) (xWhile wt w) := ⟨ps_while hp hc.pt hb.ps, fun M σ H ρ pv pd DD xp HD A h F o => by
  obtain ⟨I, μ, h0, hs⟩ := h
  refine ⟨fun m σ' H' => ∃ ρ', At X.K M σ' H' ρ' pv pd ∧ I ρ' ∧ μ ρ' = m, ⟨_, ρ, A, h0, rfl⟩, ?_⟩
  rintro m σ1 H1 ⟨ρ1, A1, i1, rfl⟩
  refine hc.sd M σ1 H1 ρ1 pv pd _ _ A1 (hs ρ1 i1) fun b H2 ρ2 A2 h2 => ?_
  cases b with
  | true =>
    rw [if_pos rfl] at h2 ⊢
    refine ⟨fun σ' H' => ∃ ρ', At X.K M σ' H' ρ' pv pd ∧ I ρ' ∧ μ ρ' < μ ρ1, fun σ' H' ⟨ρ', A', i', l⟩ => ⟨_, l, ρ', A', i', rfl⟩, ?_⟩
    exact hb.sd M σ1 H2 ρ2 pv pd _ xp _ A2 h2 ⟨fun σ' H' ρ' A' h' => ⟨ρ', A', h'⟩, F.rt, F.nx, fun σ' H' ρ' A' h' => ⟨ρ', A', h'⟩⟩ o
  | false =>
    rw [if_neg Bool.false_ne_true] at h2 ⊢
    exact F.nx _ _ _ A2 h2⟩
end
/-! ### a def that may raise -/
section
variable {P : Program} {w : World} {K : Fg} {mg : Str → Option Value} {base : Heap}
theorem fnx_ok {ca : Nat → Addr} {x qual : Str} {st : Stmt} {f : Addr} {fd : FuncData} {N ps : List Str} {k : Nat} {pre : List D → Prop} {post : List D → D → Prop} {exn : List D → Nat → Prop} (F : Fun K x qual st f fd) (S : FnScope N ps (defScope st)) (len : ∀ ds, pre ds → ds.length = ps.length)
    (body : ∀ (cdv : Value) (A : Around) (outer : List PySem.Env) (s : Shared) (H : Hp) (E : XK), Room k (A.deeper (envOfC qual (defScope st) s.heap.objs.size f cdv)) →
      ∃ t u, DSsX (cxOf (L2.CX P w) P w K mg base N qual (defScope st) f cdv A outer s H E) ca (fun cl d _ H => E cl d H) (defBody st) t u ∧ ∀ ds, pre ds → u { nx := fun _ => post ds .none, rt := post ds } (fun c _ => exn ds c) (env0 N ds)) :
    FnOk P w K mg base (L2.CX P w) (k + 1) f fd ps (SpX K ca pre post exn) := by
  refine F.okX S (fun vs H Q E h => ?_) (fun cdv A outer s H vs Q E hr h => ?_)
  · obtain ⟨lc, hc, hd, ds, g, c, sb, al, p, q⟩ := h
    rw [g.length]
    exact len ds p
  · obtain ⟨lc, hc, hd, ds, g, c, sb, al, p, q, qx⟩ := h
    obtain ⟨t, u, b, hu⟩ := body cdv A outer s H E hr
    refine ⟨t, b.ps, b.sd ⟨lc, hc, hd, H, []⟩ (L2.start N vs) H (env0 N ds) [] [] _ _ _ (at_start g c sb al) (hu ds p) ⟨fun σ' H' ρ' A' h' => ?_, fun v d H' e c' g' h' => q v d H' e c' g' h', fun _ _ _ _ h => h.elim, fun _ _ _ _ h => h.elim⟩ fun n σ' H' ρ' qv qd hl A' h' => ?_⟩
    · obtain ⟨ow, B, _⟩ := A'
      exact q _ _ H' B.evo B.cok .non h'
    · obtain ⟨ow, B, _⟩ := A'
      exact qx n H' B.evo B.cok h'
end
end DL

namespace DL
open PySem PySem.Spec PyProof.Rows L2
/-! ## is, is not of booleans -/
def dIsB : D → D → (D → Prop) → Prop
  | .bool a, .bool b, P => P (.bool (decide (a = b)))
  | _, _, _ => False
def dIsNB : D → D → (D → Prop) → Prop
  | .bool a, .bool b, P => P (.bool (!decide (a = b)))
  | _, _, _ => False
theorem sn2_isB {K : Fg} : Sn2 K rIsB dIsB := fun lc hd H x y a b P Q al hx hy h q => by
  cases a <;> cases b <;> first | exact h.elim | skip
  cases hx
  cases hy
  exact ⟨_, _, rfl, rfl, q _ _ H (Same.refl H) (.bl _) h⟩
theorem sn2_isNB {K : Fg} : Sn2 K rNotB dIsNB := fun lc hd H x y a b P Q al hx hy h q => by
  cases a <;> cases b <;> first | exact h.elim | skip
  cases hx
  cases hy
  exact ⟨_, _, rfl, rfl, q _ _ H (Same.refl H) (.bl _) h⟩
/-! ## isinstance of the exception that a suite holds -/
/-- isinstance(e, (c1, c2, ..)) -/
def rIsET (K : Fg) (D a : Addr) : List V → Hp → VK → Prop := fun xs H Q => ∃ (tp : Addr) (cs : List V) (us : List Value) (b : Bool), xs = [.ref a, .ref tp] ∧ H tp = some (.tup cs) ∧ Paired ClsV cs us ∧ PySem.W.kitAny K (.ref D) us = some b ∧ Q (.bl b) H
theorem inst_at {o : Obj} {D : Addr} (z : Zc (.ref D) none o) (f : ∃ fs, o.data = .fields fs) {h : Heap} {a : Addr} (g : h.get? a = some o) : PySem.W.InstAt h a o D none := by
  obtain ⟨fs, hf⟩ := f
  rcases o with ⟨oc, od, oo, sl⟩
  obtain ⟨z1, z2⟩ := z
  dsimp only at z1 z2 hf
  subst z1 z2 hf
  exact ⟨g, rfl, rfl, trivial⟩
theorem call_isET {X : Cx} {a D : Addr} {o : Obj} {pn : List (Addr × Obj)} (C : ExcC X.K D) (z : Zc (.ref D) none o) (f : ∃ fs, o.data = .fields fs) : CallR (X.suite a ((a, o) :: pn)) (.builtin "isinstance") (rIsET X.K D a) := by
  intro pins s σ H xs us Q I r h
  obtain ⟨tp, cs, ws, b, rfl, hT, k, e, q⟩ := h
  obtain ⟨u1, u2, rfl, r1, r2⟩ := vals2 r
  have e1 : u1 = Value.ref a := r1
  have e2 : u2 = Value.ref tp := r2
  subst e1 e2
  have J := inst_at z f (I.pin (a, o) (List.mem_append_left _ (List.mem_cons_self ..))).1
  have ok : ObjOk X.prog X.w H s.heap tp (.tup cs) := I.hok tp _ hT
  obtain ⟨_, its, rv, ob, g1, g2, n, g3⟩ := ok
  have e3 := ClsV.all k rv
  subst e3
  rcases ob with ⟨oc, od, dt, sl⟩
  simp only at g2 g3
  subst g2 g3
  exact PySem.W.kia_tup (PySem.W.handS_kitx_exc C.hg C.hk C.hs C.hd C.ha C.hn C.ht C.hm) I.kIn J g1 e (fun w => nomatch w) fun tk => ⟨.bl b, H, I.kept (t' := tk) fun _ _ w => w, rfl, q⟩
/-- the facts of an own class of exceptions -/
structure ClsF (K : Fg) (C : Addr) : Prop where
  ec : ExcC K C
  ty : PySem.W.typeIn K (.ref C) = some (.type "type")
  kp : PySem.W.keepIn K (.ref C) = true
theorem ClsF.isC {K : Fg} {C : Addr} (F : ClsF K C) : (PySem.W.clsIn K C).isSome = true := by
  obtain ⟨cd, h, _⟩ := PySem.W.any_some F.ec.hd
  rw [h]; rfl
theorem kit_ref {K : Fg} {C D : Addr} {b : Bool} (F : ClsF K C) (h : PySem.W.subIn K (.ref D) (.ref C) = some b) (hs : D = C → b = true) : PySem.W.kitOne K (.ref D) (.ref C) = some b := by
  unfold PySem.W.kitOne
  by_cases e : D = C
  · subst e
    rw [if_pos (by simp), hs rfl]
  · rw [if_neg (by simpa using e)]
    unfold PySem.W.kitCls
    show (if ((PySem.W.clsIn K C).isSome && PySem.W.typeIn K (.ref C) == some (.type "type")) = true then PySem.W.subIn K (.ref D) (.ref C) else none) = some b
    rw [F.isC, F.ty]
    exact h
theorem kit_type {K : Fg} {D : Addr} {T : String} {b : Bool} (hm : PySem.W.kitMeta T = true) (h : PySem.W.subIn K (.ref D) (.type T) = some b) : PySem.W.kitOne K (.ref D) (.type T) = some b := by
  unfold PySem.W.kitOne
  rw [if_neg (by simp)]
  unfold PySem.W.kitCls
  show (if PySem.W.kitMeta T = true then _ else none) = some b
  rw [if_pos hm]
  exact h
theorem kaN {K : Fg} {t : Value} : PySem.W.kitAny K t [] = some false := rfl
theorem kaC {K : Fg} {t c : Value} {l : List Value} {b d : Bool} (h : PySem.W.kitOne K t c = some b) (h2 : PySem.W.kitAny K t l = some d) : PySem.W.kitAny K t (c :: l) = some (b || d) := by
  unfold PySem.W.kitAny
  rw [h]
  cases b
  · exact h2
  · rfl
/-! ## what a suite with the exception at slot i gives -/
def SndC (K : Fg) (i : Nat) (a : Addr) (t : TE) (d : D) : Prop := ∀ (M : Amb) (σ : L2.St) (H : Hp) (ρ : Rho) (pv : List V) (pd : List D) (Q : VK),
  At K M σ H ρ pv pd → σ[i]? = some (some (.ref a)) → (∀ v H', At K M σ H' ρ (v :: pv) (d :: pd) → Q v H') → t σ H Q
def SndCA (K : Fg) (i : Nat) (a : Addr) (t : TA) (ds : List D) : Prop := ∀ (M : Amb) (σ : L2.St) (H : Hp) (ρ : Rho) (pv : List V) (pd : List D) (Q : List V → Hp → Prop),
  At K M σ H ρ pv pd → σ[i]? = some (some (.ref a)) → (∀ vs H', vs.length = ds.length → At K M σ H' ρ (vs ++ pv) (ds ++ pd) → Q vs H') → t σ H Q
structure CE (X : Cx) (i : Nat) (a : Addr) (e : Expr) (t : TE) (d : D) : Prop where
  pe : PE X e t
  sd : SndC X.K i a t d
structure CA (X : Cx) (i : Nat) (a : Addr) (es : List Expr) (t : TA) (ds : List D) : Prop where
  pa : PA X es t
  sd : SndCA X.K i a t ds
/-- a class as a value -/
structure ClsE (X : Cx) (e : Expr) (c : V) (u : Value) : Prop where
  pe : PE X e (tC c)
  cv : ClsV c u
structure ClsA (X : Cx) (es : List Expr) (t : TA) (cs : List V) (us : List Value) : Prop where
  pa : PA X es t
  sd : ∀ σ H Q, Q cs H → t σ H Q
  cv : Paired ClsV cs us
section
variable {X : Cx} {i : Nat} {a : Addr} {e b c : Expr} {es rest : List Expr} {t ta tb : TE} {tt : TA} {d x y : D} {ds : List D} {pos p p1 p2 : Pos}
theorem ce_c (h : DE X e t (wC d)) : CE X i a e t d := ⟨h.pe, fun M σ H ρ pv pd Q A hs q => h.sd M σ H ρ pv pd (fun d' ρ' => d' = d ∧ ρ' = ρ) Q A ⟨rfl, rfl⟩ fun v d' H' ρ' A' ⟨e1, e2⟩ => by
  subst e1 e2
  exact q v H' A'⟩
theorem ca_nil : CA X i a [] tNil [] := ⟨pa_nil, fun M σ H ρ pv pd Q A hs q => q [] H rfl A⟩
theorem ca_cons (ha : CE X i a e t d) (hr : CA X i a es tt ds) (hs : starEach (e :: es) X.env = (false, eval e X.env) :: starEach es X.env := by rfl) : CA X i a (e :: es) (tCons t tt) (d :: ds) := ⟨pa_cons ha.pe hr.pa hs, fun M σ H ρ pv pd Q A hs q => by
  refine ha.sd M σ H ρ pv pd _ A hs fun v H1 A1 => ?_
  refine hr.sd M σ H1 ρ _ _ _ A1 hs fun vs H2 hl A2 => ?_
  obtain ⟨ow, B, hp⟩ := A2
  obtain ⟨g1, g2⟩ := DvAll.split hl hp
  cases g2 with
  | cons g2 g3 => exact q (v :: vs) H2 (by simp [hl]) ⟨ow, B, .cons g2 (g1.app g3)⟩⟩
theorem ce_lst (h : CA X i a es tt ds) (hl : ds.length ≤ 100000 := by simp) : CE X i a (.List es pos) (tLst tt) (.list ds) := ⟨pe_lst h.pa, fun M σ H ρ pv pd Q A hs q => by
  refine h.sd M σ H ρ pv pd _ A hs fun vs H1 hv A1 => ⟨by rw [hv]; exact size_ok hl, fun p hp => ?_⟩
  obtain ⟨ow, B, hp'⟩ := A1
  obtain ⟨g1, g2⟩ := DvAll.split hv hp'
  have e : Same H1 (upd H1 p (.lst vs)) := same_new hp
  exact q _ _ ⟨ow, B.step (.of e) (B.cok.mono e), .cons (.lst (new_vis B.hall hp) (g1.mono (vis_of e))) (g2.mono (vis_of e))⟩⟩
theorem ce_one {op} (h : CE X i a e t d) : CE X i a (.BoolOp op [e] pos) t d := ⟨pe_one h.pe, h.sd⟩
theorem ce_and (ha : CE X i a e ta (.bool true)) (hb : CE X i a (.BoolOp .And (b :: rest) pos) tb y) : CE X i a (.BoolOp .And (e :: b :: rest) pos) (tAndT X.K ta tb) y := ⟨pe_andT ha.pe hb.pe, fun M σ H ρ pv pd Q A hs q => by
  refine ha.sd M σ H ρ pv pd _ A hs fun v H1 A1 => ?_
  have A2 := A1.pop
  obtain ⟨ow, B, hp⟩ := A1
  cases hp with
  | cons g _ =>
    refine ⟨true, tru_of rfl g, ?_⟩
    rw [if_pos rfl]
    exact hb.sd M σ H1 ρ pv pd _ A2 hs q⟩
theorem ce_andF (ha : CE X i a e ta (.bool false)) (hb : PE X (.BoolOp .And (b :: rest) pos) tb) : CE X i a (.BoolOp .And (e :: b :: rest) pos) (tAndT X.K ta tb) (.bool false) := ⟨pe_andT ha.pe hb, fun M σ H ρ pv pd Q A hs q => by
  refine ha.sd M σ H ρ pv pd _ A hs fun v H1 A1 => ?_
  have A2 := A1
  obtain ⟨ow, B, hp⟩ := A1
  cases hp with
  | cons g _ =>
    refine ⟨false, tru_of rfl g, ?_⟩
    rw [if_neg Bool.false_ne_true]
    exact q _ _ A2⟩
theorem ce_andB {k l : Bool} (ha : CE X i a e ta (.bool k)) (hb : CE X i a (.BoolOp .And (b :: rest) pos) tb (.bool l)) : CE X i a (.BoolOp .And (e :: b :: rest) pos) (tAndT X.K ta tb) (.bool (k && l)) := by
  cases k
  · exact ce_andF ha hb.pe
  · exact ce_and ha hb
theorem ce_not {k : Bool} (ha : CE X i a e ta (.bool k)) : CE X i a (.UnaryOp .Not e pos) (tNotT X.K ta) (.bool !k) := ⟨pe_notT ha.pe, fun M σ H ρ pv pd Q A hs q => by
  refine ha.sd M σ H ρ pv pd _ A hs fun v H1 A1 => ?_
  obtain ⟨ow, B, hp⟩ := A1
  cases hp with
  | cons g hp =>
    exact ⟨k, tru_of rfl g, q _ _ ⟨ow, B, .cons (.bl _) hp⟩⟩⟩
theorem clsE_own {x : Str} {C : Addr} (hg : Gl X x) (hm : X.mg x = some (.ref C)) (hd : (x == ("__debug__" : Str)) = false := by decide) : ClsE X (.Name x p) (.ref C) (.ref C) := ⟨pe_glob hg hm rfl hd, .own C⟩
theorem clsE_ty {x : Str} {T : String} (hg : Gl X x) (hm : X.mg x = none) (hv : bootBuiltins x = some (.type T)) (hn : x ≠ "__name__" := by decide) (hd : (x == ("__debug__" : Str)) = false := by decide) : ClsE X (.Name x p) (.ty T) (.type T) := ⟨pe_bltn hg hm hv (show RelV (.ty T) _ from rfl) hn hd, .ty T⟩
theorem clsA_nil : ClsA X [] tNil [] [] := ⟨pa_nil, fun σ H Q q => q, .nil⟩
theorem clsA_cons {c : V} {u : Value} {cs : List V} {us : List Value} (h : ClsE X e c u) (r : ClsA X es tt cs us) (hs : starEach (e :: es) X.env = (false, eval e X.env) :: starEach es X.env := by rfl) : ClsA X (e :: es) (tCons (tC c) tt) (c :: cs) (u :: us) := ⟨pa_cons h.pe r.pa hs, fun σ H Q q => r.sd σ H _ q, .cons h.cv r.cv⟩
section
variable {D : Addr} {o : Obj} {pn : List (Addr × Obj)}
/-- isinstance(e, C) -/
theorem ce_isE {n : Str} {cv : V} {u : Value} {k : Bool} (C : ExcC X.K D) (z : Zc (.ref D) none o) (f : ∃ fs, o.data = .fields fs) (hg : Gl X "isinstance") (hm : X.mg "isinstance" = none)
    (hn : PE (X.suite a ((a, o) :: pn)) (.Name n p1) (tVar i)) (hc : ClsE (X.suite a ((a, o) :: pn)) c cv u) (hk : PySem.W.kitOne X.K (.ref D) u = some k)
    (hs : starEach (.Name n p1 :: [c]) X.env = (false, eval (.Name n p1) X.env) :: starEach [c] X.env := by rfl) (hs2 : starEach [c] X.env = (false, eval c X.env) :: starEach [] X.env := by rfl) (hpl : (backTo pos (starEach [c] X.env)).any (·.1) = false := by rfl) :
    CE (X.suite a ((a, o) :: pn)) i a (.Call (.Name "isinstance" p) [.Name n p1, c] [] pos) (tCB (rIsE X.K D a) (tCons (tVar i) (tCons (tC cv) tNil))) (.bool k) :=
  ⟨pe_callB (call_isE C z f) hg hm (by decide +kernel) (pa_cons hn (pa_cons hc.pe pa_nil hs2) hs) (by decide) (by decide) hs hpl, fun M σ H ρ pv pd Q A hσ q => by
    refine ⟨.ref a, hσ, cv, u, k, rfl, fun w r => hc.cv.eq r, hk, q _ _ ?_⟩
    obtain ⟨ow, B, hp⟩ := A
    exact ⟨ow, B, .cons (.bl k) hp⟩⟩
/-- isinstance(e, (C1, C2, ..)) -/
theorem ce_isET {n : Str} {es : List Expr} {x1} {tA : TA} {cs : List V} {us : List Value} {k : Bool} (C : ExcC X.K D) (z : Zc (.ref D) none o) (f : ∃ fs, o.data = .fields fs) (hg : Gl X "isinstance") (hm : X.mg "isinstance" = none)
    (hn : PE (X.suite a ((a, o) :: pn)) (.Name n p1) (tVar i)) (hc : ClsA (X.suite a ((a, o) :: pn)) es tA cs us) (hk : PySem.W.kitAny X.K (.ref D) us = some k) (hl : cs.length ≤ 100000 := by simp)
    (hs : starEach (.Name n p1 :: [.Tuple es x1 p2]) X.env = (false, eval (.Name n p1) X.env) :: starEach [.Tuple es x1 p2] X.env := by rfl) (hs2 : starEach [.Tuple es x1 p2] X.env = (false, eval (.Tuple es x1 p2) X.env) :: starEach [] X.env := by rfl) (hpl : (backTo pos (starEach [.Tuple es x1 p2] X.env)).any (·.1) = false := by rfl) :
    CE (X.suite a ((a, o) :: pn)) i a (.Call (.Name "isinstance" p) [.Name n p1, .Tuple es x1 p2] [] pos) (tCB (rIsET X.K D a) (tCons (tVar i) (tCons (tTup tA) tNil))) (.bool k) :=
  ⟨pe_callB (call_isET C z f) hg hm (by decide +kernel) (pa_cons hn (pa_cons (pe_tup hc.pa) pa_nil hs2) hs) (by decide) (by decide) hs hpl, fun M σ H ρ pv pd Q A hσ q => by
    refine ⟨.ref a, hσ, hc.sd σ H _ ⟨size_ok hl, fun tp htp => ?_⟩⟩
    refine ⟨tp, cs, us, k, rfl, upd_same, hc.cv, hk, q _ _ ?_⟩
    obtain ⟨ow, B, hp⟩ := A
    have e : Same H (upd H tp (.tup cs)) := same_new htp
    exact ⟨ow, B.step (.of e) (B.cok.mono e), .cons (.bl k) (hp.mono (B.vis (.of e)))⟩⟩
end
end
/-! ## the same under more that is known of the slots -/
def SndCS (K : Fg) (S : L2.St → Prop) (t : TE) (d : D) : Prop := ∀ (M : Amb) (σ : L2.St) (H : Hp) (ρ : Rho) (pv : List V) (pd : List D) (Q : VK),
  At K M σ H ρ pv pd → S σ → (∀ v H', At K M σ H' ρ (v :: pv) (d :: pd) → Q v H') → t σ H Q
def SndCSA (K : Fg) (S : L2.St → Prop) (t : TA) (ds : List D) : Prop := ∀ (M : Amb) (σ : L2.St) (H : Hp) (ρ : Rho) (pv : List V) (pd : List D) (Q : List V → Hp → Prop),
  At K M σ H ρ pv pd → S σ → (∀ vs H', vs.length = ds.length → At K M σ H' ρ (vs ++ pv) (ds ++ pd) → Q vs H') → t σ H Q
structure CS (X : Cx) (S : L2.St → Prop) (e : Expr) (t : TE) (d : D) : Prop where
  pe : PE X e t
  sd : SndCS X.K S t d
structure CSA (X : Cx) (S : L2.St → Prop) (es : List Expr) (t : TA) (ds : List D) : Prop where
  pa : PA X es t
  sd : SndCSA X.K S t ds
section
variable {X : Cx} {S : L2.St → Prop} {e b : Expr} {es rest : List Expr} {t ta tb : TE} {tt : TA} {d x y : D} {ds : List D} {pos p : Pos}
theorem cs_ce {i : Nat} {a : Addr} (hS : ∀ σ, S σ → σ[i]? = some (some (.ref a))) (h : CE X i a e t d) : CS X S e t d := ⟨h.pe, fun M σ H ρ pv pd Q A hs q => h.sd M σ H ρ pv pd Q A (hS σ hs) q⟩
theorem cs_name {j : Nat} {n : Str} {k : Bool} (hS : ∀ σ, S σ → σ[j]? = some (some (.bl k))) (h : PE X (.Name n p) (tVar j)) : CS X S (.Name n p) (tVar j) (.bool k) := ⟨h, fun M σ H ρ pv pd Q A hs q => by
  refine ⟨.bl k, hS σ hs, q _ _ ?_⟩
  obtain ⟨ow, B, hp⟩ := A
  exact ⟨ow, B, .cons (.bl k) hp⟩⟩
theorem csa_nil : CSA X S [] tNil [] := ⟨pa_nil, fun M σ H ρ pv pd Q A hs q => q [] H rfl A⟩
theorem csa_cons (ha : CS X S e t d) (hr : CSA X S es tt ds) (hs : starEach (e :: es) X.env = (false, eval e X.env) :: starEach es X.env := by rfl) : CSA X S (e :: es) (tCons t tt) (d :: ds) := ⟨pa_cons ha.pe hr.pa hs, fun M σ H ρ pv pd Q A hs q => by
  refine ha.sd M σ H ρ pv pd _ A hs fun v H1 A1 => ?_
  refine hr.sd M σ H1 ρ _ _ _ A1 hs fun vs H2 hl A2 => ?_
  obtain ⟨ow, B, hp⟩ := A2
  obtain ⟨g1, g2⟩ := DvAll.split hl hp
  cases g2 with
  | cons g2 g3 => exact q (v :: vs) H2 (by simp [hl]) ⟨ow, B, .cons g2 (g1.app g3)⟩⟩
theorem cs_lst (h : CSA X S es tt ds) (hl : ds.length ≤ 100000 := by simp) : CS X S (.List es pos) (tLst tt) (.list ds) := ⟨pe_lst h.pa, fun M σ H ρ pv pd Q A hs q => by
  refine h.sd M σ H ρ pv pd _ A hs fun vs H1 hv A1 => ⟨by rw [hv]; exact size_ok hl, fun p hp => ?_⟩
  obtain ⟨ow, B, hp'⟩ := A1
  obtain ⟨g1, g2⟩ := DvAll.split hv hp'
  have e : Same H1 (upd H1 p (.lst vs)) := same_new hp
  exact q _ _ ⟨ow, B.step (.of e) (B.cok.mono e), .cons (.lst (new_vis B.hall hp) (g1.mono (vis_of e))) (g2.mono (vis_of e))⟩⟩
theorem cs_one {op} (h : CS X S e t d) : CS X S (.BoolOp op [e] pos) t d := ⟨pe_one h.pe, h.sd⟩
theorem cs_andB {k l : Bool} (ha : CS X S e ta (.bool k)) (hb : CS X S (.BoolOp .And (b :: rest) pos) tb (.bool l)) : CS X S (.BoolOp .And (e :: b :: rest) pos) (tAndT X.K ta tb) (.bool (k && l)) := ⟨pe_andT ha.pe hb.pe, fun M σ H ρ pv pd Q A hs q => by
  refine ha.sd M σ H ρ pv pd _ A hs fun v H1 A1 => ?_
  have A2 := A1.pop
  have A3 := A1
  obtain ⟨ow, B, hp⟩ := A1
  cases hp with
  | cons g _ =>
    refine ⟨k, tru_of rfl g, ?_⟩
    cases k with
    | true =>
      rw [if_pos rfl]
      exact hb.sd M σ H1 ρ pv pd _ A2 hs q
    | false =>
      rw [if_neg Bool.false_ne_true]
      exact q _ _ A3⟩
end
/-! ## the clauses as data -/
/-- only the way of return counts -/
def onlyRt (DD : DEnds) : DEnds := { nx := fun _ => False, rt := DD.rt }
inductive ClausesD (X : Cx) (ca : Nat → Addr) (N : Nat) : List ExceptHandler → List (Value × HT) → List (Nat × (Nat → WS)) → Prop
  | nil : ClausesD X ca N [] [] []
  | bare {x : Str} {m : Nat} {ts : TS} {w : WS} {st : Stmt} {sts : List Stmt} {p p' : Pos} {es : List ExceptHandler} {l : List (Value × HT)} {lw : List (Nat × (Nat → WS))} (hc : Names X x (.ref (ca m)))
      (hs : ∀ (a : Addr) (o : Obj) (pn : List (Addr × Obj)), ∃ ts', DSs (X.suite a ((a, o) :: pn)) (st :: sts) ts' w ∧ ts' = ts) (r : ClausesD X ca N es l lw) :
      ClausesD X ca N (.ExceptHandler (some (.Name x p)) none (st :: sts) p' :: es) ((.ref (ca m), fun _ _ _ => ts) :: l) ((m, fun _ => w) :: lw)
  | asRet {x n : Str} {i m : Nat} {f : Nat → D} {e : Expr} {tc : Addr → Nat → TE} {p p' pr : Pos} {es : List ExceptHandler} {l : List (Value × HT)} {lw : List (Nat × (Nat → WS))} (hc : Names X x (.ref (ca m))) (nd : X.N.Nodup) (hi : X.N[i]? = some n) (hl : X.env.kindOf n = some .local)
      (hs : ∀ (a : Addr) (o : Obj) (c : Nat) (pn : List (Addr × Obj)), c < N → Zc (.ref (ca c)) none o → (∃ fs, o.data = .fields fs) → ∃ t', CE (X.suite a ((a, o) :: pn)) i a e t' (f c) ∧ t' = tc a c) (r : ClausesD X ca N es l lw) :
      ClausesD X ca N (.ExceptHandler (some (.Name x p)) (some n) [.Return (some e) pr] p' :: es) ((.ref (ca m), named i fun a cl d D σ H => ∃ c, c < N ∧ cl = .ref (ca c) ∧ d = none ∧ tRet (tc a c) D σ H) :: l) ((m, fun c DD ρ => i < ρ.length ∧ DD.rt (f c)) :: lw)
  | asSet {x n g : Str} {i j m : Nat} {f : Nat → D} {k : Nat → Bool} {e1 e2 : Expr} {t1 t2 : Addr → Nat → TE} {p p' pr pg pa : Pos} {es : List ExceptHandler} {l : List (Value × HT)} {lw : List (Nat × (Nat → WS))} (hc : Names X x (.ref (ca m))) (nd : X.N.Nodup) (hi : X.N[i]? = some n) (hl : X.env.kindOf n = some .local) (hij : i ≠ j)
      (h1 : ∀ (a : Addr) (o : Obj) (c : Nat) (pn : List (Addr × Obj)), c < N → Zc (.ref (ca c)) none o → (∃ fs, o.data = .fields fs) → ∃ t', CE (X.suite a ((a, o) :: pn)) i a e1 t' (.bool (k c)) ∧ t' = t1 a c)
      (hp : ∀ (a : Addr) (o : Obj) (c : Nat) (pn : List (Addr × Obj)), PE (X.suite a ((a, o) :: pn)) e1 (t1 a c) → PS (X.suite a ((a, o) :: pn)) (.Assign [.Name g pg] e1 pa) (tAsg (t1 a c) (gName j)))
      (h2 : ∀ (a : Addr) (o : Obj) (c : Nat) (pn : List (Addr × Obj)), c < N → Zc (.ref (ca c)) none o → (∃ fs, o.data = .fields fs) → ∃ t', CS (X.suite a ((a, o) :: pn)) (fun σ => σ[i]? = some (some (.ref a)) ∧ σ[j]? = some (some (.bl (k c)))) e2 t' (f c) ∧ t' = t2 a c) (r : ClausesD X ca N es l lw) :
      ClausesD X ca N (.ExceptHandler (some (.Name x p)) (some n) [.Assign [.Name g pg] e1 pa, .Return (some e2) pr] p' :: es) ((.ref (ca m), named i fun a cl d D σ H => ∃ c, c < N ∧ cl = .ref (ca c) ∧ d = none ∧ tSeq (tAsg (t1 a c) (gName j)) (tRet (t2 a c)) D σ H) :: l) ((m, fun c DD ρ => i < ρ.length ∧ j < ρ.length ∧ DD.rt (f c)) :: lw)
theorem ClausesD.ps {X : Cx} {ca : Nat → Addr} {N : Nat} {es : List ExceptHandler} {l : List (Value × HT)} {lw : List (Nat × (Nat → WS))} (h : ClausesD X ca N es l lw) : Clauses X es l := by
  induction h with
  | nil => exact .nil
  | bare hc hs r ih =>
    refine .bare hc (fun a o cl d pn _ _ => ?_) ih
    obtain ⟨ts', h, rfl⟩ := hs a o pn
    exact h.ps
  | asRet hc nd hi hl hs r ih =>
    refine .asN hc nd hi hl (fun a o cl d pn z f => ?_) ih
    refine pss_one ⟨fun pins s σ H D I h => ?_⟩
    obtain ⟨c, hcN, rfl, rfl, hr⟩ := h
    obtain ⟨t', ht, e⟩ := hs a o c pn hcN z f
    rw [← e] at hr
    exact (ps_ret ht.pe).run pins s σ H D I hr
  | asSet hc nd hi hl hij h1 hp h2 r ih =>
    refine .asN hc nd hi hl (fun a o cl d pn z f => ?_) ih
    refine ⟨fun pins s σ H D I h => ?_⟩
    obtain ⟨c, hcN, rfl, rfl, hr⟩ := h
    obtain ⟨t1', ht1, e1⟩ := h1 a o c pn hcN z f
    obtain ⟨t2', ht2, e2⟩ := h2 a o c pn hcN z f
    have p1 := ht1.pe
    rw [e1] at p1
    have p2 := ht2.pe
    rw [e2] at p2
    exact (pss_cons (hp a o c pn p1) (pss_one (ps_ret p2))).run pins s σ H D I hr
def catchD (sub : Nat → Nat → Bool) (DD : DEnds) (xp : XP) (c : Nat) (ρ : Rho) : List (Nat × (Nat → WS)) → Prop
  | [] => xp c ρ
  | (m, hw) :: r => if sub c m = true then hw c DD ρ else catchD sub DD xp c ρ r
/-- the table of what is a subclass of what -/
def SubOk (K : Fg) (ca : Nat → Addr) (N : Nat) (sub : Nat → Nat → Bool) : Prop := ∀ c m, c < N → m < N → PySem.W.exmOne K (.ref (ca c)) (.ref (ca m)) = some (sub c m)
theorem At.len {K : Fg} {M : Amb} {σ : L2.St} {H : Hp} {ρ : Rho} {pv : List V} {pd : List D} (A : At K M σ H ρ pv pd) : σ.length = ρ.length := by
  obtain ⟨ow, B, _⟩ := A
  exact B.len
theorem catch_snd {X : Cx} {ca : Nat → Addr} {N : Nat} {sub : Nat → Nat → Bool} {es : List ExceptHandler} {l : List (Value × HT)} {lw : List (Nat × (Nat → WS))} (h : ClausesD X ca N es l lw) (S : SubOk X.K ca N sub) (hm : ∀ q ∈ lw, q.1 < N) {Wo : WX} {M : Amb} {pv : List V} {pd : List D} {DD : DEnds} {HD : Ends} {xp : XP}
    (F : Fin X.K M pv pd DD HD) (o : Out X.K ca Wo M pv pd xp) (c : Nat) (hc : c < N) (sX : Addr → Obj) (zX : ∀ a, Zc (.ref (ca c)) none (sX a)) (fX : ∀ a, ∃ fs, (sX a).data = .fields fs) : ∀ (σ : L2.St) (H : Hp) (ρ : Rho), At X.K M σ H ρ pv pd → catchD sub DD xp c ρ lw → wCatch X.K Wo HD l (.ref (ca c)) none σ H := by
  induction h with
  | nil => exact fun σ H ρ A x => o c σ H ρ [] [] rfl A x
  | @bare x m ts w st sts p p' es l lw hn hs r ih =>
    intro σ H ρ A x
    refine ⟨sub c m, S c m hc (hm (m, fun _ => w) (List.mem_cons_self ..)), fun hb a ha => ?_, fun hb => ?_⟩
    · unfold catchD at x
      rw [if_pos hb] at x
      obtain ⟨ts', ht, rfl⟩ := hs a (sX a) []
      exact ht.sd M σ H ρ pv pd DD HD A x F
    · unfold catchD at x
      rw [if_neg (by rw [hb]; exact Bool.false_ne_true)] at x
      exact ih (fun q hq => hm q (List.mem_cons_of_mem _ hq)) σ H ρ A x
  | @asRet x n i m f e tc p p' pr es l lw hn nd hi hl hs r ih =>
    intro σ H ρ A x
    refine ⟨sub c m, S c m hc (hm (m, fun c DD ρ => i < ρ.length ∧ DD.rt (f c)) (List.mem_cons_self ..)), fun hb a ha => ?_, fun hb => ?_⟩
    · unfold catchD at x
      rw [if_pos hb] at x
      obtain ⟨x1, x2⟩ := x
      have A2 : At X.K M (σ.set i (some (.ref a))) H (put ρ i .un) pv pd := A.unset i (by rw [List.length_set]) fun j hj => by rw [List.getElem?_set_ne (fun z => hj z.symm)]
      have hσ : (σ.set i (some (V.ref a)))[i]? = some (some (.ref a)) := List.getElem?_set_self (by rw [A.len]; exact x1)
      refine ⟨c, hc, rfl, rfl, ?_⟩
      obtain ⟨t', ht, e⟩ := hs a (sX a) c [] hc (zX a) (fX a)
      rw [← e]
      refine ht.sd M _ H _ pv pd _ A2 hσ fun v H' A' => ?_
      obtain ⟨ow, B, hp⟩ := A'
      cases hp with
      | cons g1 g2 => exact F.rt v (f c) H' B.evo B.cok (g1.mono (hide_same fun b o n h => ⟨fun z => n (.inl z), h⟩)) x2
    · unfold catchD at x
      rw [if_neg (by rw [hb]; exact Bool.false_ne_true)] at x
      exact ih (fun q hq => hm q (List.mem_cons_of_mem _ hq)) σ H ρ A x
  | @asSet x n g i j m f k e1 e2 t1 t2 p p' pr pg pa es l lw hn nd hi hl hij h1 hp h2 r ih =>
    intro σ H ρ A x
    refine ⟨sub c m, S c m hc (hm (m, fun c DD ρ => i < ρ.length ∧ j < ρ.length ∧ DD.rt (f c)) (List.mem_cons_self ..)), fun hb a ha => ?_, fun hb => ?_⟩
    · unfold catchD at x
      rw [if_pos hb] at x
      obtain ⟨x1, x2, x3⟩ := x
      have A2 : At X.K M (σ.set i (some (.ref a))) H (put ρ i .un) pv pd := A.unset i (by rw [List.length_set]) fun j hj => by rw [List.getElem?_set_ne (fun z => hj z.symm)]
      have hσ : (σ.set i (some (V.ref a)))[i]? = some (some (.ref a)) := List.getElem?_set_self (by rw [A.len]; exact x1)
      refine ⟨c, hc, rfl, rfl, ?_⟩
      obtain ⟨t1', ht1, e1⟩ := h1 a (sX a) c [] hc (zX a) (fX a)
      obtain ⟨t2', ht2, e2⟩ := h2 a (sX a) c [] hc (zX a) (fX a)
      rw [← e1, ← e2]
      refine ht1.sd M _ H _ pv pd _ A2 hσ fun v H1 A3 => ?_
      have hv : v = .bl (k c) := by
        obtain ⟨ow, B, hp⟩ := A3
        cases hp with
        | cons g1 g2 => cases g1; rfl
      subst hv
      have A4 := A3.pop
      have A5 : At X.K M ((σ.set i (some (.ref a))).set j (some (.bl (k c)))) H1 (put (put ρ i .un) j .un) pv pd := A4.unset j (by rw [List.length_set]) fun j' hj => by rw [List.getElem?_set_ne (fun z => hj z.symm)]
      refine ht2.sd M _ H1 _ pv pd _ A5 ⟨?_, ?_⟩ fun v H' A' => ?_
      · rw [List.getElem?_set_ne (fun z => hij z.symm)]; exact hσ
      · exact List.getElem?_set_self (by rw [List.length_set, A.len]; exact x2)
      · obtain ⟨ow, B, hp⟩ := A'
        cases hp with
        | cons g1 g2 => exact F.rt v (f c) H' B.evo B.cok (g1.mono (hide_same fun b o n h => ⟨fun z => n (.inl z), h⟩)) x3
    · unfold catchD at x
      rw [if_neg (by rw [hb]; exact Bool.false_ne_true)] at x
      exact ih (fun q hq => hm q (List.mem_cons_of_mem _ hq)) σ H ρ A x
def xTry (wb : WSX) (N : Nat) (sub : Nat → Nat → Bool) (lw : List (Nat × (Nat → WS))) : WSX := fun DD xp ρ => wb DD (fun c ρ' => c < N ∧ catchD sub DD xp c ρ' lw) ρ
/-- try, in a def that lets nothing out -/
def wTry (wb : WSX) (N : Nat) (sub : Nat → Nat → Bool) (lw : List (Nat × (Nat → WS))) : WS := fun DD ρ => xTry wb N sub lw DD (fun _ _ => False) ρ
theorem excO_z (C : Addr) : Zc (.ref C) none ({ cls := .ref C, data := .fields #[] } : Obj) := ⟨rfl, rfl⟩
theorem dsx_try {X : Cx} {ca : Nat → Addr} {W : WX} {N : Nat} {sub : Nat → Nat → Bool} {body : List Stmt} {e0 : ExceptHandler} {es : List ExceptHandler} {l : List (Value × HT)} {lw : List (Nat × (Nat → WS))} {pos : Pos} {tb : WX → TS} {wb : WSX} (S : SubOk X.K ca N sub) (hm : ∀ q ∈ lw, q.1 < N)
    (stk : X.stack = X.env :: X.outer) (frm : X.env.frame = some X.env.locals) (tko : Takes X W)
    (bd : ∀ (V : WX) (pn : List (Addr × Obj)) (E : Value → Shared → Prop), Takes (X.tr pn E) V → PassesOwn (model X.prog X.w) X.A X.env E → DSsX (X.tr pn E) ca V body (tb V) wb) (cls : ClausesD X ca N (e0 :: es) l lw) :
    DSX X ca W (.Try body (e0 :: es) [] [] pos) (fun D σ H => tb (wCatch X.K W D l) D σ H) (xTry wb N sub lw) :=
  ⟨ps_tryN stk frm tko (fun V pn E tk po => (bd V pn E tk po).ps) cls.ps, fun M σ H ρ pv pd DD xp HD A h F o => by
    have B := (bd (wCatch X.K W HD l) [] (fun e t1 => wpAny (model X.prog X.w) X.A (noteFrame e X.env) (fun _ t2 => wpAny (model X.prog X.w) X.A (setFlight e none) (fun _ _ => True) (fun _ _ => True) t2) (fun _ _ => True) t1) ?_ PassesOwn.looking).sd
    · refine B M σ H ρ pv pd DD _ HD A h F fun c σ' H' ρ' qv qd hl A' x => ?_
      exact catch_snd cls S hm F o c x.1 (fun a => { cls := .ref (ca c), data := .fields #[] }) (fun a => excO_z _) (fun a => ⟨_, rfl⟩) σ' H' ρ' (At.popA A' hl) x.2
    · rintro _ t0 ⟨a, B, sI, q', τ, G, cl, d, rfl, I, gro, upw, air, fresh, oss, bar, wsh⟩
      exact Sky.land Zc.steady (I.ok.frames.trans (congrArg some stk)) frm (by rw [show (X.tr [] _).stack = X.env :: X.outer from stk] at air; exact air) fun _ _ _ => trivial⟩
theorem ds_try {X : Cx} {ca : Nat → Addr} {N : Nat} {sub : Nat → Nat → Bool} {body : List Stmt} {e0 : ExceptHandler} {es : List ExceptHandler} {l : List (Value × HT)} {lw : List (Nat × (Nat → WS))} {pos : Pos} {tb : WX → TS} {wb : WSX} (S : SubOk X.K ca N sub) (hm : ∀ q ∈ lw, q.1 < N)
    (stk : X.stack = X.env :: X.outer) (frm : X.env.frame = some X.env.locals)
    (bd : ∀ (V : WX) (pn : List (Addr × Obj)) (E : Value → Shared → Prop), Takes (X.tr pn E) V → PassesOwn (model X.prog X.w) X.A X.env E → DSsX (X.tr pn E) ca V body (tb V) wb) (cls : ClausesD X ca N (e0 :: es) l lw) :
    DS X (.Try body (e0 :: es) [] [] pos) (fun D σ H => tb (wCatch X.K (fun _ _ _ _ => False) D l) D σ H) (wTry wb N sub lw) := by
  have h := dsx_try S hm stk frm (W := fun _ _ _ _ => False) takes0 bd cls (pos := pos)
  exact ⟨h.ps, fun M σ H ρ pv pd DD HD A h1 F => h.sd M σ H ρ pv pd DD (fun _ _ => False) HD A h1 F fun _ _ _ _ _ _ _ _ z => z⟩
end DL

namespace DL
open PySem PySem.Spec PyProof.Rows L2
/-! ## a loop over something that may raise before it begins -/
abbrev WIX := Rho → XP → (List D → Rho → Prop) → Prop
def SndIX (K : Fg) (ca : Nat → Addr) (W : WX) (wi : TI) (w : WIX) : Prop := ∀ (M : Amb) (σ : L2.St) (H : Hp) (ρ : Rho) (pv : List V) (pd : List D) (xp : XP) (P : List D → Rho → Prop) (R : It → Hp → Prop),
  At K M σ H ρ pv pd → w ρ xp P → Out K ca W M pv pd xp → (∀ J H1 ρ1 v d ds, At K M σ H1 ρ1 (v :: pv) (d :: pd) → SrcOk K J v d ds → P ds ρ1 → R J H1) → wi σ H R
structure DIX (X : Cx) (ca : Nat → Addr) (W : WX) (tg iter : Expr) (wi : TI) (w : WIX) : Prop where
  pi : PI X tg iter wi
  sd : SndIX X.K ca W wi w
def xiLst (wa : WEX) : WIX := fun ρ xp P => wa ρ xp fun d ρ1 => match d with
  | .list ds => P ds ρ1
  | _ => False
def xiTup (wa : WEX) : WIX := fun ρ xp P => wa ρ xp fun d ρ1 => match d with
  | .tuple ds => P ds ρ1
  | _ => False
def xForX (wI : WIX) (wg : WG) (wb : WSX) : WSX := fun DD xp ρ => wI ρ xp fun ds ρ1 => xForD ds wg wb DD xp ρ1
section
variable {X : Cx} {K : Fg} {ca : Nat → Addr} {W : WX} {a e tg : Expr} {ta : TE} {xa : WEX} {pos : Pos} {g : TG} {wg : WG} {sts : List Stmt} {ts : TS} {w : WSX}
theorem dix_lst (hi : DEX X ca W e ta xa) : DIX X ca W tg e (iList X.K ta) (xiLst xa) := ⟨pi_list hi.pe, fun M σ H ρ pv pd xp P R A h o q => by
  refine hi.sd M σ H ρ pv pd xp _ _ A h o fun v d H1 ρ1 A1 h1 => ?_
  obtain ⟨ds, rfl⟩ : ∃ ds, d = .list ds := by cases d <;> first | exact ⟨_, rfl⟩ | exact h1.elim
  have A2 := A1
  obtain ⟨ow, B, hp⟩ := A1
  cases hp with
  | cons g1 hp =>
    cases g1 with
    | @lst l xs _ g1 g2 => exact ⟨l, rfl, ⟨xs, .of (hide_le _ _ g1)⟩, q _ _ _ _ _ _ A2 src_lst h1⟩⟩
theorem dix_tup (hi : DEX X ca W e ta xa) : DIX X ca W tg e (iTup X.K ta) (xiTup xa) := ⟨pi_tup hi.pe, fun M σ H ρ pv pd xp P R A h o q => by
  refine hi.sd M σ H ρ pv pd xp _ _ A h o fun v d H1 ρ1 A1 h1 => ?_
  obtain ⟨ds, rfl⟩ : ∃ ds, d = .tuple ds := by cases d <;> first | exact ⟨_, rfl⟩ | exact h1.elim
  have A2 := A1
  obtain ⟨ow, B, hp⟩ := A1
  cases hp with
  | cons g1 hp =>
    cases g1 with
    | @tup l xs _ g1 g2 => exact ⟨l, rfl, ⟨xs, same_t hide_le g1⟩, q _ _ _ _ _ _ A2 src_tup h1⟩⟩
theorem dsx_forX {iter : Expr} {wi : TI} {wI : WIX} (hN : PassesOwn (model X.prog X.w) X.A X.env X.xe) (hc : X.calm = true) (hi : DIX X ca W a iter wi wI) (hg : DG X a g wg) (hb : DSsX X ca W sts ts w) (hfs : ∀ x, foldedSetIterable iter X.env x = pure x := by intro _; rfl) :
    DSX X ca W (.For a iter sts [] pos) (tFor wi g ts) (xForX wI wg w) := ⟨ps_for hN hc hi.pi hg.pg hb.ps hfs, fun M σ H ρ pv pd DD xp HD A h F o => by
  refine hi.sd M σ H ρ pv pd xp _ _ A h o fun J H1 ρ1 v d ds A1 sk h1 => ?_
  obtain ⟨I, h0, hs, hd⟩ := h1
  refine ⟨fun i m σ' H' => ∃ ρ', At X.K M σ' H' ρ' (v :: pv) (d :: pd) ∧ I i ρ' ∧ i + m = ds.length, ⟨ds.length, ρ1, A1, h0, by omega⟩, ?_⟩
  rintro i m σ2 H2 ⟨ρ2, A2, i2, em⟩
  by_cases hi : i < ds.length
  · obtain ⟨g1, g2⟩ := (sk M σ2 H2 ρ2 pv pd A2).1 i hi
    refine .inr ⟨g1, fun σ' H' => ∃ ρ', At X.K M σ' H' ρ' (v :: pv) (d :: pd) ∧ I (i + 1) ρ', fun σ' H' ⟨ρ', A', i'⟩ => ⟨m - 1, by omega, ρ', A', i', by omega⟩, fun x H' hy => ?_⟩
    refine hg.sd M σ2 _ ρ2 (v :: pv) (d :: pd) x ds[i] _ _ (g2 x H' hy) (hs i ds[i] ρ2 (List.getElem?_eq_getElem hi) i2) fun σ' H'' ρ' A' h' => ?_
    exact hb.sd M σ' H'' ρ' _ _ _ xp _ A' h' ⟨fun σ' H' ρ' A' h' => ⟨ρ', A', h'⟩, F.rt, fun σ' H' ρ' A' h' => F.nx _ _ _ A'.pop h', fun σ' H' ρ' A' h' => ⟨ρ', A', h'⟩⟩ (o.one v d)
  · have ei : i = ds.length := by omega
    subst ei
    exact .inl ⟨(sk M σ2 H2 ρ2 pv pd A2).2, F.nx _ _ _ A2.pop (hd _ i2)⟩⟩
end
end DL

namespace DL
open PySem PySem.Spec PyProof.Rows L2
/-! ## defs as values: a def of the module is the data {its name: None} -/
def fnD (x : Str) : D := .dict [(.str x, .none)]
theorem de_fn {X : Cx} {x : Str} {f : Addr} {p : Pos} (hg : Gl X x) (hm : X.mg x = some (.ref f)) (hn : PySem.W.nsIn X.K mainGlobals x = some (some (Value.ref f))) (hd : (x == ("__debug__" : Str)) = false := by decide) : DE X (.Name x p) (tC (.ref f)) (wC (fnD x)) :=
  ⟨pe_glob hg hm rfl hd, snd_c fun _ _ => .fn hn⟩
/-- what a def promises -/
structure FS where
  pre : List D → Prop
  post : List D → D → Prop
  exn : List D → Nat → Prop
structure HeldF (P : Program) (w : World) (K : Fg) (mg : Str → Option Value) (base : Heap) (ca : Nat → Addr) (k : Nat) (f : Addr) (s : FS) : Prop where
  ex : ∃ (fd : FuncData) (ps : List Str), FnOk P w K mg base (L2.CX P w) k f fd ps (SpX K ca s.pre s.post s.exn) ∧ PySem.W.keepIn K (.ref f) = true ∧ Binds K fd ps []
/-- the defs of a table keep their promises -/
def TabOk (P : Program) (w : World) (K : Fg) (mg : Str → Option Value) (base : Heap) (ca : Nat → Addr) (k : Nat) (tb : Str → FS → Prop) : Prop := ∀ x s, tb x s → ∃ f, PySem.W.nsIn K mainGlobals x = some (some (Value.ref f)) ∧ HeldF P w K mg base ca k f s
def tCallF (K : Fg) (ca : Nat → Addr) (i : Nat) (S : Addr → FS → Prop) (E : L2.St → XK) (t : TA) : TE := fun σ H Q => ∃ f s, σ[i]? = some (some (.ref f)) ∧ S f s ∧ t σ H fun vs H1 => SpX K ca s.pre s.post s.exn (vs ++ []) H1 Q (E σ)
section
variable {X : Cx} {ca : Nat → Addr} {W : WX} {e : Expr} {es : List Expr} {t : TA} {xr : WAX} {pos p : Pos}
theorem pe_callF {k i : Nat} {x : Str} {S : Addr → FS → Prop} (hS : ∀ f s, S f s → HeldF X.prog X.w X.K X.mg X.base ca k f s) (hr : Room k X.A) (hN : X.N[i]? = some x) (hv : Vis X.env.scope x) {E : L2.St → XK} (hx : ∀ σ, PassesAt (L2.CX X.prog X.w) X σ (E σ)) (ha : PA X (e :: es) t)
    (hdb : (x == ("__debug__" : Str)) = false := by decide) (hcd : (x == ("__classdict__" : Str)) = false := by decide)
    (he : starEach (e :: es) X.env = (false, eval e X.env) :: starEach es X.env := by rfl) (hpl : (backTo pos (starEach es X.env)).any (·.1) = false := by rfl) : PE X (.Call (.Name x p) (e :: es) [] pos) (tCallF X.K ca i S E t) := by
  refine ⟨fun pins s σ H Q I h => ?_⟩
  obtain ⟨f, sp, hs, hS', ht⟩ := h
  obtain ⟨fd, ps, F, hk, hb⟩ := (hS f sp hS').ex
  refine wpAny_Call_Name_kw (thn ((pe_var (pos := p) hN hv hdb hcd).run pins s σ H (fun v H1 => v = .ref f ∧ H1 = H) I ⟨.ref f, hs, rfl, rfl⟩) fun u s1 ⟨v, H1, I1, r1, q1⟩ => ?_)
  obtain ⟨rfl, rfl⟩ := q1
  cases r1
  refine PySem.W.callWith_K (h₀ := X.base) I.ok.mod.kin hk (thn (ha.run pos pins s1 σ _ _ I1 ht) fun us s2 ⟨vs, H2, I2, r, q⟩ => ⟨I2.kIn, ?_⟩) he hpl
  exact run_fnSD F hr hb .nil (hx σ) I2 r q
def xCallF (tb : Str → FS → Prop) (i : Nat) (wa : WAX) : WEX := fun ρ xp P => ∃ y s, look ρ i = .val (fnD y) ∧ tb y s ∧ wa ρ xp fun ds ρ1 => s.pre ds ∧ (∀ d, s.post ds d → P d ρ1) ∧ ∀ c, s.exn ds c → xp c ρ1
theorem dex_callF {k i : Nat} {x : Str} {tb : Str → FS → Prop} (TB : TabOk X.prog X.w X.K X.mg X.base ca k tb) (hr : Room k X.A) (tk : Takes X W) (ha : DAX X ca W (e :: es) t xr) (hN : X.N[i]? = some x := by rfl) (hv : Vis X.env.scope x := by first | exact Or.inl rfl | exact Or.inr (Or.inl rfl) | exact Or.inr (Or.inr rfl))
    (hdb : (x == ("__debug__" : Str)) = false := by decide) (hcd : (x == ("__classdict__" : Str)) = false := by decide)
    (he : starEach (e :: es) X.env = (false, eval e X.env) :: starEach es X.env := by rfl) (hpl : (backTo pos (starEach es X.env)).any (·.1) = false := by rfl) :
    DEX X ca W (.Call (.Name x p) (e :: es) [] pos) (tCallF X.K ca i (fun f s => ∃ y, tb y s ∧ PySem.W.nsIn X.K mainGlobals y = some (some (Value.ref f))) (fun σ cl d H => W cl d σ H) t) (xCallF tb i xr) :=
  ⟨pe_callF (k := k) (fun f s h => by
      obtain ⟨y, h1, h2⟩ := h
      obtain ⟨f', h3, h4⟩ := TB y s h1
      rw [h2] at h3
      simp only [Option.some.injEq, Value.ref.injEq] at h3
      subst h3
      exact h4) hr hN hv (passW tk) ha.pa hdb hcd he hpl, by
    intro M σ H ρ pv pd xp P Q A hw o q
    obtain ⟨y, s, hy, hs, hw⟩ := hw
    have A0 := A
    obtain ⟨ow0, B0, _⟩ := A0
    obtain ⟨v, hv1, hv2⟩ := B0.val i _ hy
    cases hv2 with
    | @fn a x' hn =>
      refine ⟨a, s, hv1, ⟨y, hs, hn⟩, ?_⟩
      refine ha.sd M σ H ρ pv pd xp _ _ A hw o fun vs ds H1 ρ1 hl A1 h1 => ?_
      obtain ⟨ow, B, hp⟩ := A1
      obtain ⟨g1, g2⟩ := DvAll.split hl hp
      show SpX X.K ca s.pre s.post s.exn (vs ++ []) H1 Q _
      rw [List.append_nil]
      refine ⟨M.lc, M.hc, hdO M ow, ds, g1, B.cok, fun b z => .inl (B.sub b z), B.hall, h1.1, fun v d H' e c g p => ?_, fun c H' e c' x => ?_⟩
      · exact q v d H' ρ1 ⟨ow, B.step e c, .cons g (g2.mono (B.vis e))⟩ (h1.2.1 d p)
      · exact o c σ H' ρ1 [] [] rfl ⟨ow, B.step e c', g2.mono (B.vis e)⟩ (h1.2.2 c x)⟩
end
section
variable {X : Cx} {K : Fg} {ca : Nat → Addr} {W : WX} {a e tg : Expr} {es : List Expr} {t : TA} {xr : WAX} {pos p p2 : Pos}
/-- a call of a built-in, an argument of which may raise -/
theorem dex_callB {id : String} {x : Str} {r : List V → Hp → VK → Prop} {wc : List D → (D → Prop) → Prop} (hc : CallR X (.builtin id) r) (hs : SnC X.K r wc) (hg : Gl X x) (hm : X.mg x = none) (hv : bootBuiltins x = some (.builtin id)) (ha : DAX X ca W (e :: es) t xr) (hn : x ≠ "__name__" := by decide)
    (hdb : (x == ("__debug__" : Str)) = false := by decide) (he : starEach (e :: es) X.env = (false, eval e X.env) :: starEach es X.env := by rfl) (hpl : (backTo pos (starEach es X.env)).any (·.1) = false := by rfl) : DEX X ca W (.Call (.Name x p) (e :: es) [] pos) (tCB r t) (xB wc xr) :=
  ⟨pe_callB hc hg hm hv ha.pa hn hdb he hpl, fun M σ H ρ pv pd xp P Q A hw o q => by
    refine ha.sd M σ H ρ pv pd xp _ _ A hw o fun vs ds H1 ρ1 hl A1 h1 => ?_
    obtain ⟨ow, B, hp⟩ := A1
    obtain ⟨g1, g2⟩ := DvAll.split hl hp
    refine hs M.lc (hdO M ow) H1 vs ds _ _ B.hall g1 h1 fun v d H' e g p => ?_
    exact q v d H' ρ1 ⟨ow, B.step (.of e) (B.cok.mono e), .cons g (g2.mono (vis_of e))⟩ p⟩
def xiR1 (wa : WAX) : WIX := fun ρ xp P => wa ρ xp fun ds ρ1 => match ds with
  | [.int j] => rngOk j ∧ P (rngD 0 j.toNat) ρ1
  | _ => False
theorem dix_rng1 (hgl : Gl X "range") (hm : X.mg "range" = none) (ha : DAX X ca W [a] t xr) (hs : starEach [a] X.env = [(false, eval a X.env)] := by rfl) : DIX X ca W tg (.Call (.Name "range" p) [a] [] p2) (iRng1 t) (xiR1 xr) := ⟨pi_range1 hgl hm ha.pa hs, fun M σ H ρ pv pd xp P R A h o q => by
  refine ha.sd M σ H ρ pv pd xp _ _ A h o fun vs ds H1 ρ1 hl A1 h1 => ?_
  split at h1
  · next j =>
    have A2 := (At.popA A1 hl).dum
    obtain ⟨ow, B, hp⟩ := A1
    obtain ⟨v, rfl, gv⟩ := da1 (DvAll.split hl hp).1
    cases gv
    exact ⟨j, rfl, h1.1.1, h1.1.2, q _ _ _ _ _ _ A2 src_rng h1.2⟩
  · exact h1.elim⟩
end
/-- what is never reached, where something may be raised -/
def xNever : WSX := fun _ _ _ => False
theorem dsx_never {X : Cx} {ca : Nat → Addr} {W : WX} {st : Stmt} : DSX X ca W st tNever xNever := ⟨ps_never, fun M σ H ρ pv pd DD xp HD A h F o => h.elim⟩
theorem dssx_never {X : Cx} {ca : Nat → Addr} {W : WX} {sts : List Stmt} : DSsX X ca W sts tNever xNever := ⟨pss_never, fun M σ H ρ pv pd DD xp HD A h F o => h.elim⟩
/-- a table, row by row -/
def tabC (x : Str) (s : FS) (r : Str → Option FS) : Str → Option FS := fun y => if y = x then some s else r y
def tabN : Str → Option FS := fun _ => none
theorem tabC_hit {x : Str} {s : FS} {r : Str → Option FS} : tabC x s r x = some s := if_pos rfl
theorem tabC_skip {x y : Str} {s t : FS} {r : Str → Option FS} (h : y ≠ x) (k : r y = some t) : tabC x s r y = some t := (if_neg h).trans k
section
variable {P : Program} {w : World} {K : Fg} {mg : Str → Option Value} {base : Heap} {ca : Nat → Addr} {k : Nat}
theorem HeldF.of {j : Nat} {f : Addr} {fd : FuncData} {ps : List Str} {pre : List D → Prop} {post : List D → D → Prop} {exn : List D → Nat → Prop} (F : FnOk P w K mg base (L2.CX P w) j f fd ps (SpX K ca pre post exn)) (hj : j ≤ k) (kp : PySem.W.keepIn K (.ref f) = true) (b : Binds K fd ps []) : HeldF P w K mg base ca k f ⟨pre, post, exn⟩ := ⟨fd, ps, F.mono hj, kp, b⟩
theorem tabOk_nil : TabOk P w K mg base ca k (fun x s => tabN x = some s) := fun x s h => by cases h
theorem tabOk_cons {x : Str} {s : FS} {f : Addr} {r : Str → Option FS} (n : PySem.W.nsIn K mainGlobals x = some (some (Value.ref f))) (h : HeldF P w K mg base ca k f s) (k' : TabOk P w K mg base ca k (fun x s => r x = some s)) : TabOk P w K mg base ca k (fun y t => tabC x s r y = some t) := fun y t e => by
  have e : (if y = x then some s else r y) = some t := e
  by_cases c : y = x
  · rw [if_pos c] at e
    cases e
    subst c
    exact ⟨f, n, h⟩
  · rw [if_neg c] at e
    exact k' y t e
end
end DL

namespace My
structure Common (a b g s t : Int) : Prop where
  hg : g = (Nat.gcd a.natAbs b.natAbs : Nat)
  heq : s * a + t * b = g
  t0 : b = 0 → t = 0
  s0 : a = 0 → s = 0
  bs : a ≠ 0 → b ≠ 0 → s.natAbs ≤ b.natAbs / g.natAbs
  bt : a ≠ 0 → b ≠ 0 → t.natAbs ≤ a.natAbs / g.natAbs
/-- the state of Euclid's algorithm for A and B: remainders r0, r1, the sizes of the coefficients, e their sign -/
structure Euc (A B r0 r1 S0 S1 T0 T1 e : Int) : Prop where
  he : e = 1 ∨ e = -1
  eq0 : r0 = e * S0 * A - e * T0 * B
  eq1 : r1 = -e * S1 * A + e * T1 * B
  n0 : 0 ≤ r0
  n1 : 0 ≤ r1
  sn0 : 0 ≤ S0
  sn1 : 0 ≤ S1
  tn0 : 0 ≤ T0
  tn1 : 0 ≤ T1
  sB : S1 * r0 + S0 * r1 = B
  tA : T1 * r0 + T0 * r1 = A
  gc : Int.gcd r0 r1 = Int.gcd A B
  lt : (S0 = 1 ∧ S1 = 0 ∧ T0 = 0 ∧ T1 = 1 ∧ r0 = A ∧ r1 = B) ∨ r1 < r0
  sl : (S0 = 1 ∧ S1 = 0 ∧ r1 = B) ∨ S0 ≤ S1
  tl : (T0 = 1 ∧ T1 = 0 ∧ r0 = B ∧ r1 = A) ∨ T0 ≤ T1
  a0 : A = 0 → (S0 = 1 ∧ S1 = 0 ∧ r1 = B) ∨ (S0 = 0 ∧ r1 = 0)
  b0 : B = 0 → T0 = 0
theorem Euc.start {A B : Int} (hA : 0 ≤ A) (hB : 0 ≤ B) : Euc A B A B 1 0 0 1 1 := by
  constructor <;> first | omega | (intro _; omega) | simp
theorem Euc.step {A B r0 r1 S0 S1 T0 T1 e : Int} (h : Euc A B r0 r1 S0 S1 T0 T1 e) (h1 : r1 ≠ 0) :
    Euc A B r1 (r0 - r0 / r1 * r1) S1 (S0 + r0 / r1 * S1) T1 (T0 + r0 / r1 * T1) (-e) ∧ r0 - r0 / r1 * r1 < r1 ∧ 0 ≤ r0 / r1 ∧ r0 / r1 ≤ r0 := by
  have hn0 := h.n0
  have hn1 := h.n1
  have hp : 0 < r1 := by omega
  have hm : r0 - r0 / r1 * r1 = r0 % r1 := by
    have := Int.emod_add_mul_ediv r0 r1
    rw [Int.mul_comm r1] at this
    omega
  have m0 := Int.emod_nonneg r0 h1
  have m1 := Int.emod_lt_of_pos r0 hp
  have q0 : 0 ≤ r0 / r1 := Int.ediv_nonneg hn0 hn1
  have q1 : r0 / r1 ≤ r0 := Int.ediv_le_self r1 hn0
  have qs : 0 ≤ r0 / r1 * S1 := Int.mul_nonneg q0 h.sn1
  have qt : 0 ≤ r0 / r1 * T1 := Int.mul_nonneg q0 h.tn1
  have hs := h.sn0
  have hs1 := h.sn1
  have ht := h.tn0
  have ht1 := h.tn1
  have qge : r1 < r0 → 1 ≤ r0 / r1 := fun w => by
    have := Int.ediv_le_ediv hp (Int.le_of_lt w)
    rwa [Int.ediv_self h1] at this
  refine ⟨?_, by omega, q0, q1⟩
  exact {
    he := by rcases h.he with w | w <;> omega
    eq0 := by have := h.eq1; grind
    eq1 := by have := h.eq1; have := h.eq0; grind
    n0 := hn1
    n1 := by omega
    sn0 := h.sn1
    sn1 := by omega
    tn0 := h.tn1
    tn1 := by omega
    sB := by have := h.sB; grind
    tA := by have := h.tA; grind
    gc := by
      rw [← h.gc, hm]
      obtain ⟨m, rfl⟩ := Int.eq_ofNat_of_zero_le hn0
      obtain ⟨n, rfl⟩ := Int.eq_ofNat_of_zero_le hn1
      rw [← Int.natCast_emod]
      show Nat.gcd n (m % n) = Nat.gcd m n
      rw [Nat.gcd_comm m n, Nat.gcd_rec n m, Nat.gcd_comm]
    lt := .inr (by omega)
    sl := by
      rcases h.lt with ⟨a1, a2, a3, a4, a5, a6⟩ | w
      · subst a1 a2
        right; omega
      · rcases h.sl with ⟨a1, a2, _⟩ | l
        · subst a1 a2
          right; omega
        · right
          have := Int.mul_le_mul_of_nonneg_right (qge w) hs1
          omega
    tl := by
      rcases h.lt with ⟨a1, a2, a3, a4, a5, a6⟩ | w
      · subst a3 a4
        by_cases c : r1 < r0
        · right
          have := qge c
          omega
        · by_cases c2 : r0 = r1
          · subst c2
            right
            rw [Int.ediv_self h1]
            omega
          · left
            have z : r0 / r1 = 0 := Int.ediv_eq_zero_of_lt hn0 (by omega)
            rw [z]
            refine ⟨rfl, by omega, a6, by omega⟩
      · rcases h.tl with ⟨a1, a2, _⟩ | l
        · subst a1 a2
          right; omega
        · right
          have := Int.mul_le_mul_of_nonneg_right (qge w) ht1
          omega
    a0 := fun z => by
      rcases h.a0 z with ⟨a1, a2, a3⟩ | ⟨a1, a2⟩
      · right
        refine ⟨a2, ?_⟩
        have := h.tA
        have n0 := Int.mul_nonneg ht1 hn0
        have n1 := Int.mul_nonneg ht hn1
        have e1 : T1 * r0 = 0 := by omega
        have e2 : T0 * r1 = 0 := by omega
        have e3 := h.eq0
        have e4 := h.eq1
        subst z a1 a2
        have t0 : T0 = 0 := by rcases Int.mul_eq_zero.mp e2 with w | w; exact w; exact absurd w h1
        subst t0
        have : r0 = 0 := by simpa using e3
        rw [this]; simp
      · omega
    b0 := fun z => by
      have := h.sB
      have n0 := Int.mul_nonneg hs1 hn0
      have n1 := Int.mul_nonneg hs hn1
      have e1 : S0 * r1 = 0 := by omega
      have e2 : S1 * r0 = 0 := by omega
      have s0 : S0 = 0 := by rcases Int.mul_eq_zero.mp e1 with w | w; exact w; exact absurd w h1
      exfalso
      have := h.eq1
      have := h.eq0
      subst z s0
      have r00 : r0 = 0 := by simpa using h.eq0
      rcases h.lt with ⟨a1, _⟩ | w
      · omega
      · omega }
theorem Euc.le {A B r0 r1 S0 S1 T0 T1 e : Int} (h : Euc A B r0 r1 S0 S1 T0 T1 e) (h1 : r1 ≠ 0) : S1 ≤ B ∧ T1 ≤ A + 1 ∧ S0 ≤ B + 1 ∧ T0 ≤ A + 1 := by
  have hn0 := h.n0
  have hn1 := h.n1
  have hs := h.sn0
  have hs1 := h.sn1
  have ht := h.tn0
  have ht1 := h.tn1
  have hp : 1 ≤ r1 := by omega
  have e1 := h.sB
  have e2 := h.tA
  have b1 : S0 ≤ S0 * r1 := by have := Int.mul_le_mul_of_nonneg_left hp hs; omega
  have b2 : T0 ≤ T0 * r1 := by have := Int.mul_le_mul_of_nonneg_left hp ht; omega
  have b3 := Int.mul_nonneg hs1 hn0
  have b4 := Int.mul_nonneg ht1 hn0
  rcases h.lt with ⟨a1, a2, a3, a4, a5, a6⟩ | w
  · omega
  · have hq : 1 ≤ r0 := by omega
    have b5 : S1 ≤ S1 * r0 := by have := Int.mul_le_mul_of_nonneg_left hq hs1; omega
    have b6 : T1 ≤ T1 * r0 := by have := Int.mul_le_mul_of_nonneg_left hq ht1; omega
    have b7 := Int.mul_nonneg hs hn1
    have b8 := Int.mul_nonneg ht hn1
    omega
theorem Euc.done {A B r0 S0 S1 T0 T1 e a b : Int} (h : Euc A B r0 0 S0 S1 T0 T1 e) (ha : A = if a < 0 then -a else a) (hb : B = if b < 0 then -b else b) (hn : ¬ (a = 0 ∧ b = 0)) :
    Common a b r0 (if a < 0 then -(e * S0) else e * S0) (if b < 0 then -(-e * T0) else -e * T0) := by
  have hA : (A.natAbs : Int) = A := by subst ha; split <;> omega
  have hB : (B.natAbs : Int) = B := by subst hb; split <;> omega
  have hAa : A.natAbs = a.natAbs := by subst ha; split <;> omega
  have hBb : B.natAbs = b.natAbs := by subst hb; split <;> omega
  have e0 := h.eq0
  have g0 := h.gc
  have gg : r0 = (Nat.gcd a.natAbs b.natAbs : Nat) := by
    have : Int.gcd r0 0 = Nat.gcd a.natAbs b.natAbs := by rw [g0]; show Nat.gcd A.natAbs B.natAbs = _; rw [hAa, hBb]
    rw [Int.gcd_zero_right] at this
    have := h.n0
    omega
  have e2 : ∀ x y : Int, (x.natAbs : Int) = (if x < 0 then -x else x) := fun x _ => by split <;> omega
  have sgn : ∀ S : Int, 0 ≤ S → (e * S).natAbs = S.toNat := fun S hS => by
    rcases h.he with w | w <;> subst w
    · rw [Int.one_mul]; omega
    · rw [Int.neg_mul, Int.one_mul]; omega
  have hs := h.sn0
  have ht := h.tn0
  have hs1 := h.sn1
  have ht1 := h.tn1
  have sB := h.sB
  have tA := h.tA
  rw [Int.mul_zero, Int.add_zero] at sB tA
  have nS : (if a < 0 then -(e * S0) else e * S0).natAbs = S0.toNat := by rw [← sgn S0 hs]; split <;> omega
  have nT : (if b < 0 then -(-e * T0) else -e * T0).natAbs = T0.toNat := by
    have : (-e * T0).natAbs = (e * T0).natAbs := by rw [Int.neg_mul]; omega
    rw [← sgn T0 ht, ← this]; split <;> omega
  have gpos : a ≠ 0 → 0 < r0 := fun z => by
    have := Nat.gcd_pos_of_pos_left b.natAbs (show 0 < a.natAbs by omega)
    omega
  refine ⟨gg, ?_, fun z => ?_, fun z => ?_, fun z1 z2 => ?_, fun z1 z2 => ?_⟩
  · have c1 : (if a < 0 then -(e * S0) else e * S0) * a = e * S0 * A := by
      subst ha
      split
      · rw [Int.neg_mul, Int.mul_neg]
      · rfl
    have c2 : (if b < 0 then -(-e * T0) else -e * T0) * b = -e * T0 * B := by
      subst hb
      split
      · rw [Int.neg_mul (-e * T0), Int.mul_neg]
      · rfl
    rw [c1, c2, e0]
    grind
  · have : B = 0 := by rw [hb, z]; rfl
    have := h.b0 this
    subst this
    simp
  · have z0 : A = 0 := by rw [ha, z]; rfl
    rcases h.a0 z0 with ⟨_, _, w⟩ | ⟨w, _⟩
    · exfalso
      have : b = 0 := by
        rw [← w] at hb
        split at hb <;> omega
      exact hn ⟨z, this⟩
    · subst w
      simp
  · rw [nS]
    have gp := gpos z1
    rw [show r0.natAbs = r0.toNat by omega]
    rw [Nat.le_div_iff_mul_le (by omega), ← hBb]
    rcases h.sl with ⟨_, _, w⟩ | w
    · exfalso; rw [← w] at hb; split at hb <;> omega
    · have := Int.mul_le_mul_of_nonneg_right w h.n0
      have q1 : ((S0.toNat * r0.toNat : Nat) : Int) = S0 * r0 := by
        rw [Int.natCast_mul, Int.toNat_of_nonneg hs, Int.toNat_of_nonneg h.n0]
      omega
  · rw [nT]
    have gp := gpos z1
    rw [show r0.natAbs = r0.toNat by omega]
    rw [Nat.le_div_iff_mul_le (by omega), ← hAa]
    rcases h.tl with ⟨_, _, _, w⟩ | w
    · exfalso; rw [← w] at ha; split at ha <;> omega
    · have := Int.mul_le_mul_of_nonneg_right w h.n0
      have q1 : ((T0.toNat * r0.toNat : Nat) : Int) = T0 * r0 := by
        rw [Int.natCast_mul, Int.toNat_of_nonneg ht, Int.toNat_of_nonneg h.n0]
      omega
end My

namespace My
/-- a / b is n / d in lowest terms -/
structure Frac (n d a b : Int) : Prop where
  pos : 0 < b
  cop : Int.gcd a b = 1
  eq : a * d = n * b
  la : a.natAbs ≤ n.natAbs
  lb : b.natAbs ≤ d.natAbs
theorem dvd_cop {k n m : Int} (h : Int.gcd k n = 1) (hd : k ∣ n * m) : k ∣ m := by
  have := Int.dvd_gcd_mul_iff_dvd_mul.mpr hd
  rw [h] at this
  simpa using this
theorem Frac.uniq {n d a b a' b' : Int} (h : Frac n d a b) (h' : Frac n d a' b') (hd : d ≠ 0) : a = a' ∧ b = b' := by
  have e : a * b' = a' * b := by
    have h1 := h.eq
    have h2 := h'.eq
    have : d * (a * b') = d * (a' * b) := by grind
    exact Int.eq_of_mul_eq_mul_left hd this
  have d1 : b ∣ b' := by
    have : b ∣ a * b' := ⟨a', by rw [e, Int.mul_comm]⟩
    exact dvd_cop (by rw [Int.gcd_comm]; exact h.cop) this
  have d2 : b' ∣ b := by
    have : b' ∣ a' * b := ⟨a, by rw [← e, Int.mul_comm]⟩
    exact dvd_cop (by rw [Int.gcd_comm]; exact h'.cop) this
  have hb := h.pos
  have hb' := h'.pos
  have eb : b = b' := Int.le_antisymm (Int.le_of_dvd hb' d1) (Int.le_of_dvd hb d2)
  subst eb
  exact ⟨Int.eq_of_mul_eq_mul_right (by omega) e, rfl⟩
theorem Frac.make {n d g : Int} (hd : d ≠ 0) (hg : g = (Nat.gcd n.natAbs d.natAbs : Nat)) : Frac n d (n.fdiv (if d < 0 then -g else g)) (d.fdiv (if d < 0 then -g else g)) ∧ g ≠ 0 ∧ g.natAbs ≤ d.natAbs := by
  have gp : 0 < Nat.gcd n.natAbs d.natAbs := Nat.gcd_pos_of_pos_right _ (by omega)
  have d1 : g ∣ n := by rw [hg]; exact Int.ofNat_dvd_left.mpr (Nat.gcd_dvd_left ..)
  have d2 : g ∣ d := by rw [hg]; exact Int.ofNat_dvd_left.mpr (Nat.gcd_dvd_right ..)
  have gle : g.natAbs ≤ d.natAbs := by
    have := Nat.gcd_le_right n.natAbs (show 0 < d.natAbs by omega)
    omega
  obtain ⟨x, hx⟩ := d1
  obtain ⟨y, hy⟩ := d2
  have cop : Int.gcd x y = 1 := by
    have e : Int.gcd n d = g.natAbs := by rw [hg]; rfl
    rw [hx, hy, Int.gcd_mul_left] at e
    have : g.natAbs * Int.gcd x y = g.natAbs * 1 := by omega
    exact Nat.eq_of_mul_eq_mul_left (by omega) this
  have g0 : g ≠ 0 := by omega
  have lx : x.natAbs ≤ n.natAbs := by rw [hx, Int.natAbs_mul]; exact Nat.le_mul_of_pos_left _ (by omega)
  have ly : y.natAbs ≤ d.natAbs := by rw [hy, Int.natAbs_mul]; exact Nat.le_mul_of_pos_left _ (by omega)
  refine ⟨?_, g0, gle⟩
  split
  · next hlt =>
    have e1 : n.fdiv (-g) = -x := by rw [hx, show g * x = -g * -x by rw [Int.neg_mul_neg]]; exact Int.mul_fdiv_cancel_left _ (by omega)
    have e2 : d.fdiv (-g) = -y := by rw [hy, show g * y = -g * -y by rw [Int.neg_mul_neg]]; exact Int.mul_fdiv_cancel_left _ (by omega)
    rw [e1, e2]
    have hyn : y < 0 := by
      rcases Int.lt_trichotomy y 0 with z | z | z
      · exact z
      · rw [z] at hy; omega
      · have := Int.mul_pos (show 0 < g by omega) z
        omega
    exact ⟨by omega, by rw [Int.gcd_neg, Int.neg_gcd]; exact cop, by rw [hx, hy]; grind, by omega, by omega⟩
  · next hlt =>
    have e1 : n.fdiv g = x := by rw [hx]; exact Int.mul_fdiv_cancel_left _ g0
    have e2 : d.fdiv g = y := by rw [hy]; exact Int.mul_fdiv_cancel_left _ g0
    rw [e1, e2]
    have hyn : 0 < y := by
      rcases Int.lt_trichotomy y 0 with z | z | z
      · have := Int.mul_neg_of_pos_of_neg (show 0 < g by omega) z
        omega
      · rw [z] at hy; omega
      · exact z
    exact ⟨hyn, cop, by rw [hx, hy]; grind, lx, ly⟩
theorem Frac.scale {n d f a b : Int} (h : Frac n d a b) (hf : f ≠ 0) (hd : d ≠ 0) : Frac (n * f) (d * f) a b := by
  have hp : 0 < f.natAbs := by omega
  refine ⟨h.pos, h.cop, by have := h.eq; grind, ?_, ?_⟩
  · rw [Int.natAbs_mul]
    exact Nat.le_trans h.la (Nat.le_mul_of_pos_right _ hp)
  · rw [Int.natAbs_mul]
    exact Nat.le_trans h.lb (Nat.le_mul_of_pos_right _ hp)
end My

namespace My
theorem dvd_gcds {a b n x : Nat} (h1 : Nat.gcd a n ∣ x) (h2 : Nat.gcd b n ∣ x) : Nat.gcd (Nat.lcm a b) n ∣ x := by
  rcases Nat.eq_zero_or_pos a with za | pa
  · subst za
    rw [Nat.lcm_zero_left, Nat.gcd_zero_left]
    rwa [Nat.gcd_zero_left] at h1
  · have pu : 0 < Nat.gcd a b := Nat.gcd_pos_of_pos_left _ pa
    obtain ⟨a1, ha⟩ := Nat.gcd_dvd_left a b
    obtain ⟨b1, hb⟩ := Nat.gcd_dvd_right a b
    have cop : Nat.gcd a1 b1 = 1 := by
      have e : Nat.gcd (Nat.gcd a b * a1) (Nat.gcd a b * b1) = Nat.gcd a b := by rw [← ha, ← hb]
      rw [Nat.gcd_mul_left] at e
      exact Nat.eq_of_mul_eq_mul_left pu (by omega)
    have hl : Nat.lcm a b = a1 * b := by
      have e1 : Nat.gcd a b * Nat.lcm a b = a * b := Nat.gcd_mul_lcm a b
      have e2 : a * b = Nat.gcd a b * (a1 * b) := by
        have : a * b = (Nat.gcd a b * a1) * b := by rw [← ha]
        rw [this, Nat.mul_assoc]
      exact Nat.eq_of_mul_eq_mul_left pu (by omega)
    have hl2 : Nat.lcm a b = b1 * a := by
      have e1 : Nat.gcd a b * Nat.lcm a b = a * b := Nat.gcd_mul_lcm a b
      have e2 : a * b = Nat.gcd a b * (b1 * a) := by
        have : a * b = a * (Nat.gcd a b * b1) := by rw [← hb]
        rw [this]; grind
      exact Nat.eq_of_mul_eq_mul_left pu (by omega)
    have d1 : Nat.gcd (Nat.lcm a b) n ∣ a1 * x := by
      have : Nat.gcd (Nat.lcm a b) n ∣ Nat.gcd (a1 * b) (a1 * n) := Nat.dvd_gcd (by rw [← hl]; exact Nat.gcd_dvd_left ..) (Nat.dvd_trans (Nat.gcd_dvd_right ..) ⟨a1, Nat.mul_comm ..⟩)
      rw [Nat.gcd_mul_left] at this
      exact Nat.dvd_trans this (Nat.mul_dvd_mul_left _ h2)
    have d2 : Nat.gcd (Nat.lcm a b) n ∣ b1 * x := by
      have : Nat.gcd (Nat.lcm a b) n ∣ Nat.gcd (b1 * a) (b1 * n) := Nat.dvd_gcd (by rw [← hl2]; exact Nat.gcd_dvd_left ..) (Nat.dvd_trans (Nat.gcd_dvd_right ..) ⟨b1, Nat.mul_comm ..⟩)
      rw [Nat.gcd_mul_left] at this
      exact Nat.dvd_trans this (Nat.mul_dvd_mul_left _ h1)
    have := Nat.dvd_gcd d1 d2
    rwa [Nat.gcd_mul_right, cop, Nat.one_mul] at this
abbrev Pr := Int × Int
def lcmL (ps : List Pr) : Nat := ps.foldl (fun acc p => Nat.lcm acc p.2.natAbs) 1
theorem lcmL_app (ps : List Pr) (p : Pr) : lcmL (ps ++ [p]) = Nat.lcm (lcmL ps) p.2.natAbs := by simp [lcmL]
/-- each two of the pairs can be met together -/
def Compat (ps : List Pr) : Prop := ∀ p ∈ ps, ∀ q ∈ ps, ((Nat.gcd p.2.natAbs q.2.natAbs : Nat) : Int) ∣ p.1 - q.1
structure Crt (ps : List Pr) (r m : Int) : Prop where
  n0 : 0 ≤ r
  lt : r < m
  lc : m = (lcmL ps : Nat)
  rem : ∀ p ∈ ps, p.2 ∣ r - p.1
theorem Crt.compat {ps : List Pr} {r m : Int} (h : Crt ps r m) : Compat ps := fun p hp q hq => by
  have h1 : ((Nat.gcd p.2.natAbs q.2.natAbs : Nat) : Int) ∣ r - p.1 := Int.dvd_trans (Int.ofNat_dvd_left.mpr (Nat.gcd_dvd_left ..)) (h.rem p hp)
  have h2 : ((Nat.gcd p.2.natAbs q.2.natAbs : Nat) : Int) ∣ r - q.1 := Int.dvd_trans (Int.ofNat_dvd_left.mpr (Nat.gcd_dvd_right ..)) (h.rem q hq)
  have := Int.dvd_sub h2 h1
  rwa [show r - q.1 - (r - p.1) = p.1 - q.1 by omega] at this
theorem gcds_dvd : ∀ (ps : List Pr) (n x : Nat) (acc : Nat), Nat.gcd acc n ∣ x → (∀ p ∈ ps, Nat.gcd p.2.natAbs n ∣ x) → Nat.gcd (ps.foldl (fun acc p => Nat.lcm acc p.2.natAbs) acc) n ∣ x
  | [], _, _, _, h, _ => h
  | p :: ps, n, x, acc, h, k => gcds_dvd ps n x _ (dvd_gcds h (k p (List.mem_cons_self ..))) fun q hq => k q (List.mem_cons_of_mem _ hq)
/-- the gap is a multiple of the greatest common divisor, if all pairs fit each other -/
theorem Crt.gap {ps : List Pr} {p : Pr} {r m : Int} (h : Crt ps r m) (c : Compat (ps ++ [p])) : ((Nat.gcd m.natAbs p.2.natAbs : Nat) : Int) ∣ p.1 - r := by
  have hm : m.natAbs = lcmL ps := by rw [h.lc]; rfl
  rw [hm, Int.ofNat_dvd_left]
  refine gcds_dvd ps _ _ 1 (by rw [Nat.gcd_one_left]; exact Nat.one_dvd _) fun q hq => ?_
  have h1 : ((Nat.gcd q.2.natAbs p.2.natAbs : Nat) : Int) ∣ r - q.1 := Int.dvd_trans (Int.ofNat_dvd_left.mpr (Nat.gcd_dvd_left ..)) (h.rem q hq)
  have h2 := c q (List.mem_append_left _ hq) p (List.mem_append_right _ (List.mem_singleton.mpr rfl))
  have := Int.dvd_add h1 h2
  rw [show r - q.1 + (q.1 - p.1) = -(p.1 - r) by omega, Int.dvd_neg] at this
  exact Int.ofNat_dvd_left.mp this
theorem Crt.step {ps : List Pr} {p : Pr} {r m g s t : Int} (h : Crt ps r m) (hp : 0 < p.2) (hg : g = (Nat.gcd m.natAbs p.2.natAbs : Nat)) (hs : s * m + t * p.2 = g) (hd : g ∣ p.1 - r) :
    Crt (ps ++ [p]) (r + m * ((s * ((p.1 - r) / g)) % (p.2 / g))) (m / g * p.2) := by
  have h0 := h.n0
  have h1 := h.lt
  have mp : 0 < m := by omega
  have gp : 0 < g := by
    have := Nat.gcd_pos_of_pos_left p.2.natAbs (show 0 < m.natAbs by omega)
    omega
  obtain ⟨m1, hm1⟩ : g ∣ m := by rw [hg]; exact Int.ofNat_dvd_left.mpr (Nat.gcd_dvd_left ..)
  obtain ⟨n1, hn1⟩ : g ∣ p.2 := by rw [hg]; exact Int.ofNat_dvd_left.mpr (Nat.gcd_dvd_right ..)
  obtain ⟨k, hk⟩ := hd
  have n1p : 0 < n1 := by
    rcases Int.lt_trichotomy n1 0 with z | z | z
    · have := Int.mul_neg_of_pos_of_neg gp z; omega
    · rw [z] at hn1; omega
    · exact z
  have m1p : 0 < m1 := by
    rcases Int.lt_trichotomy m1 0 with z | z | z
    · have := Int.mul_neg_of_pos_of_neg gp z; omega
    · rw [z] at hm1; omega
    · exact z
  have e1 : (p.1 - r) / g = k := by rw [hk]; exact Int.mul_ediv_cancel_left _ (by omega)
  have e2 : p.2 / g = n1 := by rw [hn1]; exact Int.mul_ediv_cancel_left _ (by omega)
  have e3 : m / g = m1 := by rw [hm1]; exact Int.mul_ediv_cancel_left _ (by omega)
  rw [e1, e2, e3]
  have st0 := Int.emod_nonneg (s * k) (show n1 ≠ 0 by omega)
  have st1 := Int.emod_lt_of_pos (s * k) n1p
  have st2 := Int.emod_add_mul_ediv (s * k) n1
  generalize (s * k) % n1 = x at *
  generalize s * k / n1 = y at *
  have hmn : m * n1 = m1 * p.2 := by rw [hm1, hn1]; grind
  refine ⟨?_, ?_, ?_, fun q hq => ?_⟩
  · have := Int.mul_nonneg (Int.le_of_lt mp) st0
    omega
  · have : m * x ≤ m * (n1 - 1) := Int.mul_le_mul_of_nonneg_left (by omega) (by omega)
    rw [Int.mul_sub, Int.mul_one] at this
    omega
  · rw [lcmL_app]
    have hl : m.natAbs = lcmL ps := by rw [h.lc]; rfl
    rw [← hl]
    have e : Nat.gcd m.natAbs p.2.natAbs * Nat.lcm m.natAbs p.2.natAbs = m.natAbs * p.2.natAbs := Nat.gcd_mul_lcm ..
    have e' : g * ((Nat.lcm m.natAbs p.2.natAbs : Nat) : Int) = m * p.2 := by
      rw [hg, ← Int.natCast_mul, e, Int.natCast_mul, Int.natAbs_of_nonneg (by omega), Int.natAbs_of_nonneg (by omega)]
    have : g * ((Nat.lcm m.natAbs p.2.natAbs : Nat) : Int) = g * (m1 * p.2) := by rw [e', hm1]; grind
    exact (Int.eq_of_mul_eq_mul_left (by omega) this).symm
  · rcases List.mem_append.mp hq with hq | hq
    · have d1 := h.rem q hq
      have d2 : q.2 ∣ m := by
        rw [h.lc]
        have : ∀ (ps : List Pr) (acc : Nat), (q.2.natAbs ∣ acc ∨ q ∈ ps) → q.2.natAbs ∣ ps.foldl (fun acc p => Nat.lcm acc p.2.natAbs) acc := fun ps => by
          induction ps with
          | nil => intro acc h; rcases h with h | h; exact h; cases h
          | cons c cs ih =>
            intro acc h
            refine ih _ ?_
            rcases h with h | h
            · exact .inl (Nat.dvd_trans h (Nat.dvd_lcm_left ..))
            · rcases List.mem_cons.mp h with h | h
              · subst h; exact .inl (Nat.dvd_lcm_right ..)
              · exact .inr h
        exact Int.ofNat_dvd_right.mpr (this ps 1 (.inr hq))
      rw [show r + m * x - q.1 = (r - q.1) + m * x by omega]
      exact Int.dvd_add d1 (Int.dvd_trans d2 ⟨x, rfl⟩)
    · have := List.mem_singleton.mp hq
      subst this
      refine ⟨-t * k - m1 * y, ?_⟩
      grind
end My

namespace My
def Prime (n : Int) : Prop := 2 ≤ n ∧ ∀ d : Int, 2 ≤ d → d * d ≤ n → ¬ d ∣ n
/-- no divisor among the 2 ^ l numbers from lo on -/
def chk (n : Nat) : Nat → Nat → Bool
  | 0, lo => n % lo != 0
  | l + 1, lo => chk n l lo && chk n l (lo + 2 ^ l)
theorem chk_spec (n : Nat) : ∀ (l lo : Nat), chk n l lo = true → ∀ d, lo ≤ d → d < lo + 2 ^ l → n % d ≠ 0
  | 0, lo, h, d, h1, h2 => by
    have : d = lo := by simp at h2; omega
    subst this
    simpa [chk] using h
  | l + 1, lo, h, d, h1, h2 => by
    simp only [chk, Bool.and_eq_true] at h
    have e : 2 ^ (l + 1) = 2 ^ l + 2 ^ l := by rw [Nat.pow_succ]; omega
    by_cases c : d < lo + 2 ^ l
    · exact chk_spec n l lo h.1 d h1 c
    · exact chk_spec n l (lo + 2 ^ l) h.2 d (by omega) (by omega)
abbrev PP : Int := 4294967291
theorem chkPP : chk 4294967291 16 2 = true := by decide +kernel
theorem primePP : Prime PP := by
  refine ⟨by decide, fun d h1 h2 h3 => ?_⟩
  have hd : d ≤ 65537 := by
    rcases Int.lt_or_le 65537 d with z | z
    · have := Int.mul_le_mul (Int.le_of_lt z) (Int.le_of_lt z) (by decide) (by omega)
      have e : (65537 : Int) * 65537 = 4295098369 := by decide
      have : PP = 4294967291 := rfl
      omega
    · exact z
  have := chk_spec 4294967291 16 2 chkPP d.toNat (by omega) (by
    have e : 2 + 2 ^ 16 = 65538 := by decide
    omega)
  have h4 : d.toNat ∣ 4294967291 := by
    have : ((d.toNat : Nat) : Int) ∣ ((4294967291 : Nat) : Int) := by rw [Int.toNat_of_nonneg (by omega)]; exact h3
    exact Int.ofNat_dvd.mp this
  exact this (Nat.mod_eq_zero_of_dvd h4)
theorem prime_small {n : Int} (h : n < 4) : Prime n ↔ 1 < n := by
  constructor
  · intro hp; have := hp.1; omega
  · intro h1
    refine ⟨by omega, fun d h2 h3 => ?_⟩
    have := Int.mul_le_mul h2 h2 (by decide) (by omega)
    omega
/-- none up to k divides n -/
def NoDiv (n k : Int) : Prop := ∀ d : Int, 2 ≤ d → d < k → ¬ d ∣ n
theorem prime_of {n k : Int} (h2 : 2 ≤ n) (h : NoDiv n k) (hk : ∀ d : Int, 2 ≤ d → d * d ≤ n → d < k) : Prime n := ⟨h2, fun d h1 h3 => h d h1 (hk d h1 h3)⟩
theorem notPrime {n d : Int} (hd : 2 ≤ d) (hn : d ∣ n) (hlt : d < n) : ¬ Prime n := fun hp => by
  by_cases c : d * d ≤ n
  · exact hp.2 d hd c hn
  · obtain ⟨e, he⟩ := hn
    have e1 : 2 ≤ e := by
      rcases Int.lt_or_le e 2 with z | z
      · have h0 := hp.1
        rcases Int.lt_or_le e 1 with y | y
        · have := Int.mul_le_mul_of_nonneg_left (show e ≤ 0 by omega) (show 0 ≤ d by omega)
          omega
        · have : e = 1 := by omega
          subst this; omega
      · exact z
    have e2 : e < d := by
      rcases Int.lt_or_le e d with z | z
      · exact z
      · have := Int.mul_le_mul_of_nonneg_left z (show 0 ≤ d by omega)
        omega
    have e3 : e * e ≤ n := by
      have := Int.mul_le_mul_of_nonneg_right (Int.le_of_lt e2) (show 0 ≤ e by omega)
      omega
    exact hp.2 e e1 e3 ⟨d, by rw [he, Int.mul_comm]⟩
theorem noDiv_six {n k : Int} (h2 : ¬ (2 : Int) ∣ n) (h3 : ¬ (3 : Int) ∣ n) (h : NoDiv n k) (hk : ∃ i : Int, k = 5 + 6 * i) (a : ¬ k ∣ n) (b : ¬ (k + 2) ∣ n) : NoDiv n (k + 6) := fun d d2 dl hd => by
  obtain ⟨i, rfl⟩ := hk
  by_cases c : d < 5 + 6 * i
  · exact h d d2 c hd
  · have cases : d = 5 + 6 * i ∨ d = 5 + 6 * i + 1 ∨ d = 5 + 6 * i + 2 ∨ d = 5 + 6 * i + 3 ∨ d = 5 + 6 * i + 4 ∨ d = 5 + 6 * i + 5 := by omega
    rcases cases with e | e | e | e | e | e
    · subst e; exact a hd
    · subst e; exact h2 (Int.dvd_trans ⟨3 + 3 * i, by omega⟩ hd)
    · subst e; exact b hd
    · subst e; exact h2 (Int.dvd_trans ⟨4 + 3 * i, by omega⟩ hd)
    · subst e; exact h3 (Int.dvd_trans ⟨3 + 2 * i, by omega⟩ hd)
    · subst e; exact h2 (Int.dvd_trans ⟨5 + 3 * i, by omega⟩ hd)
theorem noDiv_two {n k : Int} (h2 : ¬ (2 : Int) ∣ n) (h : NoDiv n k) (hk : ∃ i : Int, k = 3 + 2 * i) (a : ¬ k ∣ n) : NoDiv n (k + 2) := fun d d2 dl hd => by
  obtain ⟨i, rfl⟩ := hk
  by_cases c : d < 3 + 2 * i
  · exact h d d2 c hd
  · have cases : d = 3 + 2 * i ∨ d = 3 + 2 * i + 1 := by omega
    rcases cases with e | e
    · subst e; exact a hd
    · subst e; exact h2 (Int.dvd_trans ⟨2 + i, by omega⟩ hd)
/-- the next prime above n -/
structure Next (n q : Int) : Prop where
  lt : n < q
  pr : Prime q
  le : q ≤ PP
  no : ∀ x : Int, n < x → x < q → ¬ Prime x
theorem Next.uniq {n q r : Int} (h : Next n q) (h' : Next n r) : q = r := by
  rcases Int.lt_trichotomy q r with z | z | z
  · exact absurd h.pr (h'.no q h.lt z)
  · exact z
  · exact absurd h'.pr (h.no r h'.lt z)
end My

namespace My
structure RR (m r a x b y : Int) : Prop where
  h1 : m ∣ a - r * x
  h2 : m ∣ b - r * y
  det : (0 < y ∧ x ≤ 0 ∧ a * y - b * x = m) ∨ (y < 0 ∧ 0 ≤ x ∧ a * y - b * x = -m)
  b0 : 0 ≤ b
  ba : b < a
theorem RR.start {m r : Int} (hm : 0 < m) : RR m r m 0 (r.fmod m) 1 := by
  rw [Int.fmod_eq_emod_of_nonneg _ (by omega)]
  have h := Int.mul_ediv_add_emod r m
  refine ⟨⟨1, by omega⟩, ⟨-(r / m), by rw [Int.mul_neg]; omega⟩, .inl ⟨by omega, by omega, by omega⟩, Int.emod_nonneg _ (by omega), Int.emod_lt_of_pos _ hm⟩
theorem RR.bds {m r a x b y : Int} (h : RR m r a x b y) : 0 < a ∧ a ≤ m ∧ y.natAbs ≤ m.natAbs ∧ (0 < b → x.natAbs ≤ m.natAbs) := by
  have hb := h.b0
  have hba := h.ba
  rcases h.det with ⟨y0, x0, e⟩ | ⟨y0, x0, e⟩
  · have p1 := Int.mul_le_mul_of_nonneg_left (show 1 ≤ y by omega) (show 0 ≤ a by omega)
    have p2 := Int.mul_le_mul_of_nonneg_right (show 1 ≤ a by omega) (show 0 ≤ y by omega)
    have p3 := Int.mul_nonneg hb (show 0 ≤ -x by omega)
    rw [Int.mul_neg b] at p3
    refine ⟨by omega, by omega, by omega, fun b1 => ?_⟩
    have p4 := Int.mul_le_mul_of_nonneg_right (show 1 ≤ b by omega) (show 0 ≤ -x by omega)
    rw [Int.mul_neg b] at p4
    omega
  · have p1 := Int.mul_le_mul_of_nonneg_left (show 1 ≤ -y by omega) (show 0 ≤ a by omega)
    have p2 := Int.mul_le_mul_of_nonneg_right (show 1 ≤ a by omega) (show 0 ≤ -y by omega)
    have p3 := Int.mul_nonneg hb x0
    rw [Int.mul_neg a] at p1 p2
    refine ⟨by omega, by omega, by omega, fun b1 => ?_⟩
    have p4 := Int.mul_le_mul_of_nonneg_right (show 1 ≤ b by omega) x0
    omega
theorem RR.step {m r a x b y : Int} (h : RR m r a x b y) (hb : 0 < b) : RR m r b y (a - a / b * b) (x - a / b * y) ∧ a - a / b * b < b ∧ 1 ≤ a / b ∧ a / b ≤ a := by
  have hba := h.ba
  have hm : a - a / b * b = a % b := by
    have := Int.emod_add_mul_ediv a b
    rw [Int.mul_comm b] at this
    omega
  have m0 := Int.emod_nonneg a (show b ≠ 0 by omega)
  have m1 := Int.emod_lt_of_pos a hb
  have q1 : a / b ≤ a := Int.ediv_le_self b (by omega)
  have q0 : 1 ≤ a / b := by
    have := Int.ediv_le_ediv hb (Int.le_of_lt hba)
    rwa [Int.ediv_self (by omega)] at this
  refine ⟨⟨h.h2, ?_, ?_, by omega, by omega⟩, by omega, q0, q1⟩
  · obtain ⟨u, hu⟩ := h.h1
    obtain ⟨v, hv⟩ := h.h2
    exact ⟨u - a / b * v, by grind⟩
  · generalize a / b = q at *
    rcases h.det with ⟨y0, x0, e⟩ | ⟨y0, x0, e⟩
    · right
      have := Int.mul_le_mul_of_nonneg_right q0 (show 0 ≤ y by omega)
      exact ⟨by omega, by omega, by grind⟩
    · left
      have := Int.mul_le_mul_of_nonneg_right q0 (show 0 ≤ -y by omega)
      rw [Int.mul_neg q] at this
      exact ⟨by omega, by omega, by grind⟩
theorem RR.gcd_step {a b q : Int} (h : Int.gcd a b = 1) : Int.gcd b (a - q * b) = 1 := by
  have : Int.gcd b (a - q * b) ∣ 1 := by
    rw [← h]
    have d1 : ((Int.gcd b (a - q * b) : Nat) : Int) ∣ b := Int.gcd_dvd_left ..
    have d2 : ((Int.gcd b (a - q * b) : Nat) : Int) ∣ a - q * b := Int.gcd_dvd_right ..
    refine Int.dvd_gcd ?_ d1
    obtain ⟨u, hu⟩ := d1
    obtain ⟨v, hv⟩ := d2
    exact ⟨v + q * u, by grind⟩
  exact Nat.dvd_one.mp this
/-- n / d is what r stands for modulo m, within the bound B -/
structure Rec (m r B n d : Int) : Prop where
  d0 : 0 < d
  dB : d ≤ B
  n1 : -B ≤ n
  n2 : n ≤ B
  eq : m ∣ n - r * d
  cm : Int.gcd d m = 1
  cn : Int.gcd n d = 1
theorem sq_le {u v B : Int} (u1 : -B ≤ u) (u2 : u ≤ B) (v1 : -B ≤ v) (v2 : v ≤ B) : -(B * B) ≤ u * v ∧ u * v ≤ B * B := by
  have : (u * v).natAbs ≤ B.natAbs * B.natAbs := by
    rw [Int.natAbs_mul]; exact Nat.mul_le_mul (by omega) (by omega)
  have e : ((B.natAbs * B.natAbs : Nat) : Int) = B * B := by
    rw [Int.natCast_mul]
    have : ((B.natAbs : Nat) : Int) = B := by omega
    rw [this]
  omega
theorem near0 {m z : Int} (h : m ∣ z) (h1 : -m < z) (h2 : z < m) : z = 0 := by
  obtain ⟨k, rfl⟩ := h
  rcases Int.lt_trichotomy k 0 with c | c | c
  · have := Int.mul_le_mul_of_nonneg_left (show k ≤ -1 by omega) (show 0 ≤ m by omega)
    omega
  · subst c; simp
  · have := Int.mul_le_mul_of_nonneg_left (show 1 ≤ k by omega) (show 0 ≤ m by omega)
    omega
theorem fracs_eq {a b a' b' : Int} (h : Int.gcd a b = 1) (h' : Int.gcd a' b' = 1) (hb : 0 < b) (hb' : 0 < b') (e : a * b' = a' * b) : a = a' ∧ b = b' := by
  have d1 : b ∣ b' := by
    have : b ∣ a * b' := ⟨a', by rw [e, Int.mul_comm]⟩
    exact dvd_cop (by rw [Int.gcd_comm]; exact h) this
  have d2 : b' ∣ b := by
    have : b' ∣ a' * b := ⟨a, by rw [← e, Int.mul_comm]⟩
    exact dvd_cop (by rw [Int.gcd_comm]; exact h') this
  have eb : b = b' := Int.le_antisymm (Int.le_of_dvd hb' d1) (Int.le_of_dvd hb d2)
  subst eb
  exact ⟨Int.eq_of_mul_eq_mul_right (by omega) e, rfl⟩
theorem cross {m r n d n' d' : Int} (e : m ∣ n - r * d) (e' : m ∣ n' - r * d') : m ∣ n * d' - n' * d := by
  obtain ⟨u, hu⟩ := e
  obtain ⟨v, hv⟩ := e'
  exact ⟨u * d' - v * d, by grind⟩
theorem Rec.uniq {m r B n d n' d' : Int} (h : Rec m r B n d) (h' : Rec m r B n' d') (hB : 2 * B * B < m) : n = n' ∧ d = d' := by
  have a1 := sq_le h.n1 h.n2 (show -B ≤ d' by have := h'.d0; have := h'.dB; omega) h'.dB
  have a2 := sq_le h'.n1 h'.n2 (show -B ≤ d by have := h.d0; have := h.dB; omega) h.dB
  rw [Int.mul_assoc] at hB
  have := near0 (cross h.eq h'.eq) (by omega) (by omega)
  exact fracs_eq h.cn h'.cn h.d0 h'.d0 (by omega)
theorem RR.found {m r a x b y B n d : Int} (h : RR m r a x b y) (hm : 0 < m) (hB : 2 * B * B < m) (ha : B < a) (hb : b ≤ B) (R : Rec m r B n d) : (0 < y → n = b ∧ d = y) ∧ (y < 0 → n = -b ∧ d = -y) := by
  have d0 := R.d0
  have dB := R.dB
  have n1 := R.n1
  have n2 := R.n2
  have b0 := h.b0
  obtain ⟨k, hk⟩ := cross R.eq h.h2
  obtain ⟨l', hl'⟩ := cross R.eq h.h1
  rw [Int.mul_assoc] at hB
  -- n y - b d = m k ;  n x - a d = m l'
  have k0 : k = 0 := by
    by_cases c : -B ≤ y ∧ y ≤ B
    · have a1 := sq_le n1 n2 c.1 c.2
      have a2 := sq_le (show -B ≤ b by omega) hb (show -B ≤ d by omega) dB
      have := near0 (m := m) (z := m * k) ⟨k, rfl⟩ (by omega) (by omega)
      rcases Int.mul_eq_zero.mp this with z | z
      · omega
      · exact z
    · rcases h.det with ⟨y0, x0, e⟩ | ⟨y0, x0, e⟩
      · have en : n = k * a - l' * b := by
          have : m * n = m * (k * a - l' * b) := by grind
          exact Int.eq_of_mul_eq_mul_left (by omega) this
        have ed : d = k * x - l' * y := by
          have : m * d = m * (k * x - l' * y) := by grind
          exact Int.eq_of_mul_eq_mul_left (by omega) this
        rcases Int.lt_trichotomy k 0 with z | z | z
        · have p1 := Int.mul_le_mul_of_nonneg_right (show k ≤ -1 by omega) (show 0 ≤ a by omega)
          rcases Int.lt_or_le l' 0 with w | w
          · have p2 := Int.mul_nonneg (show 0 ≤ -k by omega) (show 0 ≤ -x by omega)
            rw [Int.neg_mul_neg] at p2
            have p3 := Int.mul_le_mul_of_nonneg_right (show l' ≤ -1 by omega) (show 0 ≤ y by omega)
            omega
          · have p2 := Int.mul_nonneg w b0
            omega
        · exact z
        · have p1 := Int.mul_le_mul_of_nonneg_right (show 1 ≤ k by omega) (show 0 ≤ a by omega)
          rcases Int.lt_or_le 0 l' with w | w
          · have p2 := Int.mul_nonneg (show 0 ≤ k by omega) (show 0 ≤ -x by omega)
            rw [Int.mul_neg k] at p2
            have p3 := Int.mul_le_mul_of_nonneg_right (show 1 ≤ l' by omega) (show 0 ≤ y by omega)
            omega
          · have p2 := Int.mul_nonneg (show 0 ≤ -l' by omega) b0
            rw [Int.neg_mul] at p2
            omega
      · have en : n = l' * b - k * a := by
          have : m * n = m * (l' * b - k * a) := by grind
          exact Int.eq_of_mul_eq_mul_left (by omega) this
        have ed : d = l' * y - k * x := by
          have : m * d = m * (l' * y - k * x) := by grind
          exact Int.eq_of_mul_eq_mul_left (by omega) this
        rcases Int.lt_trichotomy k 0 with z | z | z
        · have p1 := Int.mul_le_mul_of_nonneg_right (show k ≤ -1 by omega) (show 0 ≤ a by omega)
          rcases Int.lt_or_le l' 0 with w | w
          · have p2 := Int.mul_nonneg (show 0 ≤ -k by omega) x0
            rw [Int.neg_mul] at p2
            have p3 := Int.mul_nonneg (show 0 ≤ -l' - 1 by omega) (show 0 ≤ -y by omega)
            have p4 : (-l' - 1) * -y = l' * y + y := by grind
            omega
          · have p2 := Int.mul_nonneg w b0
            omega
        · exact z
        · have p1 := Int.mul_le_mul_of_nonneg_right (show 1 ≤ k by omega) (show 0 ≤ a by omega)
          rcases Int.lt_or_le 0 l' with w | w
          · have p2 := Int.mul_nonneg (show 0 ≤ k by omega) x0
            have p3 := Int.mul_nonneg (show 0 ≤ l' by omega) (show 0 ≤ -y by omega)
            rw [Int.mul_neg l'] at p3
            omega
          · have p2 := Int.mul_nonneg (show 0 ≤ -l' by omega) b0
            rw [Int.neg_mul] at p2
            omega
  subst k0
  have e0 : n * y = b * d := by omega
  -- a d - n x = ± m ..., n = l b, d = l y
  have ex : ∃ l : Int, n = l * b ∧ d = l * y := by
    rcases h.det with ⟨y0, x0, e⟩ | ⟨y0, x0, e⟩
    · refine ⟨-l', ?_, ?_⟩
      · have : m * n = m * (-l' * b) := by grind
        exact Int.eq_of_mul_eq_mul_left (by omega) this
      · have : m * d = m * (-l' * y) := by grind
        exact Int.eq_of_mul_eq_mul_left (by omega) this
    · refine ⟨l', ?_, ?_⟩
      · have : m * n = m * (l' * b) := by grind
        exact Int.eq_of_mul_eq_mul_left (by omega) this
      · have : m * d = m * (l' * y) := by grind
        exact Int.eq_of_mul_eq_mul_left (by omega) this
  obtain ⟨l, e1, e2⟩ := ex
  have hl : l.natAbs = 1 := by
    have hc := R.cn
    rw [e1, e2, Int.gcd_mul_left] at hc
    exact Nat.dvd_one.mp ⟨_, hc.symm⟩
  have hl2 : l = 1 ∨ l = -1 := by omega
  rcases hl2 with w | w
  · subst w
    constructor <;> intro _ <;> omega
  · subst w
    constructor <;> intro _ <;> omega
theorem RR.make {m r a x b y B : Int} (h : RR m r a x b y) (hb : b ≤ B) (hy : y.natAbs ≤ B.natAbs) (hB : 0 ≤ B) (hg : Int.gcd y m = 1) : (0 < y → Rec m r B b y) ∧ (y < 0 → Rec m r B (-b) (-y)) := by
  have b0 := h.b0
  have cn : Int.gcd b y = 1 := by
    have : Int.gcd b y ∣ 1 := by
      rw [← hg]
      have d1 : ((Int.gcd b y : Nat) : Int) ∣ b := Int.gcd_dvd_left ..
      have d2 : ((Int.gcd b y : Nat) : Int) ∣ y := Int.gcd_dvd_right ..
      refine Int.dvd_gcd d2 ?_
      obtain ⟨u, hu⟩ := d1
      obtain ⟨v, hv⟩ := d2
      generalize ((Int.gcd b y : Nat) : Int) = g at *
      rcases h.det with ⟨_, _, e⟩ | ⟨_, _, e⟩
      · exact ⟨a * v - u * x, by grind⟩
      · exact ⟨u * x - a * v, by grind⟩
    exact Nat.dvd_one.mp this
  refine ⟨fun y0 => ⟨y0, by omega, by omega, by omega, h.h2, hg, cn⟩, fun y0 => ⟨by omega, by omega, by omega, by omega, ?_, by rw [Int.neg_gcd]; exact hg, by rw [Int.neg_gcd, Int.gcd_neg]; exact cn⟩⟩
  obtain ⟨v, hv⟩ := h.h2
  exact ⟨-v, by grind⟩
end My

namespace My
open Lean.Grind
section
variable {R : Type} [CommRing R]
/-! polynomials as rows of coefficients, and what they are: their coefficients -/
def cf (l : List R) (k : Nat) : R := l.getD k 0
theorem cf_nil (k : Nat) : cf ([] : List R) k = 0 := by simp [cf]
theorem cf_zero (a : R) (l : List R) : cf (a :: l) 0 = a := by simp [cf]
theorem cf_succ (a : R) (l : List R) (k : Nat) : cf (a :: l) (k + 1) = cf l k := by simp [cf]
def padd : List R → List R → List R
  | [], m => m
  | a :: l, [] => a :: l
  | a :: l, b :: m => (a + b) :: padd l m
def psm (a : R) (l : List R) : List R := l.map (a * ·)
def pmul : List R → List R → List R
  | [], _ => []
  | a :: l, m => padd (psm a m) (0 :: pmul l m)
def PE (l m : List R) : Prop := ∀ k, cf l k = cf m k
theorem cf_add : ∀ (l m : List R) (k : Nat), cf (padd l m) k = cf l k + cf m k
  | [], m, k => by rw [padd, cf_nil]; grind
  | a :: l, [], k => by rw [padd, cf_nil]; grind
  | a :: l, b :: m, 0 => by rw [padd, cf_zero, cf_zero, cf_zero]
  | a :: l, b :: m, k + 1 => by rw [padd, cf_succ, cf_succ, cf_succ, cf_add l m k]
theorem cf_sm (a : R) : ∀ (l : List R) (k : Nat), cf (psm a l) k = a * cf l k
  | [], k => by show cf ([] : List R) k = _; rw [cf_nil]; grind
  | b :: l, 0 => by show cf (a * b :: psm a l) 0 = _; rw [cf_zero, cf_zero]
  | b :: l, k + 1 => by show cf (a * b :: psm a l) (k + 1) = _; rw [cf_succ, cf_succ, cf_sm a l k]
theorem cm0 (a : R) (l m : List R) : cf (pmul (a :: l) m) 0 = a * cf m 0 := by rw [pmul, cf_add, cf_sm, cf_zero]; grind
theorem cms (a : R) (l m : List R) (k : Nat) : cf (pmul (a :: l) m) (k + 1) = a * cf m (k + 1) + cf (pmul l m) k := by rw [pmul, cf_add, cf_sm, cf_succ]
theorem cmn (m : List R) (k : Nat) : cf (pmul [] m) k = 0 := by rw [pmul, cf_nil]
theorem mul_congr : ∀ (l m m' : List R), PE m m' → PE (pmul l m) (pmul l m')
  | [], m, m', h, k => by rw [cmn, cmn]
  | a :: l, m, m', h, 0 => by rw [cm0, cm0, h 0]
  | a :: l, m, m', h, k + 1 => by rw [cms, cms, h (k + 1), mul_congr l m m' h k]
theorem mul_padd : ∀ (l m n : List R) (k : Nat), cf (pmul l (padd m n)) k = cf (pmul l m) k + cf (pmul l n) k
  | [], m, n, k => by rw [cmn, cmn, cmn]; grind
  | a :: l, m, n, 0 => by rw [cm0, cm0, cm0, cf_add]; grind
  | a :: l, m, n, k + 1 => by rw [cms, cms, cms, cf_add, mul_padd l m n k]; grind
theorem mul_psm (c : R) : ∀ (l m : List R) (k : Nat), cf (pmul l (psm c m)) k = c * cf (pmul l m) k
  | [], m, k => by rw [cmn, cmn]; grind
  | a :: l, m, 0 => by rw [cm0, cm0, cf_sm]; grind
  | a :: l, m, k + 1 => by rw [cms, cms, cf_sm, mul_psm c l m k]; grind
theorem mul_sh0 : ∀ (l m : List R), cf (pmul l (0 :: m)) 0 = 0
  | [], m => by rw [cmn]
  | a :: l, m => by rw [cm0, cf_zero]; grind
theorem mul_sh : ∀ (l m : List R) (k : Nat), cf (pmul l (0 :: m)) (k + 1) = cf (pmul l m) k
  | [], m, k => by rw [cmn, cmn]
  | a :: l, m, 0 => by rw [cms, cf_succ, mul_sh0, cm0]; grind
  | a :: l, m, k + 1 => by rw [cms, cf_succ, mul_sh l m k, cms]
theorem mul_one1 (a : R) : ∀ (l : List R) (k : Nat), cf (pmul l [a]) k = a * cf l k
  | [], k => by rw [cmn, cf_nil]; grind
  | b :: l, 0 => by rw [cm0, cf_zero, cf_zero]; grind
  | b :: l, k + 1 => by rw [cms, cf_succ, cf_nil, mul_one1 a l k, cf_succ]; grind
theorem mul_cons (a : R) (l m : List R) : PE (pmul m (a :: l)) (padd (psm a m) (0 :: pmul m l)) := fun k => by
  have e : PE (a :: l) (padd [a] (0 :: l)) := fun k => by
    cases k with
    | zero => rw [cf_add, cf_zero, cf_zero, cf_zero]; grind
    | succ k => rw [cf_add, cf_succ, cf_succ, cf_succ, cf_nil]; grind
  rw [mul_congr m _ _ e k, mul_padd, mul_one1, cf_add, cf_sm]
  cases k with
  | zero => rw [mul_sh0, cf_zero]
  | succ k => rw [mul_sh, cf_succ]
theorem mul_comm' : ∀ (l m : List R), PE (pmul l m) (pmul m l)
  | [], m, k => by
    rw [cmn]
    induction m generalizing k with
    | nil => rw [cmn]
    | cons b m ih => cases k with
      | zero => rw [cm0, cf_nil]; grind
      | succ k => rw [cms, cf_nil, ← ih k]; grind
  | a :: l, m, k => by
    rw [mul_cons a l m k, pmul, cf_add, cf_add]
    cases k with
    | zero => rw [cf_zero, cf_zero]
    | succ k => rw [cf_succ, cf_succ, mul_comm' l m k]
theorem mul_congr2 {l l' m m' : List R} (h : PE l l') (h' : PE m m') : PE (pmul l m) (pmul l' m') := fun k => by
  rw [mul_congr l m m' h' k, mul_comm' l m' k, mul_congr m' l l' h k, mul_comm' m' l' k]
theorem add_congr2 {l l' m m' : List R} (h : PE l l') (h' : PE m m') : PE (padd l m) (padd l' m') := fun k => by rw [cf_add, cf_add, h k, h' k]
theorem padd_mul (l m n : List R) : PE (pmul (padd l m) n) (padd (pmul l n) (pmul m n)) := fun k => by
  rw [mul_comm' _ n k, mul_padd, cf_add, mul_comm' n l k, mul_comm' n m k]
theorem psm_mul (c : R) (l m : List R) (k : Nat) : cf (pmul (psm c l) m) k = c * cf (pmul l m) k := by
  rw [mul_comm' _ m k, mul_psm, mul_comm' m l k]
theorem mul_assoc' : ∀ (l m n : List R), PE (pmul (pmul l m) n) (pmul l (pmul m n))
  | [], m, n, k => rfl
  | a :: l, m, n, k => by
    rw [pmul, padd_mul _ _ n k, cf_add, psm_mul]
    cases k with
    | zero => rw [cm0, cm0]; grind
    | succ k => rw [cms, cms, mul_assoc' l m n k]; grind
/-! the rows without trailing zeros -/
variable [DecidableEq R]
def trim : List R → List R
  | [] => []
  | a :: l => match trim l with
    | [] => if a = 0 then [] else [a]
    | b :: m => a :: b :: m
theorem cf_trim : ∀ (l : List R) (k : Nat), cf (trim l) k = cf l k
  | [], k => rfl
  | a :: l, k => by
    have ih := fun j => cf_trim l j
    unfold trim
    split
    · next e =>
      rw [e] at ih
      split
      · next z =>
        subst z
        cases k with
        | zero => rw [cf_nil, cf_zero]
        | succ k => rw [cf_nil, cf_succ, ← ih k, cf_nil]
      · cases k with
        | zero => rw [cf_zero, cf_zero]
        | succ k => rw [cf_succ, cf_succ, ← ih k]
    · next b m e =>
      rw [e] at ih
      cases k with
      | zero => rw [cf_zero, cf_zero]
      | succ k => rw [cf_succ, cf_succ, ← ih k]
theorem trim_zero : ∀ (l : List R), (∀ k, cf l k = 0) → trim l = []
  | [], _ => rfl
  | a :: l, h => by
    have h0 := h 0
    rw [cf_zero] at h0
    have := trim_zero l fun k => by have := h (k + 1); rwa [cf_succ] at this
    unfold trim
    rw [this]
    simp [h0]
theorem trim_ext : ∀ (l m : List R), PE l m → trim l = trim m
  | [], m, h => (trim_zero m fun k => by rw [← h k, cf_nil]).symm
  | a :: l, [], h => trim_zero _ fun k => by rw [h k, cf_nil]
  | a :: l, b :: m, h => by
    have h0 := h 0
    rw [cf_zero, cf_zero] at h0
    have := trim_ext l m fun k => by have := h (k + 1); rwa [cf_succ, cf_succ] at this
    unfold trim
    rw [this, h0]
theorem trim_idem (l : List R) : trim (trim l) = trim l := trim_ext _ _ (cf_trim l)
theorem trim_pe (l : List R) : PE (trim l) l := cf_trim l
end
/-- the polynomials over R -/
structure Pol (R : Type) [CommRing R] [DecidableEq R] where
  l : List R
  ok : trim l = l
section
variable {R : Type} [CommRing R] [DecidableEq R]
def Pol.of (l : List R) : Pol R := ⟨trim l, trim_idem l⟩
theorem Pol.ext' {p q : Pol R} (h : PE p.l q.l) : p = q := by
  have := trim_ext _ _ h
  rw [p.ok, q.ok] at this
  cases p; cases q; simp_all
theorem Pol.of_eq {l m : List R} (h : PE l m) : Pol.of l = Pol.of m := by
  unfold Pol.of
  simp only [Pol.mk.injEq]
  exact trim_ext _ _ h
theorem Pol.of_l (p : Pol R) : Pol.of p.l = p := by
  unfold Pol.of
  cases p; simp_all
theorem pe_of (l : List R) : PE (Pol.of l).l l := cf_trim l
theorem cf_one (n : Nat) (a : R) : cf [a] (n + 1) = 0 := by rw [cf_succ, cf_nil]
instance : Add (Pol R) := ⟨fun p q => Pol.of (padd p.l q.l)⟩
instance : Mul (Pol R) := ⟨fun p q => Pol.of (pmul p.l q.l)⟩
instance : Neg (Pol R) := ⟨fun p => Pol.of (psm (-1) p.l)⟩
theorem Pol.cadd (p q : Pol R) (k : Nat) : cf (p + q).l k = cf p.l k + cf q.l k := by rw [← cf_add]; exact pe_of _ k
theorem Pol.cneg (p : Pol R) (k : Nat) : cf (-p).l k = - cf p.l k := by
  have : cf (-p).l k = (-1) * cf p.l k := by rw [← cf_sm]; exact pe_of _ k
  rw [this]; grind
theorem Pol.cmul (p q : Pol R) (k : Nat) : cf (p * q).l k = cf (pmul p.l q.l) k := pe_of _ k
def Pol.C (a : R) : Pol R := Pol.of [a]
theorem Pol.cC (a : R) (k : Nat) : cf (Pol.C a).l k = if k = 0 then a else 0 := by
  rw [Pol.C, pe_of]
  cases k with
  | zero => rw [cf_zero]; rfl
  | succ k => rw [cf_one]; rfl
theorem Pol.mulC (p : Pol R) (a : R) (k : Nat) : cf (p * Pol.C a).l k = a * cf p.l k := by
  have e : cf (pmul p.l (Pol.C a).l) k = cf (pmul p.l [a]) k := mul_congr _ _ _ (pe_of [a]) k
  rw [Pol.cmul, e, mul_one1]
theorem Pol.mul_comm (p q : Pol R) : p * q = q * p := Pol.ext' fun k => by rw [Pol.cmul, Pol.cmul, mul_comm' _ _ k]
theorem Pol.Cmul (p : Pol R) (a : R) (k : Nat) : cf (Pol.C a * p).l k = a * cf p.l k := by rw [Pol.mul_comm, Pol.mulC]
def Pol.npow (p : Pol R) : Nat → Pol R
  | 0 => Pol.C 1
  | n + 1 => Pol.npow p n * p
local instance iNat1 {R : Type} [Semiring R] : NatCast R := Semiring.natCast
local instance iInt1 {R : Type} [Ring R] : IntCast R := Ring.intCast
theorem Pol.C_ext {a b : R} (h : a = b) : Pol.C a = Pol.C b := by rw [h]
instance : CommRing (Pol R) where
  natCast := ⟨fun n => Pol.C (n : R)⟩
  ofNat n := ⟨Pol.C (n : R)⟩
  nsmul := ⟨fun n p => Pol.C (n : R) * p⟩
  npow := ⟨fun p n => p.npow n⟩
  sub p q := p + -q
  intCast := ⟨fun n => Pol.C (n : R)⟩
  zsmul := ⟨fun n p => Pol.C (n : R) * p⟩
  add_zero p := Pol.ext' fun k => by
    show cf (p + Pol.C ((0 : Nat) : R)).l k = _
    rw [Pol.cadd, Pol.cC, Semiring.natCast_zero]
    split <;> grind
  add_comm p q := Pol.ext' fun k => by rw [Pol.cadd, Pol.cadd]; grind
  add_assoc p q r := Pol.ext' fun k => by rw [Pol.cadd, Pol.cadd, Pol.cadd, Pol.cadd]; grind
  mul_assoc p q r := Pol.ext' fun k => by
    rw [Pol.cmul, Pol.cmul, mul_congr2 (Pol.cmul p q) (fun _ => rfl) k, mul_assoc' _ _ _ k]
    exact (mul_congr2 (fun _ => rfl) (Pol.cmul q r) k).symm
  mul_one p := Pol.ext' fun k => by
    show cf (p * Pol.C ((1 : Nat) : R)).l k = _
    rw [Pol.mulC, Semiring.natCast_one]; grind
  one_mul p := Pol.ext' fun k => by
    show cf (Pol.C ((1 : Nat) : R) * p).l k = _
    rw [Pol.Cmul, Semiring.natCast_one]; grind
  left_distrib p q r := Pol.ext' fun k => by rw [Pol.cmul, Pol.cadd, mul_congr _ _ _ (Pol.cadd q r · |>.trans (cf_add _ _ _).symm) k, mul_padd, Pol.cmul, Pol.cmul]
  right_distrib p q r := by
    rw [Pol.mul_comm (p + q) r, Pol.mul_comm p r, Pol.mul_comm q r]
    exact Pol.ext' fun k => by rw [Pol.cmul, Pol.cadd, mul_congr _ _ _ (Pol.cadd p q · |>.trans (cf_add _ _ _).symm) k, mul_padd, Pol.cmul, Pol.cmul]
  zero_mul p := Pol.ext' fun k => by
    show cf (Pol.C ((0 : Nat) : R) * p).l k = cf (Pol.C ((0 : Nat) : R)).l k
    rw [Pol.Cmul, Pol.cC, Semiring.natCast_zero]
    split <;> grind
  mul_zero p := Pol.ext' fun k => by
    show cf (p * Pol.C ((0 : Nat) : R)).l k = cf (Pol.C ((0 : Nat) : R)).l k
    rw [Pol.mulC, Pol.cC, Semiring.natCast_zero]
    split <;> grind
  pow_zero p := Pol.C_ext Semiring.natCast_one.symm
  pow_succ p n := rfl
  ofNat_succ n := Pol.ext' fun k => by
    show cf (Pol.C ((n + 1 : Nat) : R)).l k = cf (Pol.C ((n : Nat) : R) + Pol.C ((1 : Nat) : R)).l k
    rw [Pol.cadd, Pol.cC, Pol.cC, Pol.cC]
    split
    · exact Semiring.natCast_add n 1
    · grind
  ofNat_eq_natCast n := rfl
  nsmul_eq_natCast_mul n p := rfl
  neg_add_cancel p := Pol.ext' fun k => by
    show _ = cf (Pol.C ((0 : Nat) : R)).l k
    rw [Pol.cadd, Pol.cneg, Pol.cC, Semiring.natCast_zero]
    split <;> grind
  sub_eq_add_neg p q := rfl
  neg_zsmul n p := Pol.ext' fun k => by
    show cf (Pol.C ((-n : Int) : R) * p).l k = cf (-(Pol.C ((n : Int) : R) * p)).l k
    rw [Pol.cneg, Pol.Cmul, Pol.Cmul, Ring.intCast_neg]; grind
  zsmul_natCast_eq_nsmul n p := by
    show Pol.C (((n : Nat) : Int) : R) * p = Pol.C ((n : Nat) : R) * p
    rw [Ring.intCast_natCast]
  intCast_ofNat n := by
    show Pol.C (((n : Nat) : Int) : R) = Pol.C ((n : Nat) : R)
    rw [Ring.intCast_natCast]
  intCast_neg n := Pol.ext' fun k => by
    show cf (Pol.C ((-n : Int) : R)).l k = cf (-Pol.C ((n : Int) : R)).l k
    rw [Pol.cneg, Pol.cC, Pol.cC, Ring.intCast_neg]
    split <;> grind
  mul_comm p q := Pol.mul_comm p q
end
section
variable {R : Type} [CommRing R] [DecidableEq R]
example (p q r : Pol R) : (p + q) * r = r * p + r * q := by grind
end
end My

namespace My
open PySem PySem.Spec PyProof.Rows L2 DL Lean.Grind
/-! the fields, the domains, and their values as data -/
inductive Fld where
  | Q
  | F (n : Nat)
def Fld.C : Fld → Type
  | .Q => Rat
  | .F n => Fin (n + 2)
instance : (f : Fld) → CommRing f.C
  | .Q => inferInstanceAs (CommRing Rat)
  | .F n => inferInstanceAs (CommRing (Fin (n + 2)))
instance : (f : Fld) → DecidableEq f.C
  | .Q => inferInstanceAs (DecidableEq Rat)
  | .F n => inferInstanceAs (DecidableEq (Fin (n + 2)))
def Fld.enc : Fld → D
  | .Q => .tuple [.str tQ]
  | .F n => .tuple [.str tF, .int (n + 2 : Nat)]
def Fld.el : (f : Fld) → f.C → D
  | .Q, (q : Rat) => .tuple [.int q.num, .int (q.den : Nat)]
  | .F n, (a : Fin (n + 2)) => .int (a.val : Nat)
/-- the modulus is one that the system takes -/
def Fld.Ok : Fld → Prop
  | .Q => True
  | .F n => Prime ((n + 2 : Nat) : Int) ∧ n + 2 ≤ 65521
inductive Dom where
  | Z
  | K (f : Fld)
  | P (f : Fld)
def Dom.C : Dom → Type
  | .Z => Int
  | .K f => f.C
  | .P f => Pol f.C
instance : (d : Dom) → CommRing d.C
  | .Z => inferInstanceAs (CommRing Int)
  | .K f => inferInstanceAs (CommRing f.C)
  | .P f => inferInstanceAs (CommRing (Pol f.C))
instance {R : Type} [CommRing R] [DecidableEq R] : DecidableEq (Pol R) := fun p q => decidable_of_iff (p.l = q.l) ⟨fun h => by cases p; cases q; cases h; rfl, fun h => h ▸ rfl⟩
instance : (d : Dom) → DecidableEq d.C
  | .Z => inferInstanceAs (DecidableEq Int)
  | .K f => inferInstanceAs (DecidableEq f.C)
  | .P f => inferInstanceAs (DecidableEq (Pol f.C))
def Dom.enc : Dom → D
  | .Z => .tuple [.str tZ]
  | .K f => f.enc
  | .P f => .tuple [.str tP, f.enc]
def Dom.el : (d : Dom) → d.C → D
  | .Z, (n : Int) => .int n
  | .K f, x => f.el x
  | .P f, (p : Pol f.C) => .tuple (p.l.map f.el)
def Dom.Ok : Dom → Prop
  | .Z => True
  | .K f => f.Ok
  | .P f => f.Ok
/-! ## equality -/
theorem Fld.el_plain (f : Fld) (x : f.C) : (f.el x).plain = true := by cases f <;> simp [Fld.el, PyData.plain, PyData.plainAll]
theorem Fld.el_depth (f : Fld) (x : f.C) : (f.el x).depth ≤ 2 := by cases f <;> simp [Fld.el, PyData.depth, PyData.depthAll]
theorem Fld.el_eqv (f : Fld) (x y : f.C) : PyData.eqv (f.el x) (f.el y) = decide (x = y) := by
  cases f with
  | Q =>
    have : (x = y) = (Rat.num x = Rat.num y ∧ Rat.den x = Rat.den y) := propext ⟨fun h => h ▸ ⟨rfl, rfl⟩, fun h => Rat.ext h.1 h.2⟩
    simp only [Fld.el, PyData.eqv, PyData.eqvAll, this, Bool.and_true, Bool.beq_eq_decide_eq, Bool.decide_and]
    congr 1
    exact decide_eq_decide.mpr Int.ofNat_inj
  | F n =>
    have : (x = y) = (Fin.val x = Fin.val y) := propext ⟨fun h => h ▸ rfl, fun h => Fin.ext h⟩
    simp only [Fld.el, PyData.eqv, this, Bool.beq_eq_decide_eq]
    exact decide_eq_decide.mpr Int.ofNat_inj
theorem Fld.els_plain (f : Fld) : ∀ l : List f.C, PyData.plainAll (l.map f.el) = true
  | [] => rfl
  | a :: l => by simp [PyData.plainAll, f.el_plain a, Fld.els_plain f l]
theorem Fld.els_depth (f : Fld) : ∀ l : List f.C, PyData.depthAll (l.map f.el) ≤ 2
  | [] => by simp [PyData.depthAll]
  | a :: l => by
    have := f.el_depth a
    have := Fld.els_depth f l
    simp only [List.map, PyData.depthAll]
    omega
theorem Fld.els_eqv (f : Fld) : ∀ l m : List f.C, PyData.eqvAll (l.map f.el) (m.map f.el) = decide (l = m)
  | [], [] => by simp [PyData.eqvAll]
  | [], b :: m => by simp [PyData.eqvAll]
  | a :: l, [] => by simp [PyData.eqvAll]
  | a :: l, b :: m => by
    simp only [List.map, PyData.eqvAll, f.el_eqv, Fld.els_eqv f l m, List.cons.injEq, Bool.decide_and]
theorem Dom.el_plain (d : Dom) (x : d.C) : (d.el x).plain = true := by
  cases d with
  | Z => rfl
  | K f => exact f.el_plain x
  | P f => simp [Dom.el, PyData.plain, f.els_plain]
theorem Dom.el_depth (d : Dom) (x : d.C) : (d.el x).depth ≤ 3 := by
  cases d with
  | Z => simp [Dom.el, PyData.depth]
  | K f => have := f.el_depth x; simp only [Dom.el]; omega
  | P f => have := f.els_depth (Pol.l x); simp only [Dom.el, PyData.depth]; omega
theorem Dom.el_eqv (d : Dom) (x y : d.C) : PyData.eqv (d.el x) (d.el y) = decide (x = y) := by
  cases d with
  | Z =>
    simp only [Dom.el, PyData.eqv]
    exact Bool.beq_eq_decide_eq (α := Int) x y
  | K f => exact f.el_eqv x y
  | P f =>
    have : (x = y) = (Pol.l x = Pol.l y) := propext ⟨fun h => h ▸ rfl, fun h => by cases x; cases y; cases h; rfl⟩
    simp only [Dom.el, PyData.eqv, f.els_eqv, this]
theorem dEq_el (d : Dom) {x y : d.C} {P : D → Prop} : dEq (d.el x) (d.el y) P = P (.bool (decide (x = y))) := dEq_of ⟨d.el_plain x, d.el_plain y, .inl (by have := d.el_depth x; omega)⟩ (d.el_eqv x y)
theorem dNe_el (d : Dom) {x y : d.C} {P : D → Prop} : dNe (d.el x) (d.el y) P = P (.bool (!decide (x = y))) := dNe_of ⟨d.el_plain x, d.el_plain y, .inl (by have := d.el_depth x; omega)⟩ (d.el_eqv x y)
theorem dEq_fel (f : Fld) {x y : f.C} {P : D → Prop} : dEq (f.el x) (f.el y) P = P (.bool (decide (x = y))) := dEq_el (.K f)
theorem dNe_fel (f : Fld) {x y : f.C} {P : D → Prop} : dNe (f.el x) (f.el y) P = P (.bool (!decide (x = y))) := dNe_el (.K f)
/-! ## fractions -/
theorem rat_den (q : Rat) : q * (q.den : Rat) = (q.num : Rat) := by
  have h := Rat.mkRat_eq_div q.num q.den
  rw [Rat.mkRat_self] at h
  have hd : (q.den : Rat) ≠ 0 := fun z => by
    have := q.den_pos
    have : q.den = 0 := Rat.natCast_eq_zero_iff.mp z
    omega
  generalize (q.den : Rat) = d at *
  generalize (q.num : Rat) = n at *
  rw [h]
  exact Rat.div_mul_cancel hd
theorem rat_mul_eq {q : Rat} {n m : Int} (e : q * (m : Rat) = (n : Rat)) : q.num * m = n * (q.den : Nat) := by
  have h := rat_den q
  have : ((q.num * m : Int) : Rat) = ((n * (q.den : Nat) : Int) : Rat) := by
    rw [Rat.intCast_mul, Rat.intCast_mul, ← h, ← e, Rat.intCast_natCast]
    grind
  exact Rat.intCast_inj.mp this
theorem rat_frac {n m a b : Int} (h : Frac n m a b) (hm : m ≠ 0) {q : Rat} (e : q * (m : Rat) = (n : Rat)) : a = q.num ∧ b = (q.den : Nat) := by
  have h1 := rat_mul_eq e
  have h2 := h.eq
  have hd := q.den_pos
  have c : Int.gcd q.num (q.den : Nat) = 1 := by
    have := q.reduced
    show Nat.gcd q.num.natAbs ((q.den : Nat) : Int).natAbs = 1
    simpa using this
  refine fracs_eq h.cop c h.pos (by omega) ?_
  have : m * (a * (q.den : Nat)) = m * (q.num * b) := by grind
  exact Int.eq_of_mul_eq_mul_left hm this
theorem rat_add (x y : Rat) : (x + y) * ((x.den * y.den : Int) : Rat) = ((x.num * y.den + y.num * x.den : Int) : Rat) := by
  have h := rat_den x
  have h' := rat_den y
  simp only [Rat.intCast_mul, Rat.intCast_add, Rat.intCast_natCast]
  rw [← h, ← h']
  grind
theorem rat_mul (x y : Rat) : (x * y) * ((x.den * y.den : Int) : Rat) = ((x.num * y.num : Int) : Rat) := by
  have h := rat_den x
  have h' := rat_den y
  simp only [Rat.intCast_mul, Rat.intCast_natCast]
  rw [← h, ← h']
  grind
end My
namespace My
open PySem PySem.Spec PyProof.Rows L2 DL Lean.Grind
theorem Fld.enc_inj {f g : Fld} (h : f.enc = g.enc) : f = g := by
  cases f <;> cases g <;> simp [Fld.enc] at h ⊢
  omega
theorem Fld.enc_len (f : Fld) : ∃ l, f.enc = .tuple l := by cases f <;> exact ⟨_, rfl⟩
theorem s_ne {a b : Str} (h : (a == b) = false) : ¬ a = b := fun e => by subst e; simp at h
theorem Dom.enc_inj {d e : Dom} (h : d.enc = e.enc) : d = e := by
  cases d with
  | Z => cases e with
    | Z => rfl
    | K g => cases g <;> simp [Dom.enc, Fld.enc] at h
             exact absurd h (s_ne s_ZQ)
    | P g => simp [Dom.enc] at h
  | K f => cases e with
    | Z => cases f <;> simp [Dom.enc, Fld.enc] at h
           exact absurd h (s_ne s_QZ)
    | K g => rw [Fld.enc_inj h]
    | P g => cases f with
      | Q => simp [Dom.enc, Fld.enc] at h
      | F n => cases g <;> simp [Dom.enc, Fld.enc] at h
  | P f => cases e with
    | Z => simp [Dom.enc] at h
    | K g => cases g with
      | Q => simp [Dom.enc, Fld.enc] at h
      | F n => cases f <;> simp [Dom.enc, Fld.enc] at h
    | P g =>
      simp only [Dom.enc, PyData.tuple.injEq, List.cons.injEq, and_true, true_and] at h
      rw [Fld.enc_inj h]
theorem Fld.el_inj {f : Fld} {x y : f.C} (h : f.el x = f.el y) : x = y := by
  have := f.el_eqv x y
  rw [h, f.el_eqv y y] at this
  simpa using this.symm
theorem Fld.els_inj {f : Fld} : ∀ {l m : List f.C}, l.map f.el = m.map f.el → l = m
  | [], [], _ => rfl
  | [], b :: m, h => by simp at h
  | a :: l, [], h => by simp at h
  | a :: l, b :: m, h => by
    simp only [List.map, List.cons.injEq] at h
    rw [Fld.el_inj h.1, Fld.els_inj h.2]
theorem Dom.el_inj {d : Dom} {x y : d.C} (h : d.el x = d.el y) : x = y := by
  have := d.el_eqv x y
  rw [h, d.el_eqv y y] at this
  simpa using this.symm
local instance iNat2 {R : Type} [Semiring R] : NatCast R := Semiring.natCast
local instance iInt2 {R : Type} [Ring R] : IntCast R := Ring.intCast
theorem Pol.zero_l {R : Type} [CommRing R] [DecidableEq R] : (0 : Pol R).l = [] := by
  show trim [((0 : Nat) : R)] = []
  exact trim_zero _ fun k => by
    cases k with
    | zero => rw [cf_zero]; exact Semiring.natCast_zero
    | succ k => exact cf_one ..
theorem part_inj {f f' : Fld} {l : List f.C} {l' : List f'.C} {k k' : Nat} (h : ([f.enc, .tuple (l.map f.el), .int k] : List D) = [f'.enc, .tuple (l'.map f'.el), .int k']) : ∃ e : f = f', e ▸ l = l' ∧ k = k' := by
  simp only [List.cons.injEq, PyData.tuple.injEq, PyData.int.injEq, and_true] at h
  have e := Fld.enc_inj h.1
  subst e
  exact ⟨rfl, Fld.els_inj h.2.1, by omega⟩
end My
namespace My
open PySem PySem.Spec PyProof.Rows L2 DL Lean.Grind
theorem Dom.zero_P (f : Fld) : (Dom.P f).el 0 = .tuple [] := by
  show PyData.tuple ((0 : Pol f.C).l.map f.el) = _
  rw [Pol.zero_l]
  rfl
theorem Dom.el_of (f : Fld) (l : List f.C) : (Dom.P f).el (Pol.of l) = .tuple ((trim l).map f.el) := rfl
section
variable {R : Type} [CommRing R] [DecidableEq R]
theorem cf_take (l : List R) (m j : Nat) : cf (l.take m) j = if j < m then cf l j else 0 := by
  unfold cf
  rw [List.getD_eq_getElem?_getD, List.getElem?_take, List.getD_eq_getElem?_getD]
  split <;> rfl
theorem trim_take {l : List R} {m : Nat} (h : cf l m = 0) : trim (l.take (m + 1)) = trim (l.take m) := trim_ext _ _ fun j => by
  rw [cf_take, cf_take]
  by_cases c : j < m
  · rw [if_pos c, if_pos (by omega)]
  · rw [if_neg c]
    by_cases e : j = m
    · subst e; rw [if_pos (by omega), h]
    · rw [if_neg (by omega)]
theorem trim_full : ∀ (l : List R), (l ≠ [] → cf l (l.length - 1) ≠ 0) → trim l = l
  | [], _ => rfl
  | [a], h => by
    have : a ≠ 0 := by simpa [cf] using h (by simp)
    simp [trim, this]
  | a :: b :: l, h => by
    have ih := trim_full (b :: l) fun _ => by
      have := h (by simp)
      simpa [cf] using this
    unfold trim
    rw [ih]
end
end My
namespace My
open PySem PySem.Spec PyProof.Rows L2 DL Lean.Grind
/-! whole numbers as values -/
def Fld.num : (f : Fld) → Int → f.C
  | .Q, n => (n : Rat)
  | .F m, n => Fin.ofNat (m + 2) (n % ((m + 2 : Nat) : Int)).toNat
def Dom.num : (d : Dom) → Int → d.C
  | .Z, n => n
  | .K f, n => f.num n
  | .P f, n => Pol.of [f.num n]
def Dom.flat : Dom → Prop
  | .P _ => False
  | _ => True
theorem fin_mod {m : Nat} {n : Int} : n.fmod ((m + 2 : Nat) : Int) = ((Fin.ofNat (m + 2) (n % ((m + 2 : Nat) : Int)).toNat).val : Nat) := by
  rw [Int.fmod_eq_emod_of_nonneg _ (by omega)]
  have h1 := Int.emod_nonneg n (show ((m + 2 : Nat) : Int) ≠ 0 by omega)
  have h2 := Int.emod_lt_of_pos n (show (0 : Int) < ((m + 2 : Nat) : Int) by omega)
  simp only [Fin.ofNat]
  rw [Nat.mod_eq_of_lt (by omega)]
  omega
theorem Fld.el_num_F (m : Nat) (n : Int) : (Fld.F m).el ((Fld.F m).num n) = .int (n.fmod ((m + 2 : Nat) : Int)) := by
  rw [fin_mod]
  rfl
theorem Fld.el_num_Q (n : Int) : Fld.Q.el (Fld.Q.num n) = .tuple [.int n, .int 1] := rfl
/-- the parts of a fraction are below 2 ^ h -/
def Fld.Small (h : Nat) : (f : Fld) → f.C → Prop
  | .Q, (q : Rat) => q.num.natAbs < 2 ^ h ∧ q.den < 2 ^ h
  | .F _, _ => True
theorem Fld.add_F {m : Nat} (x y : (Fld.F m).C) : (Fld.F m).el (x + y) = .int ((((x : Fin (m + 2)).val : Int) + ((y : Fin (m + 2)).val : Int)).fmod ((m + 2 : Nat) : Int)) := by
  rw [Int.fmod_eq_emod_of_nonneg _ (by omega)]
  rfl
theorem Fld.mul_F {m : Nat} (x y : (Fld.F m).C) : (Fld.F m).el (x * y) = .int ((((x : Fin (m + 2)).val : Int) * ((y : Fin (m + 2)).val : Int)).fmod ((m + 2 : Nat) : Int)) := by
  rw [Int.fmod_eq_emod_of_nonneg _ (by omega)]
  rfl
theorem Fld.add_Q {x y : Rat} {a b : Int} (h : Frac (x.num * y.den + y.num * x.den) (x.den * y.den) a b) : PyData.tuple [.int a, .int b] = Fld.Q.el (x + y : Rat) := by
  have hx := x.den_pos
  have hy := y.den_pos
  obtain ⟨rfl, rfl⟩ := rat_frac h (Int.mul_ne_zero (by omega) (by omega)) (rat_add x y)
  rfl
theorem Fld.mul_Q {x y : Rat} {a b : Int} (h : Frac (x.num * y.num) (x.den * y.den) a b) : PyData.tuple [.int a, .int b] = Fld.Q.el (x * y : Rat) := by
  have hx := x.den_pos
  have hy := y.den_pos
  obtain ⟨rfl, rfl⟩ := rat_frac h (Int.mul_ne_zero (by omega) (by omega)) (rat_mul x y)
  rfl
theorem dxy_inj {d d' : Dom} {x y : d.C} {x' y' : d'.C} (h : ([d.enc, d.el x, d.el y] : List D) = [d'.enc, d'.el x', d'.el y']) : ∃ e : d = d', e ▸ x = x' ∧ e ▸ y = y' := by
  simp only [List.cons.injEq, and_true] at h
  have e := Dom.enc_inj h.1
  subst e
  exact ⟨rfl, Dom.el_inj h.2.1, Dom.el_inj h.2.2⟩
theorem dn_inj {d d' : Dom} {n n' : Int} (h : ([d.enc, .int n] : List D) = [d'.enc, .int n']) : d = d' ∧ n = n' := by
  simp only [List.cons.injEq, PyData.int.injEq, and_true] at h
  exact ⟨Dom.enc_inj h.1, h.2⟩
end My
namespace My
open PySem PySem.Spec PyProof.Rows L2 DL Lean.Grind
theorem cf_map_range {R : Type} [CommRing R] (h : Nat → R) (N k : Nat) : cf ((List.range N).map h) k = if k < N then h k else 0 := by
  unfold cf
  rw [List.getD_eq_getElem?_getD, List.getElem?_map]
  by_cases c : k < N
  · rw [List.getElem?_range c, if_pos c]; rfl
  · rw [List.getElem?_eq_none (by simpa using c), if_neg c]; rfl
theorem cf_out {R : Type} [CommRing R] {l : List R} {k : Nat} (h : l.length ≤ k) : cf l k = 0 := by
  unfold cf
  rw [List.getD_eq_getElem?_getD, List.getElem?_eq_none h]; rfl
theorem map_el (f : Fld) (h : Nat → f.C) (N : Nat) : (List.range N).map (fun k => f.el (h k)) = ((List.range N).map h).map f.el := by rw [List.map_map]; rfl
end My
namespace My
open PySem PySem.Spec PyProof.Rows L2 DL Lean.Grind
/-- v is n / M with n at most A -/
def Fld.In (M A : Nat) : (f : Fld) → f.C → Prop
  | .Q, (v : Rat) => ∃ n : Int, v * ((M : Int) : Rat) = (n : Rat) ∧ n.natAbs ≤ A
  | .F _, _ => True
theorem Fld.In.small {f : Fld} {M A h : Nat} {v : f.C} (i : f.In M A v) (h0 : 0 < M) (h1 : M < 2 ^ h) (h2 : A < 2 ^ h) : f.Small h v := by
  cases f with
  | F n => trivial
  | Q =>
    obtain ⟨n, e, hn⟩ := i
    have e1 := rat_mul_eq e
    have hd := Rat.den_pos v
    have c : Int.gcd ((Rat.den v : Nat) : Int) (Rat.num v) = 1 := by
      have := Rat.reduced v
      rw [Int.gcd_comm]
      show Nat.gcd (Rat.num v).natAbs ((Rat.den v : Nat) : Int).natAbs = 1
      simpa using this
    have dv : ((Rat.den v : Nat) : Int) ∣ (M : Int) := dvd_cop c ⟨n, by rw [e1, Int.mul_comm]⟩
    have dl := Int.le_of_dvd (by omega) dv
    refine ⟨?_, show Rat.den v < 2 ^ h by omega⟩
    have e2 : (Rat.num v).natAbs * M = n.natAbs * Rat.den v := by
      have := congrArg Int.natAbs e1
      rwa [Int.natAbs_mul, Int.natAbs_mul, Int.natAbs_natCast, Int.natAbs_natCast] at this
    have e3 : (Rat.num v).natAbs * M ≤ n.natAbs * M := by rw [e2]; exact Nat.mul_le_mul_left _ (by omega)
    have := Nat.le_of_mul_le_mul_right e3 h0
    exact Nat.lt_of_le_of_lt (Nat.le_trans this hn) h2
theorem Fld.In.mul {f : Fld} {M A N B : Nat} {v w : f.C} (i : f.In M A v) (j : f.In N B w) : f.In (M * N) (A * B) (v * w) := by
  cases f with
  | F n => trivial
  | Q =>
    obtain ⟨n, e, hn⟩ := i
    obtain ⟨m, e', hm⟩ := j
    refine ⟨n * m, ?_, by rw [Int.natAbs_mul]; exact Nat.mul_le_mul hn hm⟩
    rw [Int.natCast_mul, Rat.intCast_mul, Rat.intCast_mul, ← e, ← e']
    have hc : ∀ a b c d : Rat, a * b * (c * d) = a * c * (b * d) := fun a b c d => by grind
    exact hc v w _ _
theorem Fld.In.add {f : Fld} {M A B : Nat} {v w : f.C} (i : f.In M A v) (j : f.In M B w) : f.In M (A + B) (v + w) := by
  cases f with
  | F n => trivial
  | Q =>
    obtain ⟨n, e, hn⟩ := i
    obtain ⟨m, e', hm⟩ := j
    refine ⟨n + m, ?_, by omega⟩
    rw [Rat.intCast_add, ← e, ← e']
    have hc : ∀ a b c : Rat, (a + b) * c = a * c + b * c := fun a b c => by grind
    exact hc v w _
theorem Fld.In.zero (f : Fld) (M A : Nat) : f.In M A 0 := by
  cases f with
  | F n => trivial
  | Q => exact ⟨0, Rat.zero_mul _, by simp⟩
theorem Fld.In.mono {f : Fld} {M A B : Nat} {v : f.C} (i : f.In M A v) (h : A ≤ B) : f.In M B v := by
  cases f with
  | F n => trivial
  | Q =>
    obtain ⟨n, e, hn⟩ := i
    exact ⟨n, e, by omega⟩
/-! a product, row by row -/
section
variable {R : Type} [CommRing R] [DecidableEq R]
theorem cf_mul_take : ∀ (l m : List R) (i k : Nat), cf (pmul (l.take (i + 1)) m) k = cf (pmul (l.take i) m) k + if i ≤ k then cf l i * cf m (k - i) else 0
  | [], m, i, k => by
    simp only [List.take_nil]
    rw [cmn, cf_nil]
    split <;> grind
  | a :: l, m, 0, k => by
    simp only [List.take_succ_cons, List.take_zero]
    rw [cmn, if_pos (Nat.zero_le k), cf_zero, Nat.sub_zero]
    cases k with
    | zero => rw [cm0]; grind
    | succ k => rw [cms, cmn]; grind
  | a :: l, m, i + 1, 0 => by
    simp only [List.take_succ_cons]
    rw [cm0, cm0, if_neg (by omega)]
    grind
  | a :: l, m, i + 1, k + 1 => by
    simp only [List.take_succ_cons]
    rw [cms, cms, cf_mul_take l m i k, cf_succ, show k + 1 - (i + 1) = k - i by omega]
    by_cases c : i ≤ k
    · rw [if_pos c, if_pos (by omega)]; grind
    · rw [if_neg c, if_neg (by omega)]; grind
end
end My
namespace My
open PySem PySem.Spec PyProof.Rows L2 DL Lean.Grind
theorem Fld.el_noList (f : Fld) (x : f.C) : noList (f.el x) = true := by cases f <;> rfl
theorem flat_rep {α : Type} (n : Nat) (a : α) : (List.replicate n [a]).flatten = List.replicate n a := by
  induction n with
  | zero => rfl
  | succ n ih => rw [List.replicate_succ, List.flatten_cons, ih]; rfl
theorem cf_rep {R : Type} [CommRing R] (n k : Nat) : cf (List.replicate n (0 : R)) k = 0 := by
  unfold cf
  rw [List.getD_eq_getElem?_getD, List.getElem?_replicate]
  split <;> rfl
theorem cf_set {R : Type} [CommRing R] {l : List R} {i : Nat} (a : R) (k : Nat) (h : i < l.length) : cf (l.set i a) k = if i = k then a else cf l k := by
  unfold cf
  rw [List.getD_eq_getElem?_getD, List.getElem?_set, List.getD_eq_getElem?_getD]
  by_cases c : i = k
  · rw [if_pos c, if_pos c, if_pos h]; rfl
  · rw [if_neg c, if_neg c]
theorem el_get {f : Fld} {l : List f.C} {i : Nat} {d : D} (h : (l.map f.el)[i]? = some d) : d = f.el (cf l i) := by
  rw [List.getElem?_map] at h
  unfold cf
  rw [List.getD_eq_getElem?_getD]
  cases e : l[i]? with
  | none => rw [e] at h; cases h
  | some a => rw [e] at h; cases h; rfl
end My
namespace My
open PySem PySem.Spec PyProof.Rows L2 DL Lean.Grind
theorem cf_app {R : Type} [CommRing R] (a b : List R) (k : Nat) : cf (a ++ b) k = if k < a.length then cf a k else cf b (k - a.length) := by
  unfold cf
  rw [List.getD_eq_getElem?_getD, List.getElem?_append, List.getD_eq_getElem?_getD, List.getD_eq_getElem?_getD]
  split <;> rfl
theorem cf_drop {R : Type} [CommRing R] (l : List R) (n k : Nat) : cf (l.drop n) k = cf l (n + k) := by
  unfold cf
  rw [List.getD_eq_getElem?_getD, List.getElem?_drop, List.getD_eq_getElem?_getD]
theorem sum_pe {R : Type} [CommRing R] (x y : List R) (N : Nat) (h1 : N ≤ x.length) (h2 : N ≤ y.length) (h : x.length = N ∨ y.length = N) (k : Nat) : cf (((List.range N).map fun j => cf x j + cf y j) ++ x.drop N ++ y.drop N) k = cf x k + cf y k := by
  rw [cf_app, cf_app, List.length_append, List.length_map, List.length_range, List.length_drop, cf_map_range, cf_drop, cf_drop]
  by_cases c : k < N
  · rw [if_pos (by omega), if_pos c, if_pos c]
  · rcases h with h | h
    · rw [if_neg (by omega), cf_out (l := x) (by omega), show N + (k - (N + (x.length - N))) = k by omega]
      grind
    · by_cases d : k < x.length
      · rw [if_pos (by omega), if_neg c, show N + (k - N) = k by omega, cf_out (l := y) (by omega)]
        grind
      · rw [if_neg (by omega), cf_out (l := x) (by omega), cf_out (l := y) (by omega), cf_out (l := y) (by omega)]
        grind
end My
namespace My
open PySem PySem.Spec PyProof.Rows L2 DL Lean.Grind
theorem dx_inj {d d' : Dom} {x : d.C} {x' : d'.C} (h : ([d.enc, d.el x] : List D) = [d'.enc, d'.el x']) : ∃ e : d = d', e ▸ x = x' := by
  simp only [List.cons.injEq, and_true] at h
  have e := Dom.enc_inj h.1
  subst e
  exact ⟨rfl, Dom.el_inj h.2⟩
theorem fin_neg {m : Nat} (x : Fin (m + 2)) : (((-x : Fin (m + 2)).val : Nat) : Int) = (-(x.val : Int)) % ((m + 2 : Nat) : Int) := by
  have hx := x.isLt
  rw [Fin.val_neg']
  generalize x.val = a at *
  rw [Int.natCast_emod, ← Int.add_mul_emod_self_left (-(a : Int)) ((m + 2 : Nat) : Int) 1]
  congr 1
  omega
theorem Fld.neg_F {m : Nat} (x : (Fld.F m).C) : (Fld.F m).el (-x) = .int ((-((x : Fin (m + 2)).val : Int)).fmod ((m + 2 : Nat) : Int)) := by
  rw [Int.fmod_eq_emod_of_nonneg _ (by omega)]
  exact congrArg PyData.int (fin_neg x)
theorem Fld.neg_Q (x : Rat) : Fld.Q.el (-x : Rat) = .tuple [.int (-x.num), .int (x.den : Nat)] := rfl
theorem trim_neg {R : Type} [CommRing R] [DecidableEq R] (l : List R) (h : trim l = l) : trim (l.map fun a => -a) = l.map fun a => -a := by
  refine trim_full _ fun hn => ?_
  have hl : l ≠ [] := by intro e; subst e; exact hn rfl
  rw [List.length_map]
  have e : cf (l.map fun a => -a) (l.length - 1) = -cf l (l.length - 1) := by
    unfold cf
    rw [List.getD_eq_getElem?_getD, List.getElem?_map, List.getD_eq_getElem?_getD]
    cases l[l.length - 1]? with
    | none => show (0 : R) = - 0; grind
    | some a => rfl
  rw [e]
  intro z
  have z2 : cf l (l.length - 1) = 0 := by grind
  have hp : 0 < l.length := List.length_pos_iff.mpr hl
  have t := trim_take (l := l) z2
  rw [show l.length - 1 + 1 = l.length by omega, List.take_length, h] at t
  have len : ∀ m : List R, (trim m).length ≤ m.length := fun m => by
    induction m with
    | nil => simp [trim]
    | cons a m ih =>
      unfold trim
      split
      · split <;> simp
      · next b c e => rw [e] at ih; simp at ih ⊢; omega
  have := len (l.take (l.length - 1))
  rw [← t, List.length_take] at this
  omega
theorem Pol.neg_l {R : Type} [CommRing R] [DecidableEq R] (p : Pol R) : (-p).l = p.l.map fun a => -a := by
  rw [← (-p).ok, ← trim_neg p.l p.ok]
  refine trim_ext _ _ fun k => ?_
  rw [Pol.cneg]
  unfold cf
  rw [List.getD_eq_getElem?_getD, List.getD_eq_getElem?_getD, List.getElem?_map]
  cases p.l[k]? with
  | none => show -(0 : R) = 0; grind
  | some a => rfl
end My
namespace My
open PySem PySem.Spec PyProof.Rows L2 DL Lean.Grind
theorem Pol.neg_cf {R : Type} [CommRing R] [DecidableEq R] (p : Pol R) (j : Nat) : cf (p.l.map fun a => -a) j = -cf p.l j := by
  rw [← Pol.neg_l]
  exact Pol.cneg p j
theorem Dom.neg_P (f : Fld) (x : Pol f.C) : (Dom.P f).el (-x : Pol f.C) = .tuple ((x.l.map fun a => -a).map f.el) := by
  show PyData.tuple ((-x).l.map f.el) = _
  rw [Pol.neg_l]
end My
namespace My
open Lean.Grind
theorem Pol.neg_len {R : Type} [CommRing R] [DecidableEq R] (p : Pol R) : (-p).l.length = p.l.length := by rw [Pol.neg_l]; simp
end My
namespace My
open PySem PySem.Spec PyProof.Rows L2 DL Lean.Grind
local instance iNat3 {R : Type} [Semiring R] : NatCast R := Semiring.natCast
local instance iInt3 {R : Type} [Ring R] : IntCast R := Ring.intCast
theorem Fld.one_ne (f : Fld) : (1 : f.C) ≠ 0 := by
  cases f with
  | Q => exact fun h => absurd (congrArg Rat.num h) (by decide)
  | F n =>
    intro h
    have h1 : (Fin.ofNat (n + 2) 1).val = (Fin.ofNat (n + 2) 0).val := congrArg Fin.val h
    simp only [Fin.ofNat] at h1
    rw [Nat.mod_eq_of_lt (by omega), Nat.mod_eq_of_lt (by omega)] at h1
    omega
theorem Pol.one_l (f : Fld) : (1 : Pol f.C).l = [1] := by
  show trim [((1 : Nat) : f.C)] = [1]
  rw [Semiring.natCast_one]
  exact trim_full _ fun _ => by simpa [cf] using f.one_ne
theorem Dom.one_P (f : Fld) : (Dom.P f).el (1 : Pol f.C) = .tuple [f.el 1] := by
  show PyData.tuple ((1 : Pol f.C).l.map f.el) = _
  rw [Pol.one_l]
  rfl
end My

namespace My
open PySem PySem.Spec PyProof.Rows L2 DL Lean.Grind
/-! whole numbers in a field -/
theorem fin_num {m : Nat} (n : Int) : ((((Fld.F m).num n : Fin (m + 2)).val : Nat) : Int) = n % ((m + 2 : Nat) : Int) := by
  show (((Fin.ofNat (m + 2) (n % ((m + 2 : Nat) : Int)).toNat).val : Nat) : Int) = _
  have h1 := Int.emod_nonneg n (show ((m + 2 : Nat) : Int) ≠ 0 by omega)
  have h2 := Int.emod_lt_of_pos n (show (0 : Int) < ((m + 2 : Nat) : Int) by omega)
  simp only [Fin.ofNat]
  rw [Nat.mod_eq_of_lt (by omega)]
  omega
theorem fin_ext' {m : Nat} {x y : Fin (m + 2)} (h : ((x.val : Nat) : Int) = y.val) : x = y := Fin.ext (by omega)
theorem fin_add' {m : Nat} (x y : Fin (m + 2)) : (((x + y).val : Nat) : Int) = ((x.val : Int) + y.val) % ((m + 2 : Nat) : Int) := by
  rw [Fin.val_add]; simp
theorem fin_mul' {m : Nat} (x y : Fin (m + 2)) : (((x * y).val : Nat) : Int) = ((x.val : Int) * y.val) % ((m + 2 : Nat) : Int) := by
  rw [Fin.val_mul]; simp
theorem Fld.num_add (f : Fld) (a b : Int) : f.num (a + b) = f.num a + f.num b := by
  cases f with
  | Q => exact Rat.intCast_add a b
  | F m =>
    refine fin_ext' ?_
    rw [fin_num]
    refine Eq.trans ?_ (fin_add' _ _).symm
    rw [fin_num, fin_num, Int.emod_add_emod, Int.add_emod_emod]
theorem Fld.num_mul (f : Fld) (a b : Int) : f.num (a * b) = f.num a * f.num b := by
  cases f with
  | Q => exact Rat.intCast_mul a b
  | F m =>
    refine fin_ext' ?_
    rw [fin_num]
    refine Eq.trans ?_ (fin_mul' _ _).symm
    rw [fin_num, fin_num, ← Int.mul_emod]
theorem Fld.num_zero (f : Fld) : f.num 0 = 0 := by
  cases f with
  | Q => rfl
  | F m =>
    refine fin_ext' ?_
    rw [fin_num]
    show (0 : Int) % _ = (((0 : Fin (m + 2)).val : Nat) : Int)
    simp
theorem Fld.num_one (f : Fld) : f.num 1 = 1 := by
  cases f with
  | Q => rfl
  | F m =>
    refine fin_ext' ?_
    rw [fin_num]
    have e : ((1 : Fin (m + 2)).val : Nat) = 1 := by
      show 1 % (m + 2) = 1
      exact Nat.mod_eq_of_lt (by omega)
    refine Eq.trans ?_ (congrArg (Nat.cast (R := Int)) e).symm
    exact Int.emod_eq_of_lt (by omega) (by omega)
theorem Fld.num_neg (f : Fld) (a : Int) : f.num (-a) = - f.num a := by
  have h := f.num_add a (-a)
  rw [show a + -a = 0 by omega, f.num_zero] at h
  grind
theorem Fld.num_sub (f : Fld) (a b : Int) : f.num (a - b) = f.num a - f.num b := by
  rw [Int.sub_eq_add_neg, f.num_add, f.num_neg]; grind
theorem Fld.num_val {m : Nat} (x : (Fld.F m).C) : (Fld.F m).num ((x : Fin (m + 2)).val : Nat) = x := by
  refine fin_ext' ?_
  rw [fin_num]
  have := (x : Fin (m + 2)).isLt
  exact Int.emod_eq_of_lt (by omega) (by omega)
theorem Fld.el_num_mod (m : Nat) (n : Int) : (Fld.F m).el ((Fld.F m).num n) = .int (n.fmod ((m + 2 : Nat) : Int)) := Fld.el_num_F m n
theorem Fld.num_eq {m : Nat} {a b : Int} (h : ((m + 2 : Nat) : Int) ∣ a - b) : (Fld.F m).num a = (Fld.F m).num b := by
  refine fin_ext' ?_
  rw [fin_num, fin_num]
  exact Int.emod_eq_emod_iff_emod_sub_eq_zero.mpr (Int.emod_eq_zero_of_dvd h)
theorem Fld.num_mod (m : Nat) (a : Int) : (Fld.F m).num (a.fmod ((m + 2 : Nat) : Int)) = (Fld.F m).num a := by
  refine Fld.num_eq ?_
  rw [Int.fmod_eq_emod_of_nonneg _ (by omega)]
  have := Int.emod_add_mul_ediv a ((m + 2 : Nat) : Int)
  exact ⟨-(a / ((m + 2 : Nat) : Int)), by rw [Int.mul_neg]; omega⟩
theorem Fld.num_eq0 {m : Nat} {a : Int} : (Fld.F m).num a = 0 ↔ ((m + 2 : Nat) : Int) ∣ a := by
  constructor
  · intro h
    have h2 := fin_num (m := m) a
    rw [h] at h2
    have h3 : (((0 : Fin (m + 2)).val : Nat) : Int) = 0 := by simp
    exact Int.dvd_of_emod_eq_zero (h2.symm.trans h3)
  · intro h
    rw [← (Fld.F m).num_zero]
    exact Fld.num_eq (by simpa using h)
/-- the whole numbers that are no zero there and have an inverse -/
def Fld.Inv (f : Fld) (m : Int) : Prop := ∃ z : f.C, z * f.num m = 1
theorem Fld.inv_Q {m : Int} (h : m ≠ 0) : Fld.Q.Inv m := by
  refine ⟨((1 : Rat) / (m : Rat) : Rat), ?_⟩
  have hm : (m : Rat) ≠ 0 := fun z => h (by exact_mod_cast z)
  exact Rat.div_mul_cancel hm
theorem Fld.inv_F {n : Nat} {m s t : Int} (h : s * m + t * ((n + 2 : Nat) : Int) = 1) : (Fld.F n).num s * (Fld.F n).num m = 1 := by
  rw [← Fld.num_mul, ← Fld.num_one]
  refine Fld.num_eq ⟨-t, ?_⟩
  generalize ((n + 2 : Nat) : Int) = p at *
  grind
theorem Fld.Inv.mul {f : Fld} {m n : Int} (h : f.Inv m) (k : f.Inv n) : f.Inv (m * n) := by
  obtain ⟨z, hz⟩ := h
  obtain ⟨w, hw⟩ := k
  refine ⟨z * w, ?_⟩
  rw [f.num_mul]
  have : z * w * (f.num m * f.num n) = (z * f.num m) * (w * f.num n) := by grind
  rw [this, hz, hw]; grind
theorem Fld.Inv.one (f : Fld) : f.Inv 1 := ⟨1, by rw [f.num_one]; grind⟩
theorem Fld.Inv.cancel {f : Fld} {m : Int} {x y : f.C} (h : f.Inv m) (e : x * f.num m = y * f.num m) : x = y := by
  obtain ⟨z, hz⟩ := h
  have h1 : x * (z * f.num m) = y * (z * f.num m) := by
    have a : x * (z * f.num m) = (x * f.num m) * z := by grind
    have b : y * (z * f.num m) = (y * f.num m) * z := by grind
    rw [a, b, e]
  rw [hz] at h1
  have a : x * 1 = x := by grind
  have b : y * 1 = y := by grind
  rw [a, b] at h1
  exact h1
/-- the row a of whole numbers over the one number m is the row x -/
def Fld.Over (f : Fld) (x : List f.C) (a : List Int) (m : Int) : Prop := f.Inv m ∧ ∀ k, cf x k * f.num m = f.num (cf a k)
theorem Fld.Over.uniq {f : Fld} {x y : List f.C} {a : List Int} {m : Int} (h : f.Over x a m) (k : f.Over y a m) : Pol.of x = Pol.of y :=
  Pol.of_eq fun j => h.1.cancel ((h.2 j).trans (k.2 j).symm)
theorem num_pmul (f : Fld) : ∀ (x y : List f.C) (a b : List Int) (m n : Int), (∀ k, cf x k * f.num m = f.num (cf a k)) → (∀ k, cf y k * f.num n = f.num (cf b k)) → ∀ k, cf (pmul x y) k * f.num (m * n) = f.num (cf (pmul a b) k)
  | [], y, a, b, m, n, hx, hy, k => by
    have z : ∀ j, f.num (cf a j) = 0 := fun j => by rw [← hx j, cf_nil]; grind
    rw [cmn]
    have : f.num (cf (pmul a b) k) = 0 := by
      clear hx hy
      revert z
      induction a generalizing k with
      | nil => intro _; rw [cmn, f.num_zero]
      | cons a0 a ih =>
        intro z
        have z0 := z 0
        rw [cf_zero] at z0
        have zs : ∀ j, f.num (cf a j) = 0 := fun j => by have := z (j + 1); rwa [cf_succ] at this
        cases k with
        | zero => rw [cm0, f.num_mul, z0]; grind
        | succ k => rw [cms, f.num_add, f.num_mul, z0, ih k zs]; grind
    rw [this]; grind
  | x0 :: x, y, [], b, m, n, hx, hy, k => by
    have h0 : x0 * f.num m = 0 := by have := hx 0; rwa [cf_zero, cf_nil, f.num_zero] at this
    have hs : ∀ j, cf x j * f.num m = f.num (cf ([] : List Int) j) := fun j => by have := hx (j + 1); rw [cf_succ] at this; rw [this, cf_nil, cf_nil]
    have ih := num_pmul f x y [] b m n hs hy
    rw [cmn, f.num_zero]
    cases k with
    | zero => rw [cm0, f.num_mul]; grind
    | succ k =>
      have := ih k
      rw [cmn, f.num_zero, f.num_mul] at this
      rw [cms, f.num_mul]; grind
  | x0 :: x, y, a0 :: a, b, m, n, hx, hy, k => by
    have h0 : x0 * f.num m = f.num a0 := by have := hx 0; rwa [cf_zero, cf_zero] at this
    have hs : ∀ j, cf x j * f.num m = f.num (cf a j) := fun j => by have := hx (j + 1); rwa [cf_succ, cf_succ] at this
    have ih := num_pmul f x y a b m n hs hy
    cases k with
    | zero =>
      have e := hy 0
      rw [cm0, cm0, f.num_mul, f.num_mul, ← h0, ← e]; grind
    | succ k =>
      have e := hy (k + 1)
      have i := ih k
      rw [f.num_mul] at i
      rw [cms, cms, f.num_mul, f.num_add, f.num_mul, ← h0, ← e, ← i]; grind
theorem Fld.Over.mul {f : Fld} {x y : List f.C} {a b : List Int} {m n : Int} (h : f.Over x a m) (k : f.Over y b n) : f.Over (pmul x y) (pmul a b) (m * n) := ⟨h.1.mul k.1, num_pmul f x y a b m n h.2 k.2⟩
end My
namespace My
open PySem PySem.Spec PyProof.Rows L2 DL Lean.Grind
theorem ints_inj : ∀ {l m : List Int}, l.map PyData.int = m.map PyData.int → l = m
  | [], [], _ => rfl
  | [], b :: m, h => by simp at h
  | a :: l, [], h => by simp at h
  | a :: l, b :: m, h => by
    simp only [List.map, List.cons.injEq, PyData.int.injEq] at h
    rw [h.1, ints_inj h.2]
theorem int_get {l : List Int} {i : Nat} {d : D} (h : (l.map PyData.int)[i]? = some d) : d = .int (cf l i) := by
  rw [List.getElem?_map] at h
  unfold cf
  rw [List.getD_eq_getElem?_getD]
  cases e : l[i]? with
  | none => rw [e] at h; cases h
  | some a => rw [e] at h; cases h; rfl
/-- the sizes of what cleared gives -/
def Fld.Bd (M A : Nat) : Fld → List Int → Int → Prop
  | .Q, a, m => m ≤ M ∧ ∀ k, (cf a k).natAbs ≤ A
  | .F n, a, m => m = 1 ∧ ∀ k, 0 ≤ cf a k ∧ cf a k < (n + 2 : Nat)
theorem fl_inj {f f' : Fld} {l : List f.C} {l' : List f'.C} (h : ([f.enc, .tuple (l.map f.el)] : List D) = [f'.enc, .tuple (l'.map f'.el)]) : ∃ e : f = f', e ▸ l = l' := by
  simp only [List.cons.injEq, PyData.tuple.injEq, and_true] at h
  have e := Fld.enc_inj h.1
  subst e
  exact ⟨rfl, Fld.els_inj h.2⟩
theorem cf_map {R S : Type} [CommRing R] [CommRing S] (g : R → S) (h : g 0 = 0) (l : List R) (k : Nat) : cf (l.map g) k = g (cf l k) := by
  unfold cf
  rw [List.getD_eq_getElem?_getD, List.getElem?_map, List.getD_eq_getElem?_getD]
  cases l[k]? with
  | none => exact h.symm
  | some a => rfl
def vF {n : Nat} (x : (Fld.F n).C) : Int := ((x : Fin (n + 2)).val : Nat)
theorem vF_zero {n : Nat} : vF (0 : (Fld.F n).C) = 0 := by
  show (((0 : Fin (n + 2)).val : Nat) : Int) = 0
  simp
theorem vF_bd {n : Nat} (x : (Fld.F n).C) : 0 ≤ vF x ∧ vF x < (n + 2 : Nat) := by
  have := (x : Fin (n + 2)).isLt
  exact ⟨Int.natCast_nonneg _, Int.ofNat_lt.mpr this⟩
def qn (x : Fld.Q.C) : Int := (x : Rat).num
def qd (x : Fld.Q.C) : Nat := (x : Rat).den
theorem el_Q (x : Fld.Q.C) : Fld.Q.el x = .tuple [.int (qn x), .int (qd x : Nat)] := rfl
theorem qd_pos (x : Fld.Q.C) : 0 < qd x := Rat.den_pos x
theorem qd_zero : qd (0 : Fld.Q.C) = 1 := rfl
theorem small_Q {h : Nat} {x : Fld.Q.C} (s : Fld.Q.Small h x) : (qn x).natAbs < 2 ^ h ∧ qd x < 2 ^ h := s
theorem q_eq (x : Fld.Q.C) : x * Fld.Q.num (qd x) = Fld.Q.num (qn x) := rat_den x
def vQ (m : Nat) (x : Fld.Q.C) : Int := qn x * ((m / qd x : Nat) : Int)
theorem vQ_zero (m : Nat) : vQ m (0 : Fld.Q.C) = 0 := by
  show (0 : Int) * _ = 0
  exact Int.zero_mul _
theorem In_den {M A : Nat} {q : Fld.Q.C} (h : Fld.Q.In M A q) : qd q ∣ M := by
  obtain ⟨n, e, hn⟩ := h
  have e1 := rat_mul_eq e
  have c : Int.gcd ((Rat.den q : Nat) : Int) (Rat.num q) = 1 := by
    have := Rat.reduced q
    rw [Int.gcd_comm]
    show Nat.gcd (Rat.num q).natAbs ((Rat.den q : Nat) : Int).natAbs = 1
    simpa using this
  have dv : ((Rat.den q : Nat) : Int) ∣ (M : Int) := dvd_cop c ⟨n, by rw [e1, Int.mul_comm]⟩
  exact Int.natCast_dvd_natCast.mp dv
theorem In_num {M A : Nat} {q : Fld.Q.C} (h : Fld.Q.In M A q) {m : Nat} (hm : qd q ∣ m) (h0 : 0 < m) (hM : m ∣ M) (M0 : 0 < M) : (vQ m q).natAbs ≤ A := by
  obtain ⟨n, e, hn⟩ := h
  have e1 : qn q * (M : Int) = n * (qd q : Nat) := rat_mul_eq e
  obtain ⟨k, rfl⟩ := hm
  obtain ⟨j, rfl⟩ := hM
  have hd := qd_pos q
  unfold vQ
  rw [Nat.mul_div_cancel_left _ hd]
  have e2 : qn q * (k : Int) * (j : Int) = n := by
    have e3 : (qn q * k * j) * ((qd q : Nat) : Int) = n * (qd q : Nat) := by
      rw [← e1]; simp only [Int.natCast_mul]; grind
    exact Int.eq_of_mul_eq_mul_right (by omega) e3
  have j0 : 0 < j := by
    rcases Nat.eq_zero_or_pos j with z | z
    · subst z; simp at M0
    · exact z
  have e4 : (qn q * (k : Int)).natAbs * j = n.natAbs := by rw [← e2, Int.natAbs_mul (qn q * k), Int.natAbs_natCast]
  have : (qn q * (k : Int)).natAbs ≤ n.natAbs := by rw [← e4]; exact Nat.le_mul_of_pos_right _ j0
  omega
theorem over_vQ {q : Fld.Q.C} {m : Nat} (hm : qd q ∣ m) : q * Fld.Q.num m = Fld.Q.num (vQ m q) := by
  obtain ⟨k, rfl⟩ := hm
  have h := q_eq q
  unfold vQ
  rw [Nat.mul_div_cancel_left _ (qd_pos q), Fld.num_mul, ← h, Int.natCast_mul, Fld.num_mul]
  grind
theorem log2_ok {n : Nat} (h : n < 2 ^ 3000) : n.log2 < 13000 := by
  by_cases h0 : n = 0
  · subst h0; decide
  · exact Nat.lt_trans ((Nat.log2_lt h0).mpr h) (by decide)
end My
namespace My
open PySem PySem.Spec PyProof.Rows L2 DL Lean.Grind
def Dom.Sm' (h : Nat) : (d : Dom) → d.C → Prop
  | .Z, _ => True
  | .K f, x => f.Small h x
  | .P f, (p : Pol f.C) => p.l.length ≤ 50000 ∧ ∀ k, f.Small h (cf p.l k)
def Dom.Sm (h : Nat) : (d : Dom) → d.C → Prop
  | .Z, _ => True
  | .K f, x => f.Small h x
  | .P f, (p : Pol f.C) => p.l.length ≤ 50000 ∧ ∀ k, f.Small h (cf p.l k)
def Dom.Mu : (d : Dom) → d.C → d.C → Prop
  | .Z, (n : Int), (m : Int) => n.natAbs < 2 ^ 6000 ∧ m.natAbs < 2 ^ 6000
  | .K f, x, y => f.Small 3000 x ∧ f.Small 3000 y
  | .P f, (p : Pol f.C), (q : Pol f.C) => p.l.length ≤ 50000 ∧ q.l.length ≤ 50000 ∧ ∃ M A N B : Nat, 0 < M ∧ 0 < N ∧ M * N < 2 ^ 3000 ∧ A < 2 ^ 3000 ∧ B < 2 ^ 3000 ∧ (p.l.length + 1) * (A * B) < 2 ^ 3000 ∧ (∀ k, f.In M A (cf p.l k)) ∧ ∀ k, f.In N B (cf q.l k)
theorem mul_mod {m : Nat} (ho : (Fld.F m).Ok) (x y : (Fld.F m).C) : mulOk ((x : Fin (m + 2)).val : Int) ((y : Fin (m + 2)).val : Int) := by
  have a := (show Fin (m + 2) from x).isLt
  have b := (show Fin (m + 2) from y).isLt
  have ho := ho.2
  exact mulOk_of (a := 20) (b := 20) (Nat.lt_of_lt_of_le a (by have : (2 : Nat) ^ 20 = 1048576 := by decide
                                                               omega)) (Nat.lt_of_lt_of_le b (by have : (2 : Nat) ^ 20 = 1048576 := by decide
                                                                                                 omega)) (by decide) (by decide) (by decide)
set_option exponentiation.threshold 20000 in
theorem den_mul_lt {x y : Rat} (hx : Fld.Q.Small 3000 x) (hy : Fld.Q.Small 3000 y) : ((x.den : Int) * (y.den : Int)).natAbs < 2 ^ 8000 := by
  rw [Int.natAbs_mul]
  have h1 : x.den * y.den < 2 ^ 3000 * 2 ^ 3000 := Nat.mul_lt_mul'' hx.2 hy.2
  have h2 : 2 ^ 3000 * 2 ^ 3000 = 2 ^ 6000 := (Nat.pow_add 2 3000 3000).symm
  have h3 : 2 ^ 6000 < 2 ^ 8000 := Nat.pow_lt_pow_right (by decide) (by decide)
  exact Nat.lt_trans (h2 ▸ h1) h3
theorem bd_small {f : Fld} {M A : Nat} {a : List Int} {m : Int} (ho : f.Ok) (h : f.Bd M A a m) (h0 : 0 < m) (hM : M < 2 ^ 3000) (hA : A < 2 ^ 3000) : m.natAbs < 2 ^ 3000 ∧ ∀ k, (cf a k).natAbs < 2 ^ 3000 := by
  cases f with
  | Q =>
    obtain ⟨h1, h2⟩ := h
    exact ⟨Nat.lt_of_le_of_lt (by omega) hM, fun k => Nat.lt_of_le_of_lt (h2 k) hA⟩
  | F n =>
    obtain ⟨rfl, h2⟩ := h
    have ho' : n + 2 ≤ 65536 := Nat.le_trans ho.2 (by decide)
    have : 65536 < 2 ^ 3000 := Nat.lt_of_lt_of_le (show 65536 < 2 ^ 17 by decide) (Nat.pow_le_pow_right (by decide) (by decide))
    refine ⟨Nat.lt_trans (by decide) this, fun k => Nat.lt_trans ?_ this⟩
    have := h2 k
    omega
/-- sizes of products, row by row -/
theorem pmul_bd : ∀ (a b : List Int) (A B : Nat), (∀ k, (cf a k).natAbs ≤ A) → (∀ k, (cf b k).natAbs ≤ B) → ∀ k, (cf (pmul a b) k).natAbs ≤ a.length * (A * B)
  | [], b, A, B, _, _, k => by rw [cmn]; exact Nat.zero_le _
  | a0 :: a, b, A, B, ha, hb, k => by
    have h0 : a0.natAbs ≤ A := by have := ha 0; rwa [cf_zero] at this
    have hs : ∀ j, (cf a j).natAbs ≤ A := fun j => by have := ha (j + 1); rwa [cf_succ] at this
    have ih := pmul_bd a b A B hs hb
    have e1 : (a0 :: a).length * (A * B) = a.length * (A * B) + A * B := by rw [List.length_cons, Nat.add_mul, Nat.one_mul]
    rw [e1]
    cases k with
    | zero =>
      have := abs_mul_le h0 (hb 0)
      rw [cm0]; omega
    | succ k =>
      have h1 := abs_mul_le h0 (hb (k + 1))
      have h2 := ih k
      rw [cms]
      have := Int.natAbs_add_le (a0 * cf b (k + 1)) (cf (pmul a b) k)
      omega
theorem cf_trim_len {R : Type} [CommRing R] [DecidableEq R] (l : List R) : (trim l).length ≤ l.length := by
  induction l with
  | nil => simp [trim]
  | cons a m ih =>
    unfold trim
    split
    · split <;> simp
    · next b c e => rw [e] at ih; simp at ih ⊢; omega
theorem trim_last {R : Type} [CommRing R] [DecidableEq R] (l : List R) (h : trim l = l) (hn : l ≠ []) : cf l (l.length - 1) ≠ 0 := fun z => by
  have hp : 0 < l.length := List.length_pos_iff.mpr hn
  have t := trim_take (l := l) z
  rw [show l.length - 1 + 1 = l.length by omega, List.take_length, h] at t
  have := cf_trim_len (l.take (l.length - 1))
  rw [← t, List.length_take] at this
  omega
theorem frac_el {n m a b : Int} (h : Frac n m a b) (hm : m ≠ 0) : ∃ x : Fld.Q.C, PyData.tuple [.int a, .int b] = Fld.Q.el x ∧ x * Fld.Q.num m = Fld.Q.num n := by
  have e : ((n : Rat) / (m : Rat)) * (m : Rat) = (n : Rat) := Rat.div_mul_cancel (fun z => hm (by exact_mod_cast z))
  refine ⟨((n : Rat) / (m : Rat) : Rat), ?_, e⟩
  obtain ⟨rfl, rfl⟩ := rat_frac h hm e
  rfl
end My
namespace My
open PySem PySem.Spec PyProof.Rows L2 DL Lean.Grind
/-! sizes of products and powers -/
def Dom.Sz (M A L : Nat) : (d : Dom) → d.C → Prop
  | .Z, (n : Int) => n.natAbs ≤ A
  | .K f, x => f.In M A x
  | .P f, (p : Pol f.C) => p.l.length ≤ L ∧ ∀ k, f.In M A (cf p.l k)
theorem pmul_In (f : Fld) : ∀ (a b : List f.C) (M A N B : Nat), (∀ k, f.In M A (cf a k)) → (∀ k, f.In N B (cf b k)) → ∀ k, f.In (M * N) (a.length * (A * B)) (cf (pmul a b) k)
  | [], b, M, A, N, B, _, _, k => by rw [cmn]; exact Fld.In.zero ..
  | a0 :: a, b, M, A, N, B, ha, hb, k => by
    have h0 : f.In M A a0 := by have := ha 0; rwa [cf_zero] at this
    have hs : ∀ j, f.In M A (cf a j) := fun j => by have := ha (j + 1); rwa [cf_succ] at this
    have ih := pmul_In f a b M A N B hs hb
    have e1 : (a0 :: a).length * (A * B) = A * B + a.length * (A * B) := by rw [List.length_cons, Nat.add_mul, Nat.one_mul, Nat.add_comm]
    rw [e1]
    cases k with
    | zero =>
      rw [cm0]
      exact (h0.mul (hb 0)).mono (by omega)
    | succ k =>
      rw [cms]
      exact (h0.mul (hb (k + 1))).add (ih k)
theorem padd_len {R : Type} [CommRing R] : ∀ a b : List R, (padd a b).length = max a.length b.length
  | [], b => by simp [padd]
  | a0 :: a, [] => by simp [padd]
  | a0 :: a, b0 :: b => by simp only [padd, List.length_cons, padd_len a b]; omega
theorem pmul_len {R : Type} [CommRing R] : ∀ a b : List R, (pmul a b).length ≤ a.length + b.length
  | [], b => by simp [pmul]
  | a0 :: a, b => by
    have := pmul_len a b
    simp only [pmul, padd_len, psm, List.length_map, List.length_cons]
    omega
theorem Pol.mul_len {R : Type} [CommRing R] [DecidableEq R] (p q : Pol R) : (p * q).l.length ≤ p.l.length + q.l.length := Nat.le_trans (cf_trim_len _) (pmul_len ..)
theorem Pol.add_len {R : Type} [CommRing R] [DecidableEq R] (p q : Pol R) : (p + q).l.length ≤ max p.l.length q.l.length := by
  have h : (p + q).l.length ≤ (padd p.l q.l).length := cf_trim_len _
  rwa [padd_len] at h
theorem Dom.Sz.mul {d : Dom} {M A L N B K : Nat} {x y : d.C} (h : d.Sz M A L x) (k : d.Sz N B K y) (hL : 1 ≤ L) : d.Sz (M * N) (L * (A * B)) (L + K) (x * y) := by
  have hA : A * B ≤ L * (A * B) := Nat.le_mul_of_pos_left _ hL
  cases d with
  | Z => exact Nat.le_trans (abs_mul_le (x := x) (y := y) h k) hA
  | K f => exact (Fld.In.mul h k).mono hA
  | P f =>
    have hh : ∀ (x y : Pol f.C), x.l.length ≤ L → (∀ j, f.In M A (cf x.l j)) → (∀ j, f.In N B (cf y.l j)) → ∀ j, f.In (M * N) (L * (A * B)) (cf (x * y).l j) := fun x y h1 h2 h3 j => by
      rw [Pol.cmul]
      exact (pmul_In f _ _ _ _ _ _ h2 h3 j).mono (Nat.mul_le_mul_right _ h1)
    exact ⟨Nat.le_trans (Pol.mul_len (x : Pol f.C) y) (Nat.add_le_add h.1 k.1), hh x y h.1 h.2 k.2⟩
theorem Dom.Sz.mono {d : Dom} {M A L B K : Nat} {x : d.C} (h : d.Sz M A L x) (hA : A ≤ B) (hL : L ≤ K) : d.Sz M B K x := by
  cases d with
  | Z => exact Nat.le_trans h hA
  | K f => exact Fld.In.mono h hA
  | P f => exact ⟨Nat.le_trans h.1 hL, fun j => (h.2 j).mono hA⟩
theorem Fld.In.one (f : Fld) : f.In 1 1 1 := by
  cases f with
  | F n => trivial
  | Q => exact ⟨1, by show (1 : Rat) * ((1 : Int) : Rat) = ((1 : Int) : Rat); exact Rat.one_mul _, by decide⟩
theorem Fld.In.zero1 (f : Fld) : f.In 1 1 0 := Fld.In.zero f 1 1
theorem Dom.Sz.one (d : Dom) : d.Sz 1 1 1 (1 : d.C) := by
  cases d with
  | Z => exact Nat.le_refl 1
  | K f => exact Fld.In.one f
  | P f =>
    have e : (1 : Pol f.C).l = [1] := Pol.one_l f
    have hh : (1 : Pol f.C).l.length ≤ 1 ∧ ∀ k, f.In 1 1 (cf (1 : Pol f.C).l k) := by
      rw [e]
      refine ⟨Nat.le_refl 1, fun k => ?_⟩
      cases k with
      | zero => rw [cf_zero]; exact Fld.In.one f
      | succ k => rw [cf_one]; exact Fld.In.zero1 f
    exact hh
def gp {R : Type} [CommRing R] (x : R) : Nat → R
  | 0 => 1
  | n + 1 => x * gp x n
theorem gp_add {R : Type} [CommRing R] (x : R) (a b : Nat) : gp x (a + b) = gp x a * gp x b := by
  induction a with
  | zero => rw [Nat.zero_add, gp]; grind
  | succ a ih => rw [Nat.succ_add, gp, gp, ih]; grind
theorem gp_mul {R : Type} [CommRing R] (x : R) (a b : Nat) : gp (gp x a) b = gp x (a * b) := by
  induction b with
  | zero => rw [Nat.mul_zero, gp, gp]
  | succ b ih => rw [gp, ih, Nat.mul_succ, Nat.add_comm, gp_add]
theorem gp_one {R : Type} [CommRing R] (x : R) : gp x 1 = x := by rw [gp, gp]; grind
theorem Dom.Sz.pow {d : Dom} {M A L : Nat} {x : d.C} (h : d.Sz M A L x) (hL : 1 ≤ L) (e : Nat) : d.Sz (M ^ e) ((L * A) ^ e) (L * e + 1) (gp x e) := by
  induction e with
  | zero => exact Dom.Sz.one d
  | succ e ih =>
    have := h.mul ih hL
    rw [gp, show M ^ (e + 1) = M * M ^ e by rw [Nat.pow_succ, Nat.mul_comm], show (L * A) ^ (e + 1) = L * (A * (L * A) ^ e) by rw [Nat.pow_succ, Nat.mul_comm, Nat.mul_assoc]]
    exact this.mono (Nat.le_refl _) (by rw [Nat.mul_succ]; omega)
def Dom.isP : Dom → Prop
  | .P _ => True
  | _ => False
set_option exponentiation.threshold 20000 in
theorem Dom.Mu.of {d : Dom} {M A L N B K : Nat} {x y : d.C} (h : d.Sz M A L x) (k : d.Sz N B K y) (M0 : 0 < M) (N0 : 0 < N) (hMN : M * N < 2 ^ 3000) (hA : A < 2 ^ 3000) (hB : B < 2 ^ 3000) (hAB : (L + 1) * (A * B) < 2 ^ 3000) (hL : d.isP → L ≤ 50000) (hK : d.isP → K ≤ 50000) : d.Mu x y := by
  have m3 : M < 2 ^ 3000 := Nat.lt_of_le_of_lt (Nat.le_mul_of_pos_right M N0) hMN
  have n3 : N < 2 ^ 3000 := Nat.lt_of_le_of_lt (Nat.le_mul_of_pos_left N M0) hMN
  cases d with
  | Z =>
    have up : (2 : Nat) ^ 3000 ≤ 2 ^ 6000 := Nat.pow_le_pow_right (by decide) (by decide)
    exact ⟨Nat.lt_of_lt_of_le (Nat.lt_of_le_of_lt h hA) up, Nat.lt_of_lt_of_le (Nat.lt_of_le_of_lt k hB) up⟩
  | K f => exact ⟨Fld.In.small h M0 m3 hA, Fld.In.small k N0 n3 hB⟩
  | P f => exact ⟨Nat.le_trans h.1 (hL trivial), Nat.le_trans k.1 (hK trivial), M, A, N, B, M0, N0, hMN, hA, hB, Nat.lt_of_le_of_lt (Nat.mul_le_mul_right _ (Nat.add_le_add_right h.1 1)) hAB, h.2, k.2⟩
/-- all powers of x to the k-th are small enough to be multiplied -/
def Dom.Pw (d : Dom) (k : Nat) (x : d.C) : Prop := ∃ M A L : Nat, 0 < M ∧ 1 ≤ A ∧ 1 ≤ L ∧ d.Sz M A L x ∧ M ^ k < 2 ^ 3000 ∧ (L * k + 2) * (L * A) ^ k < 2 ^ 3000 ∧ (d.isP → L * k + 1 ≤ 50000)
theorem Dom.Pw.mu {d : Dom} {k : Nat} {x : d.C} (h : d.Pw k x) {a b : Nat} (hab : a + b ≤ k) : d.Mu (gp x a) (gp x b) := by
  obtain ⟨M, A, L, M0, A1, L1, hS, hM, hA, hP⟩ := h
  have la : 0 < L * A := Nat.mul_pos L1 A1
  have p1 : (L * A) ^ a * (L * A) ^ b ≤ (L * A) ^ k := by rw [← Nat.pow_add]; exact Nat.pow_le_pow_right la hab
  have pa : (L * A) ^ a ≤ (L * A) ^ k := Nat.pow_le_pow_right la (by omega)
  have pb : (L * A) ^ b ≤ (L * A) ^ k := Nat.pow_le_pow_right la (by omega)
  have one : (L * A) ^ k ≤ (L * k + 2) * (L * A) ^ k := Nat.le_mul_of_pos_left _ (by omega)
  have l1 : L * a ≤ L * k := Nat.mul_le_mul_left _ (by omega)
  have l2 : L * b ≤ L * k := Nat.mul_le_mul_left _ (by omega)
  refine Dom.Mu.of (hS.pow L1 a) (hS.pow L1 b) (Nat.pow_pos M0) (Nat.pow_pos M0) ?_ (by omega) (by omega) ?_ (fun h => by have := hP h; omega) (fun h => by have := hP h; omega)
  · rw [← Nat.pow_add]
    exact Nat.lt_of_le_of_lt (Nat.pow_le_pow_right M0 hab) hM
  · exact Nat.lt_of_le_of_lt (Nat.le_trans (Nat.mul_le_mul_left _ p1) (Nat.mul_le_mul_right _ (by omega))) hA
end My
namespace My
open PySem PySem.Spec PyProof.Rows L2 DL Lean.Grind
theorem Dom.num_one (d : Dom) : d.num 1 = 1 := by
  cases d with
  | Z => rfl
  | K f => exact Fld.num_one f
  | P f =>
    refine Pol.ext' (p := Pol.of [f.num 1]) (q := 1) fun k => ?_
    rw [Fld.num_one, Pol.one_l, pe_of]
theorem Pol.neg1 (f : Fld) : Pol.of [f.num (-1)] = (-1 : Pol f.C) := Pol.ext' fun k => by
  rw [Fld.num_neg, Fld.num_one, Pol.cneg, Pol.one_l, pe_of]
  cases k with
  | zero => rw [cf_zero, cf_zero]
  | succ k => rw [cf_one, cf_one]; grind
theorem Dom.num_neg1 (d : Dom) (y : d.C) : d.num (-1) * y = -y := by
  have h : d.num (-1) = -1 := by
    cases d with
    | Z => rfl
    | K f =>
      show f.num (-1) = -1
      rw [Fld.num_neg, Fld.num_one]
    | P f => exact Pol.neg1 f
  rw [h]; grind
end My
namespace My
open PySem PySem.Spec PyProof.Rows L2 DL Lean.Grind
theorem dxk_inj {d d' : Dom} {x : d.C} {x' : d'.C} {k k' : Int} (h : ([d.enc, d.el x, .int k] : List D) = [d'.enc, d'.el x', .int k']) : ∃ e : d = d', e ▸ x = x' ∧ k = k' := by
  simp only [List.cons.injEq, PyData.int.injEq, and_true] at h
  have e := Dom.enc_inj h.1
  subst e
  exact ⟨rfl, Dom.el_inj h.2.1, h.2.2⟩
end My
namespace My
open PySem PySem.Spec PyProof.Rows L2 DL Lean.Grind
theorem els_of (f : Fld) (Pp : f.C → Prop) : ∀ ys : List D, (∀ (j : Nat) (y : D), ys[j]? = some y → ∃ x : f.C, y = f.el x ∧ Pp x) → ∃ l : List f.C, ys = l.map f.el ∧ l.length = ys.length ∧ ∀ x ∈ l, Pp x
  | [], _ => ⟨[], rfl, rfl, fun x h => nomatch h⟩
  | y :: ys, h => by
    obtain ⟨x, rfl, hx⟩ := h 0 y rfl
    obtain ⟨l, rfl, hl, hp⟩ := els_of f Pp ys fun j y hy => h (j + 1) y hy
    refine ⟨x :: l, rfl, by simp, fun z hz => ?_⟩
    rcases List.mem_cons.mp hz with e | e
    · rw [e]; exact hx
    · exact hp z e
theorem cf_all {R : Type} [CommRing R] {l : List R} {Pp : R → Prop} (h0 : Pp 0) (h : ∀ x ∈ l, Pp x) (k : Nat) : Pp (cf l k) := by
  unfold cf
  rw [List.getD_eq_getElem?_getD]
  cases e : l[k]? with
  | none => exact h0
  | some a => exact h a (List.mem_of_getElem? e)
/-- the modulus is a prime that the program takes -/
def Fld.Pm : Fld → Prop
  | .Q => True
  | .F n => Prime ((n + 2 : Nat) : Int) ∧ n + 2 ≤ 65521
def Dom.Pm : Dom → Prop
  | .Z => True
  | .K f => f.Pm
  | .P f => f.Pm
theorem Fld.Pm.ok {f : Fld} (h : f.Pm) : f.Ok := by
  cases f with
  | Q => trivial
  | F n => exact h
theorem Dom.Pm.ok {d : Dom} (h : d.Pm) : d.Ok := by
  cases d with
  | Z => trivial
  | K f => exact Fld.Pm.ok h
  | P f => exact Fld.Pm.ok h
theorem prime_chk {n l : Nat} (h : chk n l 2 = true) (h2 : 2 ≤ n) (hn : n < (2 + 2 ^ l) * (2 + 2 ^ l)) : Prime (n : Int) := by
  refine ⟨by omega, fun d d2 dd dv => ?_⟩
  obtain ⟨k, rfl⟩ := Int.eq_ofNat_of_zero_le (show 0 ≤ d by omega)
  have dd' : k * k ≤ n := by exact_mod_cast dd
  have k2 : k < 2 + 2 ^ l := by
    apply Nat.lt_of_not_le
    intro z
    have := Nat.mul_le_mul z z
    omega
  exact chk_spec n l 2 h k (by omega) k2 (Nat.mod_eq_zero_of_dvd (Int.natCast_dvd_natCast.mp dv))
theorem prime_65521 : Prime ((65521 : Nat) : Int) := prime_chk (l := 8) (by decide +kernel) (by decide) (by decide)
theorem prime_101 : Prime ((101 : Nat) : Int) := prime_chk (l := 4) (by decide +kernel) (by decide) (by decide)
/-- what the laws draw as elements -/
def Dom.Elt (d : Dom) (x : d.C) : Prop := ∃ M A : Nat, 0 < M ∧ M ≤ 50 ∧ 1 ≤ A ∧ A ≤ 10 ^ 12 ∧ d.Sz M A 4 x
end My
namespace My
open PySem PySem.Spec PyProof.Rows L2 DL Lean.Grind
end My
namespace My
open PySem PySem.Spec PyProof.Rows L2 DL Lean.Grind
theorem In_of {x : Fld.Q.C} {n m : Int} {M A : Nat} (h : x * Fld.Q.num m = Fld.Q.num n) {k : Int} (hM : m * k = M) (hA : (n * k).natAbs ≤ A) : Fld.Q.In M A x := by
  refine ⟨n * k, ?_, hA⟩
  have e : x * Fld.Q.num (M : Int) = Fld.Q.num (n * k) := by
    rw [← hM, Fld.num_mul, Fld.num_mul, ← h]; grind
  exact e
end My
namespace My
open PySem PySem.Spec PyProof.Rows L2 DL Lean.Grind
theorem Fld.In.neg {f : Fld} {M A : Nat} {v : f.C} (i : f.In M A v) : f.In M A (-v) := by
  cases f with
  | F n => trivial
  | Q =>
    obtain ⟨n, e, hn⟩ := i
    refine ⟨-n, ?_, by omega⟩
    have h : (-v) * Fld.Q.num M = Fld.Q.num (-n) := by
      have e' : v * Fld.Q.num M = Fld.Q.num n := e
      rw [Fld.num_neg, ← e']; grind
    exact h
theorem Fld.In.scale {f : Fld} {M A : Nat} {v : f.C} (i : f.In M A v) (N : Nat) : f.In (M * N) (A * N) v := by
  cases f with
  | F n => trivial
  | Q =>
    obtain ⟨n, e, hn⟩ := i
    have e' : v * Fld.Q.num M = Fld.Q.num n := e
    exact In_of (m := M) (n := n) e' (k := N) (by simp) (by rw [Int.natAbs_mul, Int.natAbs_natCast]; exact Nat.mul_le_mul_right _ hn)
theorem Dom.Sz.neg {d : Dom} {M A L : Nat} {x : d.C} (h : d.Sz M A L x) : d.Sz M A L (-x) := by
  cases d with
  | Z =>
    have : ∀ n : Int, n.natAbs ≤ A → (-n).natAbs ≤ A := fun n h => by omega
    exact this x h
  | K f => exact Fld.In.neg h
  | P f =>
    have : ∀ p : Pol f.C, p.l.length ≤ L → (∀ k, f.In M A (cf p.l k)) → (-p).l.length ≤ L ∧ ∀ k, f.In M A (cf (-p).l k) := fun p h1 h2 => ⟨by rw [Pol.neg_len]; exact h1, fun k => by rw [Pol.cneg]; exact (h2 k).neg⟩
    exact this x h.1 h.2
theorem Dom.Sz.scale {d : Dom} {M A L : Nat} {x : d.C} (h : d.Sz M A L x) {N : Nat} (hN : 0 < N) : d.Sz (M * N) (A * N) L x := by
  cases d with
  | Z => exact Nat.le_trans h (Nat.le_mul_of_pos_right _ hN)
  | K f => exact Fld.In.scale h N
  | P f => exact ⟨h.1, fun k => (h.2 k).scale N⟩
theorem Dom.Sz.add {d : Dom} {M A B L K : Nat} {x y : d.C} (h : d.Sz M A L x) (k : d.Sz M B K y) : d.Sz M (A + B) (max L K) (x + y) := by
  cases d with
  | Z =>
    have : ∀ n m : Int, n.natAbs ≤ A → m.natAbs ≤ B → (n + m).natAbs ≤ A + B := fun n m h k => by omega
    exact this x y h k
  | K f => exact Fld.In.add h k
  | P f =>
    have : ∀ p q : Pol f.C, p.l.length ≤ L → (∀ k, f.In M A (cf p.l k)) → q.l.length ≤ K → (∀ k, f.In M B (cf q.l k)) → (p + q).l.length ≤ max L K ∧ ∀ k, f.In M (A + B) (cf (p + q).l k) := fun p q h1 h2 h3 h4 =>
      ⟨by have := Pol.add_len p q; omega, fun k => by rw [Pol.cadd]; exact (h2 k).add (h4 k)⟩
    exact this x y h.1 h.2 k.1 k.2
theorem Dom.Sz.sm {d : Dom} {M A L : Nat} {x : d.C} (h : d.Sz M A L x) (M0 : 0 < M) (hM : M < 2 ^ 3000) (hA : A < 2 ^ 3000) (hL : d.isP → L ≤ 50000) : d.Sm' 3000 x ∧ d.Sm 3000 x := by
  cases d with
  | Z => exact ⟨trivial, trivial⟩
  | K f => exact ⟨Fld.In.small h M0 hM hA, Fld.In.small h M0 hM hA⟩
  | P f => exact ⟨⟨Nat.le_trans h.1 (hL trivial), fun k => (h.2 k).small M0 hM hA⟩, Nat.le_trans h.1 (hL trivial), fun k => (h.2 k).small M0 hM hA⟩
theorem Dom.Sz.minus1 (d : Dom) : d.Sz 1 1 1 (d.num (-1)) := by
  have h := (Dom.Sz.one d).neg
  have e : d.num (-1) = -1 := by
    have := d.num_neg1 1
    have e1 : d.num (-1) * 1 = d.num (-1) := by grind
    rw [e1] at this; exact this
  rw [e]; exact h
theorem big_of {n : Nat} (h : n < 2 ^ 1100) : n < 2 ^ 3000 := Nat.lt_of_lt_of_le h (Nat.pow_le_pow_right (by decide) (by decide))
end My
namespace My
open PySem PySem.Spec PyProof.Rows L2 DL Lean.Grind
theorem Dom.Sz.zero (d : Dom) (M A L : Nat) : d.Sz M A L 0 := by
  cases d with
  | Z => exact Nat.zero_le A
  | K f => exact Fld.In.zero f M A
  | P f =>
    have : (0 : Pol f.C).l.length ≤ L ∧ ∀ k, f.In M A (cf (0 : Pol f.C).l k) := by
      rw [Pol.zero_l]
      exact ⟨Nat.zero_le _, fun k => by rw [cf_nil]; exact Fld.In.zero f M A⟩
    exact this
end My

namespace My
open PySem PySem.Spec PyProof.Rows L2 DL Lean.Grind
/-! primes, inverses -/
theorem prime_cop {p a : Int} (hp : Prime p) (h : ¬ p ∣ a) : Int.gcd a p = 1 := by
  have h1 : ((Int.gcd a p : Nat) : Int) ∣ a := Int.gcd_dvd_left ..
  have h2 : ((Int.gcd a p : Nat) : Int) ∣ p := Int.gcd_dvd_right ..
  have p2 := hp.1
  have g0 : Int.gcd a p ≠ 0 := fun z => by
    rw [z] at h2
    have := Int.zero_dvd.mp h2
    omega
  apply Classical.byContradiction
  intro g1
  have le := Int.le_of_dvd (by omega) h2
  by_cases e : ((Int.gcd a p : Nat) : Int) = p
  · rw [e] at h1; exact h h1
  · exact notPrime (d := ((Int.gcd a p : Nat) : Int)) (by omega) h2 (by omega) hp
theorem prime_mul {p a b : Int} (hp : Prime p) (h : p ∣ a * b) : p ∣ a ∨ p ∣ b := by
  by_cases c : p ∣ a
  · exact .inl c
  · exact .inr (dvd_cop (by rw [Int.gcd_comm]; exact prime_cop hp c) h)
theorem bez (a b : Nat) : ∃ s t : Int, s * a + t * b = (Nat.gcd a b : Nat) := by
  induction a, b using Nat.gcd.induction with
  | H0 b => exact ⟨0, 1, by simp⟩
  | H1 a b h ih =>
    obtain ⟨s, t, e⟩ := ih
    refine ⟨t - s * ((b / a : Nat) : Int), s, ?_⟩
    rw [Nat.gcd_rec, ← e]
    have : (b : Int) = ((b % a : Nat) : Int) + (a : Int) * ((b / a : Nat) : Int) := by
      have := Nat.mod_add_div b a
      exact_mod_cast this.symm
    generalize ((b % a : Nat) : Int) = r at *
    generalize ((b / a : Nat) : Int) = q at *
    rw [this]
    grind
theorem ibez (a b : Int) : ∃ s t : Int, s * a + t * b = (Int.gcd a b : Nat) := by
  obtain ⟨s, t, e⟩ := bez a.natAbs b.natAbs
  have : ∀ x : Int, ∃ u : Int, ((x.natAbs : Nat) : Int) = u * x := fun x => by
    rcases Int.natAbs_eq x with h | h
    · exact ⟨1, by omega⟩
    · exact ⟨-1, by omega⟩
  obtain ⟨u, hu⟩ := this a
  obtain ⟨v, hv⟩ := this b
  refine ⟨s * u, t * v, ?_⟩
  rw [hu, hv] at e
  have e' : s * (u * a) + t * (v * b) = (Int.gcd a b : Nat) := e
  rw [← e']
  grind
theorem Fld.val_dvd {n : Nat} {x : (Fld.F n).C} (h : ((n + 2 : Nat) : Int) ∣ vF x) : x = 0 := by
  rw [← Fld.num_val x]
  exact Fld.num_eq0.mpr h
theorem Fld.nzd {f : Fld} (ho : f.Ok) {x y : f.C} (h : x * y = 0) : x = 0 ∨ y = 0 := by
  cases f with
  | Q => exact Rat.mul_eq_zero.mp h
  | F n =>
    have h1 : (Fld.F n).num (vF x * vF y) = 0 := by
      rw [Fld.num_mul]
      have ex : (Fld.F n).num (vF x) = x := Fld.num_val x
      have ey : (Fld.F n).num (vF y) = y := Fld.num_val y
      rw [ex, ey]; exact h
    rcases prime_mul ho.1 (Fld.num_eq0.mp h1) with z | z
    · exact .inl (Fld.val_dvd z)
    · exact .inr (Fld.val_dvd z)
theorem Fld.inv_ex {f : Fld} (ho : f.Ok) {x : f.C} (h : x ≠ 0) : ∃ y : f.C, y * x = 1 := by
  cases f with
  | Q =>
    have : ∀ q : Rat, q ≠ 0 → ∃ y : Rat, y * q = 1 := fun q hq => ⟨1 / q, Rat.div_mul_cancel hq⟩
    exact this x h
  | F n =>
    obtain ⟨s, t, e⟩ := ibez (vF x) ((n + 2 : Nat) : Int)
    rw [prime_cop ho.1 (fun z => h (Fld.val_dvd z))] at e
    have := Fld.inv_F (n := n) (m := vF x) (s := s) (t := t) e
    have ex : (Fld.F n).num (vF x) = x := Fld.num_val x
    rw [ex] at this
    exact ⟨_, this⟩
/-- one of the factors is short -/
def Dom.Sh : (d : Dom) → d.C → d.C → Prop
  | .P f, (p : Pol f.C), (q : Pol f.C) => p.l.length ≤ 40 ∨ q.l.length ≤ 40
  | _, _, _ => True
/-- a constant that is not zero times a polynomial -/
theorem Pol.smul_l {f : Fld} (ho : f.Ok) (p q : Pol f.C) (a : f.C) (e : p.l = [a]) : (p * q).l = q.l.map (a * ·) := by
  have ha : a ≠ 0 := by
    have := trim_last p.l p.ok (by rw [e]; simp)
    rw [e] at this
    simpa [cf] using this
  have h1 : PE (p * q).l (q.l.map (a * ·)) := fun k => by
    rw [Pol.cmul, e, cf_map (a * ·) (by grind)]
    cases k with
    | zero => rw [cm0]
    | succ k => rw [cms, cmn]; grind
  have h2 : trim (q.l.map (a * ·)) = q.l.map (a * ·) := by
    refine trim_full _ fun hn => ?_
    have hl : q.l ≠ [] := by intro z; rw [z] at hn; exact hn rfl
    rw [List.length_map, cf_map (a * ·) (by grind)]
    intro z
    rcases Fld.nzd ho z with z | z
    · exact ha z
    · exact trim_last q.l q.ok hl z
  rw [← h2, ← (p * q).ok]
  exact trim_ext _ _ h1
def Fld.Rs : Fld → Int → Prop
  | .Q, m => m ≠ 0
  | .F n, m => Int.gcd m ((n + 2 : Nat) : Int) = 1
end My

namespace My
open PySem PySem.Spec PyProof.Rows L2 DL Lean.Grind
abbrev LE : DEnds := { nx := fun _ => False, rt := fun d => d = .bool true }
theorem Dom.Elt.sz {d : Dom} {x : d.C} (h : d.Elt x) : ∃ M A : Nat, 0 < M ∧ M ≤ 50 ∧ 1 ≤ A ∧ A ≤ 1000000000000 ∧ d.Sz M A 4 x := by
  obtain ⟨M, A, h1, h2, h3, h4, h5⟩ := h
  exact ⟨M, A, h1, h2, h3, by rw [show 10 ^ 12 = 1000000000000 by decide] at h4; exact h4, h5⟩
theorem Dom.Elt.neg {d : Dom} {x : d.C} (h : d.Elt x) : d.Elt (-x) := by
  obtain ⟨M, A, h1, h2, h3, h4, h5⟩ := h
  exact ⟨M, A, h1, h2, h3, h4, h5.neg⟩
theorem lt_big {n : Nat} (h : n < 1000000000000000000000000000000000000000000000000) : n < 2 ^ 3000 := by
  have e : (2 : Nat) ^ 160 = 1461501637330902918203684832716283019655932542976 := by decide
  have h1 : n < 2 ^ 160 := by omega
  exact Nat.lt_of_lt_of_le h1 (Nat.pow_le_pow_right (by decide) (by decide))
theorem Dom.Elt.sm {d : Dom} {x : d.C} (h : d.Elt x) : d.Sm' 3000 x ∧ d.Sm 3000 x := by
  obtain ⟨M, A, M0, M1, A0, A1, hS⟩ := h.sz
  exact hS.sm M0 (lt_big (by omega)) (lt_big (by omega)) (fun _ => by decide)
theorem Dom.Elt.mu {d : Dom} {x y : d.C} (h : d.Elt x) (k : d.Elt y) : d.Mu x y ∧ d.Sm' 3000 (x * y) := by
  obtain ⟨M, A, M0, M1, A0, A1, hS⟩ := h.sz
  obtain ⟨N, B, N0, N1, B0, B1, kS⟩ := k.sz
  have h1 := Nat.mul_le_mul M1 N1
  have h2 := Nat.mul_le_mul A1 B1
  exact ⟨Dom.Mu.of hS kS M0 N0 (lt_big (by omega)) (lt_big (by omega)) (lt_big (by omega)) (lt_big (by omega)) (fun _ => by decide) (fun _ => by decide), ((hS.mul kS (by decide)).sm (Nat.mul_pos M0 N0) (lt_big (by omega)) (lt_big (by omega)) (fun _ => by decide)).1⟩
theorem Dom.Elt.add {d : Dom} {x y z : d.C} (h : d.Elt x) (k : d.Elt y) (l : d.Elt z) : d.Mu (x + y) z ∧ d.Sm' 3000 (x + y) := by
  obtain ⟨M, A, M0, M1, A0, A1, hS⟩ := h.sz
  obtain ⟨N, B, N0, N1, B0, B1, kS⟩ := k.sz
  obtain ⟨O, C, O0, O1, C0, C1, lS⟩ := l.sz
  have h1 := Nat.mul_le_mul M1 N1
  have h2 := Nat.mul_le_mul A1 N1
  have h3 := Nat.mul_le_mul B1 M1
  have h4 := Nat.mul_le_mul h1 O1
  have kS' := kS.scale M0
  rw [Nat.mul_comm N M] at kS'
  have s := (hS.scale N0).add kS'
  have hAB : A * N + B * M ≤ 100000000000000 := by omega
  have h5 := Nat.mul_le_mul hAB C1
  exact ⟨Dom.Mu.of s lS (Nat.mul_pos M0 N0) O0 (lt_big (by omega)) (lt_big (by omega)) (lt_big (by omega)) (lt_big (by rw [Nat.max_self]; omega)) (fun _ => by decide) (fun _ => by decide), (s.sm (Nat.mul_pos M0 N0) (lt_big (by omega)) (lt_big (by omega)) (fun _ => by decide)).1⟩
set_option exponentiation.threshold 4000 in
theorem Dom.Elt.pw {d : Dom} {x : d.C} (h : d.Elt x) {k : Nat} (hk : k ≤ 24) : d.Pw k x := by
  obtain ⟨M, A, M0, M1, A0, A1, hS⟩ := h.sz
  refine ⟨M, A, 4, M0, A0, by decide, hS, ?_, ?_, fun _ => by omega⟩
  · have h1 : M ^ k ≤ 50 ^ 24 := Nat.le_trans (Nat.pow_le_pow_left M1 k) (Nat.pow_le_pow_right (by decide) hk)
    exact Nat.lt_of_le_of_lt h1 (big_of (Nat.lt_of_lt_of_le (show 50 ^ 24 < 2 ^ 150 by decide) (Nat.pow_le_pow_right (by decide) (by decide))))
  · have e42 : (2 : Nat) ^ 42 = 4398046511104 := by decide
    have e7 : (2 : Nat) ^ 7 = 128 := by decide
    have h0 : 4 * A ≤ 2 ^ 42 := by omega
    have h1 : (4 * A) ^ k ≤ (2 ^ 42) ^ 24 := Nat.le_trans (Nat.pow_le_pow_left h0 k) (Nat.pow_le_pow_right (by decide) hk)
    have h2 : 4 * k + 2 ≤ 2 ^ 7 := by omega
    have h3 := Nat.mul_le_mul h2 h1
    rw [← Nat.pow_mul, ← Nat.pow_add] at h3
    exact Nat.lt_of_le_of_lt h3 (big_of (Nat.pow_lt_pow_right (by decide) (by decide)))
theorem Dom.Elt.shl {d : Dom} {x y : d.C} (h : d.Elt x) : d.Sh x y := by
  obtain ⟨M, A, M0, M1, A0, A1, hS⟩ := h.sz
  cases d with
  | Z => trivial
  | K f => trivial
  | P f => exact .inl (Nat.le_trans hS.1 (by decide))
theorem Dom.Elt.shr {d : Dom} {x y : d.C} (h : d.Elt y) : d.Sh x y := by
  obtain ⟨M, A, M0, M1, A0, A1, hS⟩ := h.sz
  cases d with
  | Z => trivial
  | K f => trivial
  | P f => exact .inr (Nat.le_trans hS.1 (by decide))
theorem Dom.Elt.shp {d : Dom} {x : d.C} (h : d.Elt x) {k : Nat} (hk : k ≤ 12) : ∀ a b, a + b ≤ k → d.Sh (gp x a) (gp x b) := fun a b hab => by
  obtain ⟨M, A, M0, M1, A0, A1, hS⟩ := h.sz
  cases d with
  | Z => trivial
  | K f => trivial
  | P f =>
    have h1 := (hS.pow (by decide) a).1
    have h2 := (hS.pow (by decide) b).1
    by_cases c : a ≤ b
    · exact .inl (Nat.le_trans h1 (by omega))
    · exact .inr (Nat.le_trans h2 (by omega))
end My

namespace My
open PySem PySem.Spec PyProof.Rows L2 DL Lean.Grind
/-! values of any kind: what is a field, a domain, an element -/
def isW : D → Bool
  | .int _ => true
  | _ => false
theorem eqv_str {x : D} {s : Str} : PyData.eqv x (.str s) = true ↔ x = .str s := by
  cases x <;> simp [PyData.eqv]
theorem eqv_strT {x : D} {s : Str} : PyData.eqv x (.tuple [.str s]) = true ↔ x = .tuple [.str s] := by
  cases x with
  | tuple l =>
    rcases l with _ | ⟨a, _ | ⟨b, l⟩⟩
    · simp [PyData.eqv, PyData.eqvAll]
    · simp [PyData.eqv, PyData.eqvAll, eqv_str]
    · simp [PyData.eqv, PyData.eqvAll]
  | _ => simp [PyData.eqv]
theorem dEq_any {x y : D} {P : D → Prop} (hx : x.plain = true) (hy : y.plain = true) (hd : y.depth ≤ 64) (h : ∀ b : Bool, b = PyData.eqv x y → P (.bool b)) : dEq x y P := ⟨⟨hx, hy, .inr hd⟩, h _ rfl⟩
theorem dNe_any {x y : D} {P : D → Prop} (hx : x.plain = true) (hy : y.plain = true) (hd : y.depth ≤ 64) (h : ∀ b : Bool, b = PyData.eqv x y → P (.bool (!b))) : dNe x y P := ⟨⟨hx, hy, .inr hd⟩, h _ rfl⟩
theorem dEq_str {x : D} {s : Str} {P : D → Prop} (hx : x.plain = true) (h : ∀ b : Bool, (b = true ↔ x = .str s) → P (.bool b)) : dEq x (.str s) P := dEq_any hx rfl (by simp [PyData.depth]) fun b hb => h b (by rw [hb, eqv_str])
theorem dEq_strT {x : D} {s : Str} {P : D → Prop} (hx : x.plain = true) (h : ∀ b : Bool, (b = true ↔ x = .tuple [.str s]) → P (.bool b)) : dEq x (.tuple [.str s]) P := dEq_any hx rfl (by simp [PyData.depth, PyData.depthAll]) fun b hb => h b (by rw [hb, eqv_strT])
def IsFld (d : D) : Prop := ∃ f : Fld, f.Ok ∧ d = f.enc
def IsEuc (d : D) : Prop := d = Dom.Z.enc ∨ ∃ f : Fld, f.Ok ∧ d = (Dom.P f).enc
def IsDom (d : D) : Prop := ∃ e : Dom, e.Ok ∧ d = e.enc
theorem isDom_iff {d : D} : IsDom d ↔ IsEuc d ∨ IsFld d := by
  constructor
  · rintro ⟨e, ho, rfl⟩
    cases e with
    | Z => exact .inl (.inl rfl)
    | K f => exact .inr ⟨f, ho, rfl⟩
    | P f => exact .inl (.inr ⟨f, ho, rfl⟩)
  · rintro ((rfl | ⟨f, ho, rfl⟩) | ⟨f, ho, rfl⟩)
    · exact ⟨.Z, trivial, rfl⟩
    · exact ⟨.P f, ho, rfl⟩
    · exact ⟨.K f, ho, rfl⟩
theorem IsFld.tup {d : D} (h : IsFld d) : ∃ l, d = .tuple l := by
  obtain ⟨f, _, rfl⟩ := h
  exact f.enc_len
theorem IsEuc.tup {d : D} (h : IsEuc d) : ∃ l, d = .tuple l := by
  rcases h with rfl | ⟨f, _, rfl⟩
  · exact ⟨_, rfl⟩
  · exact ⟨_, rfl⟩
/-- a field of the form ('F', b) -/
theorem isFld_F {b : D} : IsFld (.tuple [.str tF, b]) ↔ ∃ n : Int, b = .int n ∧ n ≤ 65521 ∧ Prime n := by
  constructor
  · rintro ⟨f, ho, e⟩
    cases f with
    | Q => simp [Fld.enc] at e
    | F n =>
      simp only [Fld.enc, PyData.tuple.injEq, List.cons.injEq, and_true, true_and] at e
      have ho2 := ho.2
      exact ⟨_, e, by omega, ho.1⟩
  · rintro ⟨n, rfl, hn, hp⟩
    have := hp.1
    refine ⟨.F (n - 2).toNat, ⟨?_, by omega⟩, ?_⟩
    · rw [show (((n - 2).toNat + 2 : Nat) : Int) = n by omega]; exact hp
    · simp only [Fld.enc, PyData.tuple.injEq, List.cons.injEq, PyData.int.injEq, and_true, true_and]
      omega
theorem isFld_Q {d : D} (h : ∀ b, d ≠ .tuple [.str tF, b]) : IsFld d ↔ d = .tuple [.str tQ] := by
  constructor
  · rintro ⟨f, ho, rfl⟩
    cases f with
    | Q => rfl
    | F n => exact absurd rfl (h _)
  · rintro rfl
    exact ⟨.Q, trivial, rfl⟩
theorem isEuc_P {b : D} : IsEuc (.tuple [.str tP, b]) ↔ IsFld b := by
  constructor
  · rintro (e | ⟨f, ho, e⟩)
    · simp [Dom.enc] at e
    · simp only [Dom.enc, PyData.tuple.injEq, List.cons.injEq, and_true, true_and] at e
      exact ⟨f, ho, e⟩
  · rintro ⟨f, ho, rfl⟩
    exact .inr ⟨f, ho, rfl⟩
theorem isEuc_Z {d : D} (h : ∀ b, d ≠ .tuple [.str tP, b]) : IsEuc d ↔ d = .tuple [.str tZ] := by
  constructor
  · rintro (rfl | ⟨f, ho, rfl⟩)
    · rfl
    · exact absurd rfl (h _)
  · rintro rfl
    exact .inl rfl
/-- an element -/
def Dom.Has (d : Dom) (x : D) : Prop := ∃ e : d.C, x = d.el e
theorem bool_ext {a b : Bool} {P : Prop} (h : a = true ↔ P) (k : b = true ↔ P) : a = b := by
  cases a <;> cases b <;> simp_all
theorem Fld.enc_plain (f : Fld) : f.enc.plain = true ∧ f.enc.depth ≤ 2 := by cases f <;> simp [Fld.enc, PyData.plain, PyData.plainAll, PyData.depth, PyData.depthAll]
theorem Dom.enc_plain (d : Dom) : d.enc.plain = true ∧ d.enc.depth ≤ 3 := by
  cases d with
  | Z => simp [Dom.enc, PyData.plain, PyData.plainAll, PyData.depth, PyData.depthAll]
  | K f => exact ⟨f.enc_plain.1, by have := f.enc_plain.2; simp only [Dom.enc]; omega⟩
  | P f =>
    have h := f.enc_plain
    simp only [Dom.enc, PyData.plain, PyData.plainAll, PyData.depth, PyData.depthAll, h.1, Bool.and_true, Bool.true_and]
    refine ⟨trivial, ?_⟩
    omega
theorem plain_mem : ∀ {l : List D} {x : D}, PyData.plainAll l = true → x ∈ l → x.plain = true
  | a :: l, x, h, hx => by
    simp only [PyData.plainAll, Bool.and_eq_true] at h
    rcases List.mem_cons.mp hx with rfl | hx
    · exact h.1
    · exact plain_mem h.2 hx
theorem plain_tup {l : List D} {x : D} (h : (PyData.tuple l).plain = true) (hx : x ∈ l) : x.plain = true := plain_mem (by simpa [PyData.plain] using h) hx
theorem tyD_plain {x : D} (h : x.plain = true) : tyD x ≠ none := by cases x <;> simp_all [tyD, PyData.plain]
theorem rat_of {n d : Int} (hd : 1 ≤ d) (h : Int.gcd n d = 1) : ∃ q : Fld.Q.C, PyData.tuple [.int n, .int d] = Fld.Q.el q := by
  refine ⟨(⟨n, d.toNat, by omega, ?_⟩ : Rat), ?_⟩
  · show Nat.gcd n.natAbs d.toNat = 1
    rw [show d.toNat = d.natAbs by omega]; exact h
  · show _ = PyData.tuple [.int n, .int ((d.toNat : Nat) : Int)]
    rw [Int.toNat_of_nonneg (by omega)]
theorem Q_has {x : D} : (Dom.K .Q).Has x ↔ ∃ n d : Int, x = .tuple [.int n, .int d] ∧ 1 ≤ d ∧ Int.gcd n d = 1 := by
  constructor
  · rintro ⟨q, rfl⟩
    have h1 := qd_pos q
    refine ⟨qn q, qd q, rfl, by omega, ?_⟩
    show Nat.gcd (Rat.num q).natAbs (Rat.den q) = 1
    exact Rat.reduced q
  · rintro ⟨n, d, rfl, hd, hg⟩
    obtain ⟨q, e⟩ := rat_of hd hg
    exact ⟨q, e⟩
theorem F_has {m : Nat} {x : D} : (Dom.K (.F m)).Has x ↔ ∃ n : Int, x = .int n ∧ 0 ≤ n ∧ n < ((m + 2 : Nat) : Int) := by
  constructor
  · rintro ⟨q, rfl⟩
    have := vF_bd q
    exact ⟨vF q, rfl, this.1, this.2⟩
  · rintro ⟨n, rfl, h0, h1⟩
    refine ⟨(⟨n.toNat, by omega⟩ : Fin (m + 2)), ?_⟩
    show PyData.int n = .int ((n.toNat : Nat) : Int)
    rw [Int.toNat_of_nonneg h0]
theorem Z_has {x : D} : Dom.Z.Has x ↔ ∃ n : Int, x = .int n := ⟨fun ⟨n, h⟩ => ⟨n, h⟩, fun ⟨n, h⟩ => ⟨n, h⟩⟩
/-- a polynomial's parts -/
theorem has_list {f : Fld} : ∀ {l : List D}, (∀ x ∈ l, (Dom.K f).Has x) → ∃ cs : List f.C, l = cs.map f.el
  | [], _ => ⟨[], rfl⟩
  | x :: l, h => by
    obtain ⟨c, hc⟩ := h x (List.mem_cons_self ..)
    obtain ⟨cs, hs⟩ := has_list (l := l) fun y hy => h y (List.mem_cons_of_mem _ hy)
    exact ⟨c :: cs, by rw [hc, hs]; rfl⟩
theorem P_has {f : Fld} {l : List D} : (Dom.P f).Has (.tuple l) ↔ ∃ cs : List f.C, l = cs.map f.el ∧ (cs ≠ [] → cf cs (cs.length - 1) ≠ 0) := by
  constructor
  · rintro ⟨p, e⟩
    have e' : l = (Pol.l p).map f.el := by
      have : PyData.tuple l = .tuple ((Pol.l p).map f.el) := e
      simpa using this
    exact ⟨Pol.l p, e', trim_last (Pol.l p) (Pol.ok p)⟩
  · rintro ⟨cs, rfl, h⟩
    exact ⟨(⟨cs, trim_full cs h⟩ : Pol f.C), rfl⟩
theorem P_tup {f : Fld} {x : D} (h : (Dom.P f).Has x) : ∃ l, x = .tuple l := by
  obtain ⟨p, rfl⟩ := h
  exact ⟨_, rfl⟩
theorem getlast_split {α : Type} (l : List α) (h : l ≠ []) : ∃ a i, l = i ++ [a] := ⟨l.getLast h, l.dropLast, (List.dropLast_concat_getLast h).symm⟩
/-- xs[-1] -/
theorem dIx_lastT {f : Fld} {cs : List f.C} {P : D → Prop} (h : cs ≠ []) (hp : P (f.el (cf cs (cs.length - 1)))) : dIx (.tuple (cs.map f.el)) (.int (-1)) P := by
  obtain ⟨a, i, e⟩ := getlast_split cs h
  subst e
  refine ⟨f.el a, ?_, ?_⟩
  · rw [List.map_append]; exact atI_last _ _
  · have : cf (i ++ [a]) ((i ++ [a]).length - 1) = a := by
      rw [List.length_append, List.length_singleton, Nat.add_sub_cancel]
      unfold cf
      simp [List.getD_eq_getElem?_getD]
    rwa [this] at hp
/-- plain, and a tuple of not too many parts -/
def shortB : D → Bool
  | .tuple l => decide (l.length ≤ 1000)
  | _ => true
theorem shortB_t (l : List D) : shortB (.tuple l) = decide (l.length ≤ 1000) := rfl
theorem shortB_n : shortB .none = true := rfl
theorem shortB_b (b : Bool) : shortB (.bool b) = true := rfl
theorem shortB_i (b : Int) : shortB (.int b) = true := rfl
theorem shortB_s (b : Str) : shortB (.str b) = true := rfl
def plainS (x : D) : Bool := x.plain && shortB x
theorem plainS_p {x : D} (h : plainS x = true) : x.plain = true := by
  unfold plainS at h
  rw [Bool.and_eq_true] at h
  exact h.1
theorem plainS_l {l : List D} (h : plainS (.tuple l) = true) : l.length ≤ 1000 := by
  unfold plainS at h
  rw [Bool.and_eq_true] at h
  simpa [shortB] using h.2
/-- what may be a domain, by its looks -/
def fldB : D → Bool
  | .tuple [.str s] => s == tQ
  | .tuple [.str s, .int n] => s == tF && decide (2 ≤ n) && decide (n ≤ 65521) && (decide (n ≤ 3) || (n % 2 != 0 && n % 3 != 0))
  | _ => false
def domB : D → Bool
  | .tuple [.str s] => s == tZ || s == tQ
  | .tuple [.str s, b] => (s == tP && fldB b) || fldB (.tuple [.str s, b])
  | _ => false
theorem fldB_of {d : D} (h : IsFld d) : fldB d = true := by
  obtain ⟨f, ho, rfl⟩ := h
  cases f with
  | Q => simp [Fld.enc, fldB]
  | F n =>
    have hp := ho.1
    have h2 := ho.2
    simp only [Fld.enc, fldB, beq_self_eq_true, Bool.true_and, Bool.and_eq_true, Bool.or_eq_true, decide_eq_true_eq, bne_iff_ne]
    refine ⟨⟨by omega, by omega⟩, ?_⟩
    by_cases c : ((n + 2 : Nat) : Int) ≤ 3
    · exact .inl c
    · refine .inr ⟨fun z => ?_, fun z => ?_⟩
      · exact notPrime (d := 2) (by decide) (Int.dvd_of_emod_eq_zero z) (by omega) hp
      · exact notPrime (d := 3) (by decide) (Int.dvd_of_emod_eq_zero z) (by omega) hp
theorem domB_of {d : D} (h : IsDom d) : domB d = true := by
  obtain ⟨e, ho, rfl⟩ := h
  cases e with
  | Z => simp [Dom.enc, domB]
  | K f =>
    have k := fldB_of ⟨f, ho, rfl⟩
    cases f with
    | Q => simp [Dom.enc, Fld.enc, domB]
    | F n =>
      simp only [Dom.enc, Fld.enc, domB] at k ⊢
      rw [k, Bool.or_true]
  | P f =>
    have k := fldB_of ⟨f, ho, rfl⟩
    simp [Dom.enc, domB, k]
/-- surely no domain, and plain -/
def badB (d : D) : Bool := d.plain && !domB d
theorem badB_of {d : D} (h : badB d = true) : d.plain = true ∧ ¬ IsDom d := by
  unfold badB at h
  rw [Bool.and_eq_true] at h
  refine ⟨h.1, fun z => ?_⟩
  rw [domB_of z] at h
  simp at h
theorem notPrime_mul {p q : Int} (hp : 2 ≤ p) (hq : 2 ≤ q) : ¬ Prime (p * q) := by
  have h := Int.mul_le_mul (Int.le_refl p) hq (by omega) (by omega)
  exact notPrime hp ⟨q, rfl⟩ (by omega)
theorem bad_F {n : Int} (h : ¬ Prime n) : ¬ IsDom (.tuple [.str tF, .int n]) ∧ ¬ IsDom (.tuple [.str tP, .tuple [.str tF, .int n]]) := by
  have hf : ¬ IsFld (.tuple [.str tF, .int n]) := fun z => by
    obtain ⟨m, e, _, hm⟩ := isFld_F.mp z
    cases e
    exact h hm
  refine ⟨fun z => ?_, fun z => ?_⟩
  · rcases isDom_iff.mp z with z | z
    · rcases z with e | ⟨f, _, e⟩
      · simp [Dom.enc] at e
      · simp only [Dom.enc, PyData.tuple.injEq, List.cons.injEq, PyData.str.injEq] at e
        exact s_ne s_FP e.1
    · exact hf z
  · rcases isDom_iff.mp z with z | z
    · exact hf (isEuc_P.mp z)
    · obtain ⟨f, _, e⟩ := z
      cases f with
      | Q => simp [Fld.enc] at e
      | F n => simp [Fld.enc] at e
/-! ## one divided by x -/
theorem In_small_inv {x q : Fld.Q.C} (hx : x ≠ 0) (h : q * Fld.Q.num (qn x) = Fld.Q.num (qd x)) : q * x = 1 ∧ ∀ k, Fld.Q.Small k x → Fld.Q.Small k q := by
  have hn : qn x ≠ 0 := fun z => hx (by
    have e := q_eq x
    rw [z, Fld.num_zero] at e
    rcases Fld.nzd (f := .Q) trivial e with e | e
    · exact e
    · have : ((qd x : Nat) : Rat) = 0 := e
      have := Rat.natCast_eq_zero_iff.mp this
      have := qd_pos x
      omega)
  refine ⟨?_, fun k s => ?_⟩
  · have e := q_eq x
    have i : Fld.Q.Inv ((qd x : Nat) : Int) := Fld.inv_Q (by have := qd_pos x; omega)
    refine i.cancel ?_
    have e2 : q * x * Fld.Q.num ((qd x : Nat) : Int) = q * (x * Fld.Q.num ((qd x : Nat) : Int)) := by grind
    rw [e2, e, h]
    grind
  · have hs := small_Q s
    rcases Int.lt_or_gt_of_ne hn with c | c
    · have I := In_of (x := q) (n := qd x) (m := qn x) h (k := -1) (M := (qn x).natAbs) (A := qd x) (by omega) (by omega)
      exact I.small (by omega) hs.1 hs.2
    · have I := In_of (x := q) (n := qd x) (m := qn x) h (k := 1) (M := (qn x).natAbs) (A := qd x) (by omega) (by omega)
      exact I.small (by omega) hs.1 hs.2
theorem Dom.Elt.zero (d : Dom) : d.Elt 0 := ⟨1, 1, by decide, by decide, by decide, by decide, Dom.Sz.zero d 1 1 4⟩
theorem Dom.num_one' (d : Dom) : d.num 1 = 1 := by
  cases d with
  | Z => rfl
  | K f => exact f.num_one
  | P f =>
    show Pol.of [f.num 1] = 1
    rw [f.num_one]
    refine Pol.ext' fun k => ?_
    rw [pe_of, Pol.one_l]
theorem Dom.Elt.one (d : Dom) : d.Elt 1 := ⟨1, 1, by decide, by decide, by decide, by decide, (Dom.Sz.one d).mono (by decide) (by decide)⟩
/-- the field of a domain, where it is one -/
def Dom.isK : Dom → Prop
  | .K _ => True
  | _ => False
theorem isFld_enc {d : Dom} (ho : d.Ok) : IsFld d.enc ↔ d.isK := by
  cases d with
  | K f => exact ⟨fun _ => trivial, fun _ => ⟨f, ho, rfl⟩⟩
  | Z =>
    refine ⟨fun ⟨f, _, e⟩ => ?_, fun h => h.elim⟩
    cases Dom.enc_inj (d := .Z) (e := .K f) e
  | P g =>
    refine ⟨fun ⟨f, _, e⟩ => ?_, fun h => h.elim⟩
    cases Dom.enc_inj (d := .P g) (e := .K f) e
theorem Fld.Small.mul {f : Fld} {a b : Nat} {x y : f.C} (h : f.Small a x) (k : f.Small b y) : f.Small (a + b) (x * y) := by
  cases f with
  | F n => trivial
  | Q =>
    have hx := small_Q h
    have hy := small_Q k
    have px := qd_pos x
    have py := qd_pos y
    have e : x * y * Fld.Q.num ((qd x : Int) * qd y) = Fld.Q.num (qn x * qn y) := by
      rw [Fld.num_mul, Fld.num_mul, ← q_eq x, ← q_eq y]; grind
    have I := In_of (x := x * y) e (k := 1) (M := qd x * qd y) (A := (qn x).natAbs * (qn y).natAbs) (by simp) (by rw [Int.mul_one, Int.natAbs_mul]; exact Nat.le_refl _)
    refine I.small (Nat.mul_pos px py) ?_ ?_
    · rw [Nat.pow_add]; exact Nat.mul_lt_mul'' hx.2 hy.2
    · rw [Nat.pow_add]; exact Nat.mul_lt_mul'' hx.1 hy.1
theorem Fld.Small.up {f : Fld} {a b : Nat} {x : f.C} (h : f.Small a x) (k : a ≤ b) : f.Small b x := by
  cases f with
  | F n => trivial
  | Q =>
    have := Nat.pow_le_pow_right (n := 2) (by decide) k
    exact ⟨Nat.lt_of_lt_of_le h.1 this, Nat.lt_of_lt_of_le h.2 this⟩
theorem Dom.Elt.small {f : Fld} {x : f.C} (h : (Dom.K f).Elt x) : f.Small 100 x := by
  obtain ⟨M, A, M0, M1, A0, A1, hS⟩ := h.sz
  have e : (2 : Nat) ^ 100 = 1267650600228229401496703205376 := by decide
  exact Fld.In.small hS M0 (by omega) (by omega)
end My

namespace My
open PySem PySem.Spec PyProof.Rows L2 DL Lean.Grind
/-! ## what a def that wants a field raises: 1 (DomainError) if d is none, else 2 (ShapeError) -/
def KX (d : D) (c : Nat) : Prop := (c = 1 ∧ ¬ IsFld d) ∨ (c = 2 ∧ IsFld d)
theorem KX.no {d : D} (h : ¬ IsFld d) {c : Nat} (k : KX d c) : c = 1 := by
  rcases k with ⟨e, _⟩ | ⟨_, f⟩
  · exact e
  · exact absurd f h
theorem KX.yes {d : D} (h : IsFld d) {c : Nat} (k : KX d c) : c = 2 := by
  rcases k with ⟨_, f⟩ | ⟨e, _⟩
  · exact absurd h f
  · exact e
theorem not_fld {d : D} (h : ¬ IsDom d) : ¬ IsFld d := fun z => h (isDom_iff.mpr (.inr z))
theorem dom_not_fld {d : Dom} (hk : ¬ d.isK) : ¬ IsFld d.enc := fun ⟨f, _, e⟩ => by
  have := Dom.enc_inj (d := d) (e := .K f) e
  subst this
  exact hk trivial
def NPr (d : D) : Prop := ¬ IsFld d ∨ d = Fld.Q.enc
end My

namespace My
open PySem PySem.Spec PyProof.Rows L2 DL Lean.Grind
/-! ## matrices as data -/
def Mt (m n : Nat) (R : List (List D)) : D := .tuple [.int m, .int n, .tuple (R.map .tuple)]
structure Shp (m n : Nat) (R : List (List D)) : Prop where
  rows : R.length = m
  cols : ∀ r ∈ R, r.length = n
def ent (R : List (List D)) (i j : Nat) : D := (R.getD i []).getD j .none
theorem tups_inj : ∀ {R S : List (List D)}, R.map PyData.tuple = S.map PyData.tuple → R = S
  | [], [], _ => rfl
  | [], _ :: _, h => by simp at h
  | _ :: _, [], h => by simp at h
  | r :: R, s :: S, h => by
    simp only [List.map_cons, List.cons.injEq, PyData.tuple.injEq] at h
    rw [h.1, tups_inj h.2]
theorem Mt_inj {m n m' n' : Nat} {R S : List (List D)} (h : Mt m n R = Mt m' n' S) : m = m' ∧ n = n' ∧ R = S := by
  unfold Mt at h
  simp only [PyData.tuple.injEq, List.cons.injEq, PyData.int.injEq, and_true] at h
  exact ⟨by omega, by omega, tups_inj h.2.2⟩
theorem tup_get {R : List (List D)} {i : Nat} {x : D} (h : (R.map PyData.tuple)[i]? = some x) : ∃ r, R[i]? = some r ∧ x = .tuple r := by
  rw [List.getElem?_map] at h
  cases e : R[i]? with
  | none => rw [e] at h; cases h
  | some r => rw [e] at h; cases h; exact ⟨r, rfl, rfl⟩
theorem ent_get {R : List (List D)} {i j : Nat} {r : List D} {x : D} (h : R[i]? = some r) (k : r[j]? = some x) : ent R i j = x := by
  unfold ent
  rw [List.getD_eq_getElem?_getD, List.getD_eq_getElem?_getD, h]
  show (r[j]?).getD _ = _
  rw [k]; rfl
theorem Shp.row {m n : Nat} {R : List (List D)} (h : Shp m n R) {i : Nat} (hi : i < m) : ∃ r, R[i]? = some r ∧ r.length = n := by
  have hl : i < R.length := by rw [h.rows]; exact hi
  exact ⟨R[i], List.getElem?_eq_getElem hl, h.cols _ (List.getElem_mem hl)⟩
/-! ### plain and flat -/
def Pl (R : List (List D)) : Prop := ∀ r ∈ R, ∀ x ∈ r, x.plain = true ∧ x.depth ≤ 10
theorem plainAll_of : ∀ {l : List D}, (∀ x ∈ l, x.plain = true) → PyData.plainAll l = true
  | [], _ => rfl
  | x :: l, h => by
    simp only [PyData.plainAll, Bool.and_eq_true]
    exact ⟨h x (List.mem_cons_self ..), plainAll_of fun y hy => h y (List.mem_cons_of_mem _ hy)⟩
theorem depthAll_of {k : Nat} : ∀ {l : List D}, (∀ x ∈ l, x.depth ≤ k) → PyData.depthAll l ≤ k
  | [], _ => by simp [PyData.depthAll]
  | x :: l, h => by
    have h1 := h x (List.mem_cons_self ..)
    have h2 := depthAll_of (k := k) fun y hy => h y (List.mem_cons_of_mem _ hy)
    simp only [PyData.depthAll]
    omega
theorem tup_plain {l : List D} (h : ∀ x ∈ l, x.plain = true) : (PyData.tuple l).plain = true := by
  simp only [PyData.plain]; exact plainAll_of h
theorem tup_depth {l : List D} {k : Nat} (h : ∀ x ∈ l, x.depth ≤ k) : (PyData.tuple l).depth ≤ k + 1 := by
  have := depthAll_of h
  simp only [PyData.depth]; omega
theorem list_plain {l : List D} (h : ∀ x ∈ l, x.plain = true) : (PyData.list l).plain = true := by
  simp only [PyData.plain]; exact plainAll_of h
theorem list_depth {l : List D} {k : Nat} (h : ∀ x ∈ l, x.depth ≤ k) : (PyData.list l).depth ≤ k + 1 := by
  have := depthAll_of h
  simp only [PyData.depth]; omega
theorem Pl.mt {m n : Nat} {R : List (List D)} (h : Pl R) : (Mt m n R).plain = true ∧ (Mt m n R).depth ≤ 13 := by
  have h1 : ∀ y ∈ R.map PyData.tuple, y.plain = true ∧ y.depth ≤ 11 := fun y hy => by
    obtain ⟨r, hr, rfl⟩ := List.mem_map.mp hy
    exact ⟨tup_plain fun x hx => (h r hr x hx).1, tup_depth fun x hx => (h r hr x hx).2⟩
  have h2 := tup_plain (l := R.map PyData.tuple) fun y hy => (h1 y hy).1
  have h3 := tup_depth (l := R.map PyData.tuple) (k := 11) fun y hy => (h1 y hy).2
  refine ⟨tup_plain fun x hx => ?_, tup_depth fun x hx => ?_⟩
  · simp only [List.mem_cons, List.not_mem_nil, or_false] at hx
    rcases hx with rfl | rfl | rfl
    · rfl
    · rfl
    · exact h2
  · simp only [List.mem_cons, List.not_mem_nil, or_false] at hx
    rcases hx with rfl | rfl | rfl
    · simp [PyData.depth]
    · simp [PyData.depth]
    · exact h3
theorem dNe_refl' {x : D} {P : D → Prop} (hp : x.plain = true) (hd : x.depth ≤ 64) (h : P (.bool false)) : dNe x x P := (dNe_of ⟨hp, hp, .inl hd⟩ (SeqAt.eqv_refl_plain _ hp)).symm ▸ h
theorem dEq_refl' {x : D} {P : D → Prop} (hp : x.plain = true) (hd : x.depth ≤ 64) (h : P (.bool true)) : dEq x x P := (dEq_of ⟨hp, hp, .inl hd⟩ (SeqAt.eqv_refl_plain _ hp)).symm ▸ h
/-- the item of a tuple at a place -/
theorem dIx_tup {l : List D} {i : Int} {P : D → Prop} {x : D} (h0 : 0 ≤ i) (h : l[i.toNat]? = some x) (p : P x) : dIx (.tuple l) (.int i) P := by
  have hi := (List.getElem?_eq_some_iff.mp h).1
  refine ⟨x, ?_, p⟩
  unfold atI
  rw [ixN_nat h0 hi]
  exact h
theorem dIx_lst {l : List D} {i : Int} {P : D → Prop} {x : D} (h0 : 0 ≤ i) (h : l[i.toNat]? = some x) (p : P x) : dIx (.list l) (.int i) P := by
  have hi := (List.getElem?_eq_some_iff.mp h).1
  refine ⟨x, ?_, p⟩
  unfold atI
  rw [ixN_nat h0 hi]
  exact h
/-! ### blocks on a diagonal -/
structure Blk where
  m : Nat
  n : Nat
  R : List (List D)
def Blk.d (b : Blk) : D := Mt b.m b.n b.R
def Blk.Ok (b : Blk) : Prop := Shp b.m b.n b.R ∧ b.m ≤ 1000 ∧ b.n ≤ 1000 ∧ Pl b.R
def wsum (L : List Blk) : Nat := (L.map (·.n)).sum
def brow (z : D) (N bf : Nat) (b : Blk) (r : List D) : List D := List.replicate bf z ++ r ++ List.replicate (N - bf - b.n) z
def diagR (z : D) (N : Nat) : Nat → List Blk → List (List D)
  | _, [] => []
  | bf, b :: L => b.R.map (brow z N bf b) ++ diagR z N (bf + b.n) L
theorem wsum_cons (b : Blk) (L : List Blk) : wsum (b :: L) = b.n + wsum L := by simp [wsum]
theorem wsum_app (L K : List Blk) : wsum (L ++ K) = wsum L + wsum K := by simp [wsum]
theorem diagR_app (z : D) (N : Nat) : ∀ (L : List Blk) (bf : Nat) (b : Blk), diagR z N bf (L ++ [b]) = diagR z N bf L ++ b.R.map (brow z N (bf + wsum L) b)
  | [], bf, b => by simp [diagR, wsum]
  | a :: L, bf, b => by
    rw [List.cons_append, diagR, diagR, diagR_app z N L (bf + a.n) b, wsum_cons, List.append_assoc, Nat.add_assoc]
theorem isum_cast : ∀ L : List Blk, (L.map fun b => ((b.n : Nat) : Int)).sum = ((wsum L : Nat) : Int)
  | [] => rfl
  | b :: L => by
    rw [List.map_cons, List.sum_cons, isum_cast L, wsum_cons]; omega
theorem diagR_len (z : D) (N : Nat) : ∀ (L : List Blk) (bf : Nat), (diagR z N bf L).length = (L.map fun b => b.R.length).sum
  | [], _ => rfl
  | b :: L, bf => by
    rw [diagR, List.length_append, List.length_map, diagR_len z N L, List.map_cons, List.sum_cons]
theorem diagR_pl {z : D} (hz : z.plain = true ∧ z.depth ≤ 10) {N : Nat} : ∀ (L : List Blk) (bf : Nat), (∀ b ∈ L, Pl b.R) → Pl (diagR z N bf L)
  | [], _, _ => fun r hr => by cases hr
  | b :: L, bf, h => fun r hr x hx => by
    rcases List.mem_append.mp hr with hr | hr
    · obtain ⟨s, hs, rfl⟩ := List.mem_map.mp hr
      rcases List.mem_append.mp hx with hx | hx
      · rcases List.mem_append.mp hx with hx | hx
        · rw [(List.mem_replicate.mp hx).2]; exact hz
        · exact h b (List.mem_cons_self ..) s hs x hx
      · rw [(List.mem_replicate.mp hx).2]; exact hz
    · exact diagR_pl hz L (bf + b.n) (fun c hc => h c (List.mem_cons_of_mem _ hc)) r hr x hx
end My

namespace My
open PySem PySem.Spec PyProof.Rows L2 DL Lean.Grind

def topS (i : Nat) : Stmt := PySem.Challenge.pw_echelon_k67_refused_operators.main.body.getD i (.Pass ⟨0, 0, 0, 0⟩)
abbrev s1 : Stmt := topS 3
theorem sc1 : FnScope ["n", "k"] ["n"] (defScope s1) := ⟨rfl, rfl, rfl, by decide +kernel, rfl, by decide +kernel, by decide +kernel⟩
abbrev s4 : Stmt := topS 6
theorem sc4 : FnScope ["n"] ["n"] (defScope s4) := ⟨rfl, rfl, rfl, by decide +kernel, rfl, by decide +kernel, by decide +kernel⟩
abbrev s19 : Stmt := topS 30
theorem sc19 : FnScope ["x"] ["x"] (defScope s19) := ⟨rfl, rfl, rfl, by decide +kernel, rfl, by decide +kernel, by decide +kernel⟩
abbrev s20 : Stmt := topS 31
theorem sc20 : FnScope ["d"] ["d"] (defScope s20) := ⟨rfl, rfl, rfl, by decide +kernel, rfl, by decide +kernel, by decide +kernel⟩
abbrev s24 : Stmt := topS 35
theorem sc24 : FnScope ["f"] ["f"] (defScope s24) := ⟨rfl, rfl, rfl, by decide +kernel, rfl, by decide +kernel, by decide +kernel⟩
abbrev s60 : Stmt := topS 76
theorem sc60 : FnScope ["a"] ["a"] (defScope s60) := ⟨rfl, rfl, rfl, by decide +kernel, rfl, by decide +kernel, by decide +kernel⟩
abbrev s61 : Stmt := topS 77
theorem sc61 : FnScope ["v", "n"] ["v", "n"] (defScope s61) := ⟨rfl, rfl, rfl, by decide +kernel, rfl, by decide +kernel, by decide +kernel⟩
abbrev s68 : Stmt := topS 86
theorem sc68 : FnScope ["f", "a", "rows", "scales", "values", "x", "shifted", "k", "m", "row", "c"] ["f", "a"] (defScope s68) := ⟨rfl, rfl, rfl, by decide +kernel, rfl, by decide +kernel, by decide +kernel⟩
abbrev s71 : Stmt := topS 89
theorem sc71 : FnScope ["f", "a", "v", "vectors", "m", "columns", "rows", "_", "pivots", "factor", "many", "out", "scale", "k", "row"] ["f", "a", "v"] (defScope s71) := ⟨rfl, rfl, rfl, by decide +kernel, rfl, by decide +kernel, by decide +kernel⟩
abbrev s73 : Stmt := topS 91
theorem sc73 : FnScope ["f", "a", "v", "columns", "moved", "_"] ["f", "a", "v"] (defScope s73) := ⟨rfl, rfl, rfl, by decide +kernel, rfl, by decide +kernel, by decide +kernel⟩
abbrev s74 : Stmt := topS 92
theorem sc74 : FnScope ["f", "a"] ["f", "a"] (defScope s74) := ⟨rfl, rfl, rfl, by decide +kernel, rfl, by decide +kernel, by decide +kernel⟩
abbrev s75 : Stmt := topS 93
theorem sc75 : FnScope ["f", "a"] ["f", "a"] (defScope s75) := ⟨rfl, rfl, rfl, by decide +kernel, rfl, by decide +kernel, by decide +kernel⟩
abbrev s76 : Stmt := topS 94
theorem sc76 : FnScope ["f", "a", "v", "g", "w", "h"] ["f", "a"] (defScope s76) := ⟨rfl, rfl, rfl, by decide +kernel, rfl, by decide +kernel, by decide +kernel⟩
abbrev s79 : Stmt := topS 97
theorem sc79 : FnScope ["f", "g", "n", "rows", "k", "row"] ["f", "g"] (defScope s79) := ⟨rfl, rfl, rfl, by decide +kernel, rfl, by decide +kernel, by decide +kernel⟩
abbrev s88 : Stmt := topS 108
theorem sc88 : FnScope ["f", "a", "g", "_"] ["f", "a"] (defScope s88) := ⟨rfl, rfl, rfl, by decide +kernel, rfl, by decide +kernel, by decide +kernel⟩
abbrev s89 : Stmt := topS 109
theorem sc89 : FnScope ["f", "a", "polynomials", "t", "s", "g"] ["f", "a"] (defScope s89) := ⟨rfl, rfl, rfl, by decide +kernel, rfl, by decide +kernel, by decide +kernel⟩
abbrev s90 : Stmt := topS 110
theorem sc90 : FnScope ["f", "a", "parts", "t", "_", "k", "s", "g"] ["f", "a"] (defScope s90) := ⟨rfl, rfl, rfl, by decide +kernel, rfl, by decide +kernel, by decide +kernel⟩
abbrev s91 : Stmt := topS 111
theorem sc91 : FnScope ["f", "a", "b"] ["f", "a", "b"] (defScope s91) := ⟨rfl, rfl, rfl, by decide +kernel, rfl, by decide +kernel, by decide +kernel⟩
abbrev s92 : Stmt := topS 112
theorem sc92 : FnScope ["f", "a", "b"] ["f", "a", "b"] (defScope s92) := ⟨rfl, rfl, rfl, by decide +kernel, rfl, by decide +kernel, by decide +kernel⟩
abbrev s94 : Stmt := topS 114
theorem sc94 : FnScope ["f", "a", "b", "first", "second", "g", "h"] ["f", "a", "b"] (defScope s94) := ⟨rfl, rfl, rfl, by decide +kernel, rfl, by decide +kernel, by decide +kernel⟩
abbrev s112 : Stmt := topS 136
theorem sc112 : FnScope ["f", "a", "out", "part", "k", "x"] ["f", "a"] (defScope s112) := ⟨rfl, rfl, rfl, by decide +kernel, rfl, by decide +kernel, by decide +kernel⟩
abbrev s116 : Stmt := topS 141
theorem sc116 : FnScope ["f", "a"] ["f", "a"] (defScope s116) := ⟨rfl, rfl, rfl, by decide +kernel, rfl, by decide +kernel, by decide +kernel⟩
abbrev s117 : Stmt := topS 142
theorem sc117 : FnScope ["f", "x", "k", "rows", "i", "row"] ["f", "x", "k"] (defScope s117) := ⟨rfl, rfl, rfl, by decide +kernel, rfl, by decide +kernel, by decide +kernel⟩
abbrev s120 : Stmt := topS 145
theorem sc120 : FnScope ["f", "a", "g", "pairs", "parts", "blocks", "columns", "x", "_", "factor", "k", "rest", "many", "v", "j", "turned", "row"] ["f", "a"] (defScope s120) := ⟨rfl, rfl, rfl, by decide +kernel, rfl, by decide +kernel, by decide +kernel⟩
abbrev s122 : Stmt := topS 147
theorem sc122 : FnScope ["f", "a", "g", "x", "_"] ["f", "a"] (defScope s122) := ⟨rfl, rfl, rfl, by decide +kernel, rfl, by decide +kernel, by decide +kernel⟩
abbrev s123 : Stmt := topS 148
theorem sc123 : FnScope ["f", "a", "g"] ["f", "a"] (defScope s123) := ⟨rfl, rfl, rfl, by decide +kernel, rfl, by decide +kernel, by decide +kernel⟩
abbrev s124 : Stmt := topS 150
theorem sc124 : FnScope ["script", "cell"] ["script"] (defScope s124) := ⟨rfl, rfl, rfl, by decide +kernel, rfl, by decide +kernel, by decide +kernel⟩
abbrev s125 : Stmt := topS 151
theorem sc125 : FnScope ["c", "number"] ["c"] (defScope s125) := ⟨rfl, rfl, rfl, by decide +kernel, rfl, by decide +kernel, by decide +kernel⟩
abbrev s126 : Stmt := topS 152
theorem sc126 : FnScope ["c", "many", "digit"] ["c", "many"] (defScope s126) := ⟨rfl, rfl, rfl, by decide +kernel, rfl, by decide +kernel, by decide +kernel⟩
abbrev s128 : Stmt := topS 154
theorem sc128 : FnScope ["a", "b", "rest"] ["a", "b"] (defScope s128) := ⟨rfl, rfl, rfl, by decide +kernel, rfl, by decide +kernel, by decide +kernel⟩
abbrev s129 : Stmt := topS 155
theorem sc129 : FnScope ["n", "m", "g"] ["n", "m"] (defScope s129) := ⟨rfl, rfl, rfl, by decide +kernel, rfl, by decide +kernel, by decide +kernel⟩
abbrev s130 : Stmt := topS 156
theorem sc130 : FnScope ["d"] ["d"] (defScope s130) := ⟨rfl, rfl, rfl, by decide +kernel, rfl, by decide +kernel, by decide +kernel⟩
abbrev s131 : Stmt := topS 157
theorem sc131 : FnScope ["f", "parts", "many"] ["f", "parts"] (defScope s131) := ⟨rfl, rfl, rfl, by decide +kernel, rfl, by decide +kernel, by decide +kernel⟩
abbrev s132 : Stmt := topS 158
theorem sc132 : FnScope ["d", "n"] ["d", "n"] (defScope s132) := ⟨rfl, rfl, rfl, by decide +kernel, rfl, by decide +kernel, by decide +kernel⟩
abbrev s139 : Stmt := topS 165
theorem sc139 : FnScope ["c", "p", "k"] ["c"] (defScope s139) := ⟨rfl, rfl, rfl, by decide +kernel, rfl, by decide +kernel, by decide +kernel⟩
abbrev s140 : Stmt := topS 166
theorem sc140 : FnScope ["c", "primes", "k"] ["c"] (defScope s140) := ⟨rfl, rfl, rfl, by decide +kernel, rfl, by decide +kernel, by decide +kernel⟩
abbrev s144 : Stmt := topS 170
theorem sc144 : FnScope ["c", "d", "k"] ["c", "d"] (defScope s144) := ⟨rfl, rfl, rfl, by decide +kernel, rfl, by decide +kernel, by decide +kernel⟩
abbrev s145 : Stmt := topS 171
theorem sc145 : FnScope ["c", "d", "m", "n", "i", "j"] ["c", "d", "m", "n"] (defScope s145) := ⟨rfl, rfl, rfl, by decide +kernel, rfl, by decide +kernel, by decide +kernel⟩
abbrev s152 : Stmt := topS 178
theorem sc152 : FnScope ["f", "args"] ["f", "args"] (defScope s152) := ⟨rfl, rfl, rfl, by decide +kernel, rfl, by decide +kernel, by decide +kernel⟩
abbrev s153 : Stmt := topS 179
theorem sc153 : FnScope ["f", "args", "e", "good"] ["f", "args"] (defScope s153) := ⟨rfl, rfl, rfl, by decide +kernel, rfl, by decide +kernel, by decide +kernel⟩
abbrev s154 : Stmt := topS 180
theorem sc154 : FnScope ["rows", "due", "row"] ["rows", "due"] (defScope s154) := ⟨rfl, rfl, rfl, by decide +kernel, rfl, by decide +kernel, by decide +kernel⟩
abbrev s155 : Stmt := topS 181
theorem sc155 : FnScope ["c", "rows"] ["c"] (defScope s155) := ⟨rfl, rfl, rfl, by decide +kernel, rfl, by decide +kernel, by decide +kernel⟩
abbrev s156 : Stmt := topS 182
theorem sc156 : FnScope ["d", "a", "found", "f"] ["d", "a"] (defScope s156) := ⟨rfl, rfl, rfl, by decide +kernel, rfl, by decide +kernel, by decide +kernel⟩
abbrev s157 : Stmt := topS 183
theorem sc157 : FnScope ["d", "a", "b", "v"] ["d", "a", "b", "v"] (defScope s157) := ⟨rfl, rfl, rfl, by decide +kernel, rfl, by decide +kernel, by decide +kernel⟩
abbrev s158 : Stmt := topS 184
theorem sc158 : FnScope ["script", "c", "f", "n", "k", "d", "a", "x", "v", "one_v", "rows", "square", "other", "short", "j"] ["script"] (defScope s158) := ⟨rfl, rfl, rfl, by decide +kernel, rfl, by decide +kernel, by decide +kernel⟩
structure Txt (K : Fg) (mg : Str → Option Value) (fa : Nat → Addr) (fdd : Nat → FuncData) (ca : Nat → Addr) : Prop where
  F1 : Fun K "is_prime" "is_prime" s1 (fa 1) (fdd 1)
  g1 : mg "is_prime" = some (.ref (fa 1))
  b1 : Binds K (fdd 1) ["n"] []
  F4 : Fun K "root" "root" s4 (fa 4) (fdd 4)
  g4 : mg "root" = some (.ref (fa 4))
  b4 : Binds K (fdd 4) ["n"] []
  F19 : Fun K "is_whole" "is_whole" s19 (fa 19) (fdd 19)
  g19 : mg "is_whole" = some (.ref (fa 19))
  b19 : Binds K (fdd 19) ["x"] []
  F20 : Fun K "is_field" "is_field" s20 (fa 20) (fdd 20)
  g20 : mg "is_field" = some (.ref (fa 20))
  b20 : Binds K (fdd 20) ["d"] []
  F24 : Fun K "need_field" "need_field" s24 (fa 24) (fdd 24)
  g24 : mg "need_field" = some (.ref (fa 24))
  b24 : Binds K (fdd 24) ["f"] []
  F60 : Fun K "need_square" "need_square" s60 (fa 60) (fdd 60)
  g60 : mg "need_square" = some (.ref (fa 60))
  b60 : Binds K (fdd 60) ["a"] []
  F61 : Fun K "need_length" "need_length" s61 (fa 61) (fdd 61)
  g61 : mg "need_length" = some (.ref (fa 61))
  b61 : Binds K (fdd 61) ["v", "n"] []
  F68 : Fun K "characteristic" "characteristic" s68 (fa 68) (fdd 68)
  g68 : mg "characteristic" = some (.ref (fa 68))
  b68 : Binds K (fdd 68) ["f", "a"] []
  n68 : PySem.W.nsIn K mainGlobals "characteristic" = some (some (Value.ref (fa 68)))
  F71 : Fun K "annihilator" "annihilator" s71 (fa 71) (fdd 71)
  g71 : mg "annihilator" = some (.ref (fa 71))
  b71 : Binds K (fdd 71) ["f", "a", "v"] []
  n71 : PySem.W.nsIn K mainGlobals "annihilator" = some (some (Value.ref (fa 71)))
  F73 : Fun K "krylov" "krylov" s73 (fa 73) (fdd 73)
  g73 : mg "krylov" = some (.ref (fa 73))
  b73 : Binds K (fdd 73) ["f", "a", "v"] []
  n73 : PySem.W.nsIn K mainGlobals "krylov" = some (some (Value.ref (fa 73)))
  F74 : Fun K "minimal" "minimal" s74 (fa 74) (fdd 74)
  g74 : mg "minimal" = some (.ref (fa 74))
  b74 : Binds K (fdd 74) ["f", "a"] []
  n74 : PySem.W.nsIn K mainGlobals "minimal" = some (some (Value.ref (fa 74)))
  F75 : Fun K "cyclic_vector" "cyclic_vector" s75 (fa 75) (fdd 75)
  g75 : mg "cyclic_vector" = some (.ref (fa 75))
  b75 : Binds K (fdd 75) ["f", "a"] []
  n75 : PySem.W.nsIn K mainGlobals "cyclic_vector" = some (some (Value.ref (fa 75)))
  F76 : Fun K "generator" "generator" s76 (fa 76) (fdd 76)
  g76 : mg "generator" = some (.ref (fa 76))
  b76 : Binds K (fdd 76) ["f", "a"] []
  F79 : Fun K "companion" "companion" s79 (fa 79) (fdd 79)
  g79 : mg "companion" = some (.ref (fa 79))
  b79 : Binds K (fdd 79) ["f", "g"] []
  n79 : PySem.W.nsIn K mainGlobals "companion" = some (some (Value.ref (fa 79)))
  F88 : Fun K "invariant_factors" "invariant_factors" s88 (fa 88) (fdd 88)
  g88 : mg "invariant_factors" = some (.ref (fa 88))
  b88 : Binds K (fdd 88) ["f", "a"] []
  n88 : PySem.W.nsIn K mainGlobals "invariant_factors" = some (some (Value.ref (fa 88)))
  F89 : Fun K "frobenius" "frobenius" s89 (fa 89) (fdd 89)
  g89 : mg "frobenius" = some (.ref (fa 89))
  b89 : Binds K (fdd 89) ["f", "a"] []
  n89 : PySem.W.nsIn K mainGlobals "frobenius" = some (some (Value.ref (fa 89)))
  F90 : Fun K "cyclic_form" "cyclic_form" s90 (fa 90) (fdd 90)
  g90 : mg "cyclic_form" = some (.ref (fa 90))
  b90 : Binds K (fdd 90) ["f", "a"] []
  F91 : Fun K "need_equal_sizes" "need_equal_sizes" s91 (fa 91) (fdd 91)
  g91 : mg "need_equal_sizes" = some (.ref (fa 91))
  b91 : Binds K (fdd 91) ["f", "a", "b"] []
  F92 : Fun K "similarity" "similarity" s92 (fa 92) (fdd 92)
  g92 : mg "similarity" = some (.ref (fa 92))
  b92 : Binds K (fdd 92) ["f", "a", "b"] []
  n92 : PySem.W.nsIn K mainGlobals "similarity" = some (some (Value.ref (fa 92)))
  F94 : Fun K "difference" "difference" s94 (fa 94) (fdd 94)
  g94 : mg "difference" = some (.ref (fa 94))
  b94 : Binds K (fdd 94) ["f", "a", "b"] []
  n94 : PySem.W.nsIn K mainGlobals "difference" = some (some (Value.ref (fa 94)))
  F112 : Fun K "roots" "roots" s112 (fa 112) (fdd 112)
  g112 : mg "roots" = some (.ref (fa 112))
  b112 : Binds K (fdd 112) ["f", "a"] []
  F116 : Fun K "eigenvalues" "eigenvalues" s116 (fa 116) (fdd 116)
  g116 : mg "eigenvalues" = some (.ref (fa 116))
  b116 : Binds K (fdd 116) ["f", "a"] []
  n116 : PySem.W.nsIn K mainGlobals "eigenvalues" = some (some (Value.ref (fa 116)))
  F117 : Fun K "jordan_block" "jordan_block" s117 (fa 117) (fdd 117)
  g117 : mg "jordan_block" = some (.ref (fa 117))
  b117 : Binds K (fdd 117) ["f", "x", "k"] []
  n117 : PySem.W.nsIn K mainGlobals "jordan_block" = some (some (Value.ref (fa 117)))
  F120 : Fun K "jordan" "jordan" s120 (fa 120) (fdd 120)
  g120 : mg "jordan" = some (.ref (fa 120))
  b120 : Binds K (fdd 120) ["f", "a"] []
  n120 : PySem.W.nsIn K mainGlobals "jordan" = some (some (Value.ref (fa 120)))
  F122 : Fun K "unsplit" "unsplit" s122 (fa 122) (fdd 122)
  g122 : mg "unsplit" = some (.ref (fa 122))
  b122 : Binds K (fdd 122) ["f", "a"] []
  n122 : PySem.W.nsIn K mainGlobals "unsplit" = some (some (Value.ref (fa 122)))
  F123 : Fun K "is_diagonal" "is_diagonal" s123 (fa 123) (fdd 123)
  g123 : mg "is_diagonal" = some (.ref (fa 123))
  b123 : Binds K (fdd 123) ["f", "a"] []
  n123 : PySem.W.nsIn K mainGlobals "is_diagonal" = some (some (Value.ref (fa 123)))
  F124 : Fun K "_law_start" "_law_start" s124 (fa 124) (fdd 124)
  g124 : mg "_law_start" = some (.ref (fa 124))
  b124 : Binds K (fdd 124) ["script"] []
  F125 : Fun K "_law_fill" "_law_fill" s125 (fa 125) (fdd 125)
  g125 : mg "_law_fill" = some (.ref (fa 125))
  b125 : Binds K (fdd 125) ["c"] []
  F126 : Fun K "_law_take" "_law_take" s126 (fa 126) (fdd 126)
  g126 : mg "_law_take" = some (.ref (fa 126))
  b126 : Binds K (fdd 126) ["c", "many"] []
  F128 : Fun K "_law_common" "_law_common" s128 (fa 128) (fdd 128)
  g128 : mg "_law_common" = some (.ref (fa 128))
  b128 : Binds K (fdd 128) ["a", "b"] []
  F129 : Fun K "_law_fraction" "_law_fraction" s129 (fa 129) (fdd 129)
  g129 : mg "_law_fraction" = some (.ref (fa 129))
  b129 : Binds K (fdd 129) ["n", "m"] []
  F130 : Fun K "_law_zero" "_law_zero" s130 (fa 130) (fdd 130)
  g130 : mg "_law_zero" = some (.ref (fa 130))
  b130 : Binds K (fdd 130) ["d"] []
  F131 : Fun K "_law_strip" "_law_strip" s131 (fa 131) (fdd 131)
  g131 : mg "_law_strip" = some (.ref (fa 131))
  b131 : Binds K (fdd 131) ["f", "parts"] []
  F132 : Fun K "_law_number" "_law_number" s132 (fa 132) (fdd 132)
  g132 : mg "_law_number" = some (.ref (fa 132))
  b132 : Binds K (fdd 132) ["d", "n"] []
  F139 : Fun K "_law_some_prime" "_law_some_prime" s139 (fa 139) (fdd 139)
  g139 : mg "_law_some_prime" = some (.ref (fa 139))
  b139 : Binds K (fdd 139) ["c"] []
  F140 : Fun K "_law_field" "_law_field" s140 (fa 140) (fdd 140)
  g140 : mg "_law_field" = some (.ref (fa 140))
  b140 : Binds K (fdd 140) ["c"] []
  F144 : Fun K "_law_small" "_law_small" s144 (fa 144) (fdd 144)
  g144 : mg "_law_small" = some (.ref (fa 144))
  b144 : Binds K (fdd 144) ["c", "d"] []
  F145 : Fun K "_law_matrix" "_law_matrix" s145 (fa 145) (fdd 145)
  g145 : mg "_law_matrix" = some (.ref (fa 145))
  b145 : Binds K (fdd 145) ["c", "d", "m", "n"] []
  F152 : Fun K "_law_called" "_law_called" s152 (fa 152) (fdd 152)
  g152 : mg "_law_called" = some (.ref (fa 152))
  b152 : Binds K (fdd 152) ["f", "args"] []
  F153 : Fun K "_law_class" "_law_class" s153 (fa 153) (fdd 153)
  g153 : mg "_law_class" = some (.ref (fa 153))
  b153 : Binds K (fdd 153) ["f", "args"] []
  F154 : Fun K "_law_all" "_law_all" s154 (fa 154) (fdd 154)
  g154 : mg "_law_all" = some (.ref (fa 154))
  b154 : Binds K (fdd 154) ["rows", "due"] []
  F155 : Fun K "_law_no_domain" "_law_no_domain" s155 (fa 155) (fdd 155)
  g155 : mg "_law_no_domain" = some (.ref (fa 155))
  b155 : Binds K (fdd 155) ["c"] []
  F156 : Fun K "_law_single" "_law_single" s156 (fa 156) (fdd 156)
  g156 : mg "_law_single" = some (.ref (fa 156))
  b156 : Binds K (fdd 156) ["d", "a"] []
  F157 : Fun K "_law_double" "_law_double" s157 (fa 157) (fdd 157)
  g157 : mg "_law_double" = some (.ref (fa 157))
  b157 : Binds K (fdd 157) ["d", "a", "b", "v"] []
  F158 : Fun K "law" "law" s158 (fa 158) (fdd 158)
  g158 : mg "law" = some (.ref (fa 158))
  b158 : Binds K (fdd 158) ["script"] []
  m_ValueError : mg "ValueError" = none
  m_abs : mg "abs" = none
  m_all : mg "all" = none
  m_any : mg "any" = none
  m_bool : mg "bool" = none
  m_int : mg "int" = none
  m_isinstance : mg "isinstance" = none
  m_isqrt : mg "isqrt" = some (.builtin "math.isqrt")
  m_len : mg "len" = none
  m_range : mg "range" = none
  m_tuple : mg "tuple" = none
  c_SHORT : ∃ t, mg "SHORT" = some (.int 40 t)
  c_LARGEST_MODULUS : ∃ t, mg "LARGEST_MODULUS" = some (.int 65521 t)
  c_LARGE_PRIME : ∃ t, mg "LARGE_PRIME" = some (.int 2305843009213693951 t)
  x0 : mg "EchelonError" = some (.ref (ca 0))
  cf0 : ClsF K (ca 0)
  sv0 : PySem.W.subIn K (.ref (ca 0)) (.type "ValueError") = some true
  su0_0 : PySem.W.subIn K (.ref (ca 0)) (.ref (ca 0)) = some true
  su0_1 : PySem.W.subIn K (.ref (ca 0)) (.ref (ca 1)) = some false
  su0_2 : PySem.W.subIn K (.ref (ca 0)) (.ref (ca 2)) = some false
  su0_3 : PySem.W.subIn K (.ref (ca 0)) (.ref (ca 3)) = some false
  x1 : mg "DomainError" = some (.ref (ca 1))
  cf1 : ClsF K (ca 1)
  xi1 : PySem.W.excIn K (ca 1) [.type "ValueError", .type "Exception", .type "BaseException", .type "object"] "ValueError.__new__" = true
  sv1 : PySem.W.subIn K (.ref (ca 1)) (.type "ValueError") = some true
  su1_0 : PySem.W.subIn K (.ref (ca 1)) (.ref (ca 0)) = some true
  su1_1 : PySem.W.subIn K (.ref (ca 1)) (.ref (ca 1)) = some true
  su1_2 : PySem.W.subIn K (.ref (ca 1)) (.ref (ca 2)) = some false
  su1_3 : PySem.W.subIn K (.ref (ca 1)) (.ref (ca 3)) = some false
  x2 : mg "ShapeError" = some (.ref (ca 2))
  cf2 : ClsF K (ca 2)
  xi2 : PySem.W.excIn K (ca 2) [.type "ValueError", .type "Exception", .type "BaseException", .type "object"] "ValueError.__new__" = true
  sv2 : PySem.W.subIn K (.ref (ca 2)) (.type "ValueError") = some true
  su2_0 : PySem.W.subIn K (.ref (ca 2)) (.ref (ca 0)) = some true
  su2_1 : PySem.W.subIn K (.ref (ca 2)) (.ref (ca 1)) = some false
  su2_2 : PySem.W.subIn K (.ref (ca 2)) (.ref (ca 2)) = some true
  su2_3 : PySem.W.subIn K (.ref (ca 2)) (.ref (ca 3)) = some false
  x3 : mg "SingularError" = some (.ref (ca 3))
  cf3 : ClsF K (ca 3)
  sv3 : PySem.W.subIn K (.ref (ca 3)) (.type "ValueError") = some true
  su3_0 : PySem.W.subIn K (.ref (ca 3)) (.ref (ca 0)) = some true
  su3_1 : PySem.W.subIn K (.ref (ca 3)) (.ref (ca 1)) = some false
  su3_2 : PySem.W.subIn K (.ref (ca 3)) (.ref (ca 2)) = some false
  su3_3 : PySem.W.subIn K (.ref (ca 3)) (.ref (ca 3)) = some true
def subT : Nat → Nat → Bool
  | 0, 0 => true
  | 1, 0 => true
  | 1, 1 => true
  | 2, 0 => true
  | 2, 2 => true
  | 3, 0 => true
  | 3, 3 => true
  | _, _ => false
theorem cfs {K : Fg} {mg : Str → Option Value} {fa : Nat → Addr} {fdd : Nat → FuncData} {ca : Nat → Addr} (T : Txt K mg fa fdd ca) : ∀ c, c < 4 → ClsF K (ca c)
  | 0, _ => T.cf0
  | 1, _ => T.cf1
  | 2, _ => T.cf2
  | 3, _ => T.cf3
  | n + 4, h => absurd h (by omega)
theorem subOk {K : Fg} {mg : Str → Option Value} {fa : Nat → Addr} {fdd : Nat → FuncData} {ca : Nat → Addr} (T : Txt K mg fa fdd ca) : SubOk K ca 4 subT := fun c m hc hm => match c, m, hc, hm with
  | 0, 0, _, _ => PySem.W.exm_ref T.cf0.ec.hs T.cf0.ec.hd T.cf0.ty T.su0_0
  | 0, 1, _, _ => PySem.W.exm_ref T.cf1.ec.hs T.cf1.ec.hd T.cf1.ty T.su0_1
  | 0, 2, _, _ => PySem.W.exm_ref T.cf2.ec.hs T.cf2.ec.hd T.cf2.ty T.su0_2
  | 0, 3, _, _ => PySem.W.exm_ref T.cf3.ec.hs T.cf3.ec.hd T.cf3.ty T.su0_3
  | 1, 0, _, _ => PySem.W.exm_ref T.cf0.ec.hs T.cf0.ec.hd T.cf0.ty T.su1_0
  | 1, 1, _, _ => PySem.W.exm_ref T.cf1.ec.hs T.cf1.ec.hd T.cf1.ty T.su1_1
  | 1, 2, _, _ => PySem.W.exm_ref T.cf2.ec.hs T.cf2.ec.hd T.cf2.ty T.su1_2
  | 1, 3, _, _ => PySem.W.exm_ref T.cf3.ec.hs T.cf3.ec.hd T.cf3.ty T.su1_3
  | 2, 0, _, _ => PySem.W.exm_ref T.cf0.ec.hs T.cf0.ec.hd T.cf0.ty T.su2_0
  | 2, 1, _, _ => PySem.W.exm_ref T.cf1.ec.hs T.cf1.ec.hd T.cf1.ty T.su2_1
  | 2, 2, _, _ => PySem.W.exm_ref T.cf2.ec.hs T.cf2.ec.hd T.cf2.ty T.su2_2
  | 2, 3, _, _ => PySem.W.exm_ref T.cf3.ec.hs T.cf3.ec.hd T.cf3.ty T.su2_3
  | 3, 0, _, _ => PySem.W.exm_ref T.cf0.ec.hs T.cf0.ec.hd T.cf0.ty T.su3_0
  | 3, 1, _, _ => PySem.W.exm_ref T.cf1.ec.hs T.cf1.ec.hd T.cf1.ty T.su3_1
  | 3, 2, _, _ => PySem.W.exm_ref T.cf2.ec.hs T.cf2.ec.hd T.cf2.ty T.su3_2
  | 3, 3, _, _ => PySem.W.exm_ref T.cf3.ec.hs T.cf3.ec.hd T.cf3.ty T.su3_3
  | 0, m + 4, _, h => absurd h (by omega)
  | 1, m + 4, _, h => absurd h (by omega)
  | 2, m + 4, _, h => absurd h (by omega)
  | 3, m + 4, _, h => absurd h (by omega)
  | n + 4, _, h, _ => absurd h (by omega)
theorem kitR {K : Fg} {mg : Str → Option Value} {fa : Nat → Addr} {fdd : Nat → FuncData} {ca : Nat → Addr} (T : Txt K mg fa fdd ca) : ∀ c m, c < 4 → m < 4 → PySem.W.kitOne K (.ref (ca c)) (.ref (ca m)) = some (subT c m) := fun c m hc hm => match c, m, hc, hm with
  | 0, 0, _, _ => kit_ref T.cf0 T.su0_0 (fun _ => rfl)
  | 0, 1, _, _ => kit_ref T.cf1 T.su0_1 (fun e => by have q := T.su0_1; rw [e, T.su1_1] at q; cases q)
  | 0, 2, _, _ => kit_ref T.cf2 T.su0_2 (fun e => by have q := T.su0_2; rw [e, T.su2_2] at q; cases q)
  | 0, 3, _, _ => kit_ref T.cf3 T.su0_3 (fun e => by have q := T.su0_3; rw [e, T.su3_3] at q; cases q)
  | 1, 0, _, _ => kit_ref T.cf0 T.su1_0 (fun _ => rfl)
  | 1, 1, _, _ => kit_ref T.cf1 T.su1_1 (fun _ => rfl)
  | 1, 2, _, _ => kit_ref T.cf2 T.su1_2 (fun e => by have q := T.su1_2; rw [e, T.su2_2] at q; cases q)
  | 1, 3, _, _ => kit_ref T.cf3 T.su1_3 (fun e => by have q := T.su1_3; rw [e, T.su3_3] at q; cases q)
  | 2, 0, _, _ => kit_ref T.cf0 T.su2_0 (fun _ => rfl)
  | 2, 1, _, _ => kit_ref T.cf1 T.su2_1 (fun e => by have q := T.su2_1; rw [e, T.su1_1] at q; cases q)
  | 2, 2, _, _ => kit_ref T.cf2 T.su2_2 (fun _ => rfl)
  | 2, 3, _, _ => kit_ref T.cf3 T.su2_3 (fun e => by have q := T.su2_3; rw [e, T.su3_3] at q; cases q)
  | 3, 0, _, _ => kit_ref T.cf0 T.su3_0 (fun _ => rfl)
  | 3, 1, _, _ => kit_ref T.cf1 T.su3_1 (fun e => by have q := T.su3_1; rw [e, T.su1_1] at q; cases q)
  | 3, 2, _, _ => kit_ref T.cf2 T.su3_2 (fun e => by have q := T.su3_2; rw [e, T.su2_2] at q; cases q)
  | 3, 3, _, _ => kit_ref T.cf3 T.su3_3 (fun _ => rfl)
  | 0, m + 4, _, h => absurd h (by omega)
  | 1, m + 4, _, h => absurd h (by omega)
  | 2, m + 4, _, h => absurd h (by omega)
  | 3, m + 4, _, h => absurd h (by omega)
  | n + 4, _, h, _ => absurd h (by omega)
theorem kitV {K : Fg} {mg : Str → Option Value} {fa : Nat → Addr} {fdd : Nat → FuncData} {ca : Nat → Addr} (T : Txt K mg fa fdd ca) : ∀ c, c < 4 → PySem.W.kitOne K (.ref (ca c)) (.type "ValueError") = some true
  | 0, _ => kit_type (by decide +kernel) T.sv0
  | 1, _ => kit_type (by decide +kernel) T.sv1
  | 2, _ => kit_type (by decide +kernel) T.sv2
  | 3, _ => kit_type (by decide +kernel) T.sv3
  | n + 4, h => absurd h (by omega)
local macro_rules | `(tactic| walk_at "dl") => `(tactic| try simp only [xForX, xiLst, xiTup, wiZip, seqD, wgSub, wiEnumT, wCallPF, wMov, wSwp, bDivmod, wParOO, wExch, wLR1, wTupO, wCont, wIxE, wFListO, wIxO, wCmpO, bIntB, dMulT, bSum, wCompZT, wCompZM, wCallF, wFOr, wNoR, wRetF, wRetO, wRevT, wgLst, wiUn, wComp2, wCompZ, wiRev, putP, unP, dMulI, wFB, xE, xA, xS, xCons, xCall, xCallD, xBin, xTup, xLst, xB, xNext, xSeq, xAsg, xDrop, xRet, xIf, xRaise, xFor, xTry, wTry, wCallN, catchD, onlyRt, wiEnum, wPop, wBits, dShr, dAnd, wiR3n, dEq_ss, dNe_ss, s_QQ, s_FF, s_PP, s_ZZ, s_QF, s_QP, s_QZ, s_FQ, s_FP, s_FZ, s_PQ, s_PF, s_PZ, s_ZQ, s_ZF, s_ZP, wNoPart, wPart, wSlT, wSlL, bTuple, pAdd, pSub, wFBin, wFree, wBreak, wRetN, wSeq, wIfS, wApp, wSetIx, wKeep, wFLst, wFBP, fList, pName, pureD, pC, pNil, pCons, wCallP, wBinP, wTruP, wBP, noList, noListA, wAnd, wOr, wNotT, wTest, wTruT, truD, wBin, wUn, wName, wC, env0, List.map, look, dEq_ii, dNe_ii, dEq_t2, dNe_t2, dEq_bb, dNe_bb, wiR3, List.replicate, List.length, List.append, List.cons_append, List.nil_append, Nat.sub_self, wPar, wCons, wNil, wB, bAbs, bInt, bMax, bMin, bGcd, bIsqrt, bLcm, bLen, wTup, wLst, put, wRet, wNext, wAsg, wgName, wgTup, wgCons, wgNil, dIx_t0, dIx_t1, dIx_t2, dIx_l0, dIx_l1, dIx_l2, dAdd, dSub, dMul, dDiv, dMod, dNeg, dPow, dLt, dLe, dGt, dGe, wCall, wIf, wDrop, wAug, dAddI, wAndV, wOrV, wNotV, wIsi, isi_ii, isi_ib, isi_in, isi_is, isi_il, isi_it, isi_bi, isi_bb, isi_bn, isi_bs, isi_bl, isi_bt, isi_ti, isi_tb, isi_tn, isi_ts, isi_tl, isi_tt, wFor, wiR1, wiR2, wiTup, wiLst, wFree, wComp, wYes, wChain, dIsB, dIsNB, dIsN, dIsNN, Bool.not_true, Bool.not_false, Bool.not_eq_true', decide_eq_true_eq, decide_eq_false_iff_not, Bool.false_eq_true, if_false, if_true, bne_iff_ne, ne_eq, reduceCtorEq, Nat.reduceAdd, Nat.reduceLeDiff, Nat.reduceSub, true_and, and_true])
local macro_rules | `(tactic| walk_at "dlm") => `(tactic| try simp (maxSteps := 3000000) only [xForX, xiLst, xiTup, wiZip, seqD, wgSub, wiEnumT, wCallPF, wMov, wSwp, bDivmod, wParOO, wExch, wLR1, wTupO, wCont, wIxE, wFListO, wIxO, wCmpO, bIntB, dMulT, bSum, wCompZT, wCompZM, wCallF, wFOr, wNoR, wRetF, wRetO, wRevT, wgLst, wiUn, wComp2, wCompZ, wiRev, putP, unP, dMulI, wFB, xE, xA, xS, xCons, xCall, xCallD, xBin, xTup, xLst, xB, xNext, xSeq, xAsg, xDrop, xRet, xIf, xRaise, xFor, xTry, wTry, wCallN, catchD, onlyRt, wiEnum, wPop, wBits, dShr, dAnd, wiR3n, dEq_ss, dNe_ss, s_QQ, s_FF, s_PP, s_ZZ, s_QF, s_QP, s_QZ, s_FQ, s_FP, s_FZ, s_PQ, s_PF, s_PZ, s_ZQ, s_ZF, s_ZP, wNoPart, wPart, wSlT, wSlL, bTuple, pAdd, pSub, wFBin, wFree, wBreak, wRetN, wSeq, wIfS, wApp, wSetIx, wKeep, wFLst, wFBP, fList, pName, pureD, pC, pNil, pCons, wCallP, wBinP, wTruP, wBP, noList, noListA, wAnd, wOr, wNotT, wTest, wTruT, truD, wBin, wUn, wName, wC, env0, List.map, look, dEq_ii, dNe_ii, dEq_t2, dNe_t2, dEq_bb, dNe_bb, wiR3, List.replicate, List.length, List.append, List.cons_append, List.nil_append, Nat.sub_self, wPar, wCons, wNil, wB, bAbs, bInt, bMax, bMin, bGcd, bIsqrt, bLcm, bLen, wTup, wLst, put, wRet, wNext, wAsg, wgName, wgTup, wgCons, wgNil, dIx_t0, dIx_t1, dIx_t2, dIx_l0, dIx_l1, dIx_l2, dAdd, dSub, dMul, dDiv, dMod, dNeg, dPow, dLt, dLe, dGt, dGe, wCall, wIf, wDrop, wAug, dAddI, wAndV, wOrV, wNotV, wIsi, isi_ii, isi_ib, isi_in, isi_is, isi_il, isi_it, isi_bi, isi_bb, isi_bn, isi_bs, isi_bl, isi_bt, isi_ti, isi_tb, isi_tn, isi_ts, isi_tl, isi_tt, wFor, wiR1, wiR2, wiTup, wiLst, wFree, wComp, wYes, wChain, dIsB, dIsNB, dIsN, dIsNN, Bool.not_true, Bool.not_false, Bool.not_eq_true', decide_eq_true_eq, decide_eq_false_iff_not, Bool.false_eq_true, if_false, if_true, bne_iff_ne, ne_eq, reduceCtorEq, Nat.reduceAdd, Nat.reduceLeDiff, Nat.reduceSub, true_and, and_true])

/-! ### the law's own draws -/
def pre_law_fill : List D → Prop := fun ds => ds = [.dict []]
def post_law_fill : List D → D → Prop := fun ds d => ∃ n : Int, d = .int n
def pre_law_take : List D → Prop := fun ds => ∃ m : Int, ds = [.dict [], .int m] ∧ 0 < m ∧ m.natAbs.log2 < 9000
def post_law_take : List D → D → Prop := fun ds d => ∃ m r : Int, ds = [.dict [], .int m] ∧ d = .int r ∧ 0 ≤ r ∧ r < m
theorem sql_upd {K : Fg} {H : Hp} {p b : Addr} {o : HO} {xs : List V} (h : SqL K H p xs) (n : p ≠ b) : SqL K (upd H b o) p xs := by
  rcases h with (h | ⟨u, h⟩) | h
  · exact .inl (.inl (by rw [upd_ne n]; exact h))
  · exact .inl (.inr ⟨u, by rw [upd_ne n]; exact h⟩)
  · exact .inr h
theorem ok_law_fill {P : Program} {w : World} {K : Fg} {mg : Str → Option Value} {base : Heap} {fa : Nat → Addr} {fdd : Nat → FuncData} {ca : Nat → Addr} (T : Txt K mg fa fdd ca) : FnOk P w K mg base CX0 1 (fa 125) (fdd 125) ["c"] (SpD K pre_law_fill post_law_fill) := by
  refine T.F125.ok sc125 (fun vs H Q E h => ?_) (fun cdv A outer s H vs Q E hr h => ?_)
  · obtain ⟨lc, hc, hd, ds, g, _, _, _, rfl, _⟩ := h
    rw [g.length]; rfl
  · obtain ⟨lc, hc, hd, ds, g, cok, sub, al, rfl, q⟩ := h
    obtain ⟨x, rfl, gx⟩ := da1 g
    cases gx with
    | @tok b hl =>
      subst hl
      obtain ⟨⟨p, ns, pos, dig, cnt, hb, hS, npb, h0, h63, hcp⟩, hcb⟩ := cok b rfl
      refine ⟨_, pss_cons (ps_asg (pe_op op_add (pe_ix ix_list (pv 0) pe_int (fun _ _ => rfl)) pe_int) (pg_sub (pv 0) pe_int set_list))
        (pss_cons (ps_set (i := 1) sc125.nd rfl (.inl rfl) (pe_op op_add (pe_op op_mul (pe_ix ix_list (pv 0) pe_int (fun _ _ => rfl)) pe_int) pe_int))
        (pss_cons (ps_if (pt_cmpR op_lt (pe_ix ix_list (pv 0) pe_int (fun _ _ => rfl)) (pe_callB call_len_seq (by rfl) T.m_len PySem.boot_len (pa_cons (pe_ix ix_list (pv 0) pe_int (fun _ _ => rfl)) pa_nil)) (nomark _))
            (pss_cons (ps_set (i := 1) sc125.nd rfl (.inl rfl) (pe_ix ix_list (pe_ix ix_list (pv 0) pe_int (fun _ _ => rfl)) (pe_ix ix_list (pv 0) pe_int (fun _ _ => rfl)) (fun _ _ => rfl)))
            (pss_cons (ps_asg (pe_op op_add (pe_ix ix_list (pv 0) pe_int (fun _ _ => rfl)) pe_int) (pg_sub (pv 0) pe_int set_list))
            (pss_cons (ps_if (pt_cmpR op_lt (pv 1) pe_int (nomark _)) (pss_one (ps_set (i := 1) sc125.nd rfl (.inl rfl) (pe_op op_sub (pe_op op_sub pe_int pe_int) (pv 1)))) pss_nil)
            (pss_one (ps_if (pt_cmpR op_ge (pv 1) (pe_op op_pow pe_int pe_int) (nomark _)) (pss_one (ps_ret (pv 1))) pss_nil))))) pss_nil)
        (pss_cons (ps_if (PW.pt (pw_and (pt_truth (pe_ix ix_list (pv 0) pe_int (fun _ _ => rfl)) (by intro _; rfl)) (pw_and1 (pt_cmpR op_ge (pe_ix ix_list (pv 0) pe_int (fun _ _ => rfl)) (pe_callB call_len_seq (by rfl) T.m_len PySem.boot_len (pa_cons (pe_ix ix_list (pv 0) pe_int (fun _ _ => rfl)) pa_nil)) (nomark _)))))
            (pss_one (ps_set (i := 1) sc125.nd rfl (.inl rfl) (pe_op op_add (pv 1) (pe_op op_modN (pe_callTy call_int1 (by rfl) T.m_int (by decide +kernel) (pa_cons (pe_ix ix_list (pe_ix ix_list (pv 0) pe_int (fun _ _ => rfl)) (pe_un un_neg pe_int) (fun _ _ => rfl)) pa_nil)) pe_int)))) pss_nil)
        (pss_cons (ps_set (i := 1) sc125.nd rfl (.inl rfl) (pe_op op_modN (pe_callTy call_int1 (by rfl) T.m_int (by decide +kernel) (pa_cons (pe_op op_add (pe_op op_mul (pv 1) pe_int) (pe_op op_mul (pe_ix ix_list (pv 0) pe_int (fun _ _ => rfl)) pe_int)) pa_nil)) pe_int))
        (pss_one (ps_ret (pe_op op_add (pe_op op_modN (pe_callTy call_int1 (by rfl) T.m_int (by decide +kernel) (pa_cons (pe_op op_add (pe_op op_add (pe_op op_mul (pv 1) (pv 1)) (pe_op op_mul (pe_ix ix_list (pv 0) pe_int (fun _ _ => rfl)) pe_int)) pe_int) pa_nil)) pe_int) pe_int))))))), ?_⟩
      -- c[3] = c[3] + 1
      refine ⟨.ref b, rfl, b, _, 3, .int cnt, rfl, rfl, .of hb, atI_nat (j := 3) rfl, cnt, 1, rfl, rfl, .ref b, rfl, b, _, 3, 3, rfl, rfl, hb, rfl, ?_⟩
      -- number
      refine ⟨.ref b, rfl, b, _, 3, .int (cnt + 1), rfl, rfl, .of upd_same, atI_nat (j := 3) rfl, cnt + 1, 69621, rfl, rfl, .inr (by decide), (cnt + 1) * 69621, 12345, rfl, rfl, ?_⟩
      have fin : ∀ (n : Int) (H2 : Hp) (pos2 : Int), H2 b = some (.lst [.ref p, .int pos2, .int dig, .int (cnt + 1)]) → 0 ≤ pos2 → (∀ x, x ≠ b → H2 x = H x) → Q (.int n) H2 := fun n H2 pos2 e1 e2 e3 => by
        refine q (.int n) (.int n) H2 (fun c o hcb' ho => by rw [e3 c (fun z => hcb' (by rw [z]))]; exact ho) (fun c hc' => ?_) (.int n) ⟨n, rfl⟩
        cases hc'
        refine ⟨⟨p, ns, pos2, dig, cnt + 1, e1, ?_, npb, e2, h63, hcp⟩, hcb⟩
        rcases hS with (h | ⟨u, h⟩) | h
        · exact .inl (.inl (by rw [e3 p npb]; exact h))
        · exact .inl (.inr ⟨u, by rw [e3 p npb]; exact h⟩)
        · exact .inr h
      have sql : ∀ (H2 : Hp), (∀ x, x ≠ b → H2 x = H x) → SqL K H2 p (ns.map V.int) := fun H2 e3 => by
        rcases hS with (h | ⟨u, h⟩) | h
        · exact .inl (.inl (by rw [e3 p npb]; exact h))
        · exact .inl (.inr ⟨u, by rw [e3 p npb]; exact h⟩)
        · exact .inr h
      generalize hH1 : upd H b (.lst ((([V.ref p, V.int pos, V.int dig, V.int cnt]).set 3 (.int (cnt + 1))))) = H1
      have e1 : H1 b = some (.lst [.ref p, .int pos, .int dig, .int (cnt + 1)]) := by rw [← hH1]; exact upd_same
      have e3 : ∀ x, x ≠ b → H1 x = H x := fun x hx => by rw [← hH1]; exact upd_ne hx
      -- if c[1] < len(c[0])
      refine ⟨.ref b, rfl, b, _, 1, .int pos, rfl, rfl, .of e1, atI_nat (j := 1) rfl, .ref b, rfl, b, _, 0, .ref p, rfl, rfl, .of e1, atI_nat (j := 0) rfl, p, ns.map V.int, rfl, .inl (sql H1 e3), pos, ((ns.map V.int).length : Int), rfl, rfl, _, rfl, ite2 (fun c1 => ?_) (fun c1 => ?_)⟩
      · -- number = c[0][c[1]]
        have c1' : pos < ((ns.map V.int).length : Int) := of_decide_eq_true c1
        have hlt : pos.toNat < ns.length := by rw [List.length_map] at c1'; omega
        have at1 : atI (ns.map V.int) pos = some (.int ns[pos.toNat]) := by
          have := atI_nat (xs := ns.map V.int) (j := pos.toNat) (v := .int ns[pos.toNat]) (by rw [List.getElem?_map, List.getElem?_eq_getElem hlt]; rfl)
          rwa [Int.toNat_of_nonneg h0] at this
        refine ⟨.ref b, rfl, b, _, 0, .ref p, rfl, rfl, .of e1, atI_nat (j := 0) rfl, .ref b, rfl, b, _, 1, .int pos, rfl, rfl, .of e1, atI_nat (j := 1) rfl, p, ns.map V.int, pos, .int ns[pos.toNat], rfl, rfl, sql H1 e3, at1, ?_⟩
        -- c[1] = c[1] + 1
        refine ⟨.ref b, rfl, b, _, 1, .int pos, rfl, rfl, .of e1, atI_nat (j := 1) rfl, pos, 1, rfl, rfl, .ref b, rfl, b, _, 1, 1, rfl, rfl, e1, rfl, ?_⟩
        generalize hHk : upd H1 b (.lst ((([V.ref p, V.int pos, V.int dig, V.int (cnt + 1)]).set 1 (.int (pos + 1))))) = Hk
        have k1 : Hk b = some (.lst [.ref p, .int (pos + 1), .int dig, .int (cnt + 1)]) := by rw [← hHk]; exact upd_same
        have k3 : ∀ x, x ≠ b → Hk x = H x := fun x hx => by rw [← hHk, upd_ne hx]; exact e3 x hx
        have kp : 0 ≤ pos + 1 := by omega
        generalize ns[pos.toNat] = num
        generalize pos + 1 = pk at k1 kp
        refine ⟨.int num, rfl, num, 0, rfl, rfl, _, rfl, ite2 (fun c2 => ?_) (fun c2 => ?_)⟩
        · refine ⟨0, 1, rfl, rfl, .int num, rfl, _, num, rfl, rfl, ?_⟩
          refine ⟨.int (0 - 1 - num), rfl, 10, 18, rfl, rfl, ⟨by decide, by decide, by decide⟩, 0 - 1 - num, _, rfl, rfl, _, rfl, ite2 (fun c3 => ?_) (fun c3 => ?_)⟩
          · exact ⟨.int (0 - 1 - num), rfl, fin (0 - 1 - num) Hk pk k1 kp k3⟩
          · refine ⟨.ref b, rfl, b, _, 0, .ref p, rfl, rfl, .of k1, atI_nat (j := 0) rfl, !(ns.map V.int).isEmpty, .inl ⟨ns.map V.int, sql Hk k3, rfl⟩, ?_⟩
            have T2 : ∀ NN : Int, Q (.int ((((NN * 48271 + (cnt + 1) * 69621).fmod 2147483647) * ((NN * 48271 + (cnt + 1) * 69621).fmod 2147483647) + (cnt + 1) * 7919 + 11).fmod 2305843009213693951 + 2305843009213693951)) Hk := fun NN => fin _ Hk pk k1 kp k3
            have B2 : ∀ NN : Int, -(2 ^ 64) < ((NN * 48271 + (cnt + 1) * 69621).fmod 2147483647) ∧ ((NN * 48271 + (cnt + 1) * 69621).fmod 2147483647) < 2 ^ 64 := fun NN => by
              have f0 := Int.fmod_nonneg_of_pos (NN * 48271 + (cnt + 1) * 69621) (show (0 : Int) < 2147483647 by decide)
              have f1 := Int.fmod_lt_of_pos (NN * 48271 + (cnt + 1) * 69621) (show (0 : Int) < 2147483647 by decide)
              have : (2147483647 : Int) < 2 ^ 64 := by decide
              omega
            by_cases cn : ns = []
            · rw [show (ns.map V.int).isEmpty = true by rw [cn]; rfl]
              refine iteF (iteF ?_)
              exact ⟨_, rfl, _, 48271, rfl, rfl, .inr (by decide), .ref b, rfl, b, _, 3, .int (cnt + 1), rfl, rfl, .of k1, atI_nat (j := 3) rfl, cnt + 1, 69621, rfl, rfl, .inr (by decide), _, _, rfl, rfl, .inl ⟨_, rfl, _, 2147483647, rfl, rfl, (by show (2147483647 : Int) ≠ 0; decide),
                _, rfl, _, rfl, _, _, rfl, rfl, .inl (B2 _), .ref b, rfl, b, _, 3, .int (cnt + 1), rfl, rfl, .of k1, atI_nat (j := 3) rfl, cnt + 1, 7919, rfl, rfl, .inr (by decide), _, _, rfl, rfl, _, 11, rfl, rfl, .inl ⟨_, rfl, _, 2305843009213693951, rfl, rfl, (by show (2305843009213693951 : Int) ≠ 0; decide), _, _, rfl, rfl, T2 _⟩⟩⟩
            · have emp : (ns.map V.int).isEmpty = false := by cases ns <;> first | exact absurd rfl cn | rfl
              rw [emp]
              have hz : (ns.map V.int) = (ns.dropLast.map V.int) ++ [.int (ns.getLast cn)] := by rw [← List.map_singleton, ← List.map_append, List.dropLast_concat_getLast]
              have gl : atI (ns.map V.int) (-1) = some (.int (ns.getLast cn)) := by rw [hz]; exact atI_last _ _
              refine iteT ?_
              refine ⟨.ref b, rfl, b, _, 1, .int pk, rfl, rfl, .of k1, atI_nat (j := 1) rfl, .ref b, rfl, b, _, 0, .ref p, rfl, rfl, .of k1, atI_nat (j := 0) rfl, p, ns.map V.int, rfl, .inl (sql Hk k3), pk, ((ns.map V.int).length : Int), rfl, rfl, _, rfl, ite2 (fun c5 => ?_) (fun c5 => ?_)⟩
              · exact ⟨_, rfl, .ref b, rfl, b, _, 0, .ref p, rfl, rfl, .of k1, atI_nat (j := 0) rfl, 1, rfl, p, ns.map V.int, -1, .int (ns.getLast cn), rfl, rfl, sql Hk k3, gl, .inl ⟨_, rfl, _, 1000003, rfl, rfl, (by show (1000003 : Int) ≠ 0; decide), _, _, rfl, rfl,
                  _, rfl, _, 48271, rfl, rfl, .inr (by decide), .ref b, rfl, b, _, 3, .int (cnt + 1), rfl, rfl, .of k1, atI_nat (j := 3) rfl, cnt + 1, 69621, rfl, rfl, .inr (by decide), _, _, rfl, rfl, .inl ⟨_, rfl, _, 2147483647, rfl, rfl, (by show (2147483647 : Int) ≠ 0; decide),
                  _, rfl, _, rfl, _, _, rfl, rfl, .inl (B2 _), .ref b, rfl, b, _, 3, .int (cnt + 1), rfl, rfl, .of k1, atI_nat (j := 3) rfl, cnt + 1, 7919, rfl, rfl, .inr (by decide), _, _, rfl, rfl, _, 11, rfl, rfl, .inl ⟨_, rfl, _, 2305843009213693951, rfl, rfl, (by show (2305843009213693951 : Int) ≠ 0; decide), _, _, rfl, rfl, T2 _⟩⟩⟩⟩
              · exact ⟨_, rfl, _, 48271, rfl, rfl, .inr (by decide), .ref b, rfl, b, _, 3, .int (cnt + 1), rfl, rfl, .of k1, atI_nat (j := 3) rfl, cnt + 1, 69621, rfl, rfl, .inr (by decide), _, _, rfl, rfl, .inl ⟨_, rfl, _, 2147483647, rfl, rfl, (by show (2147483647 : Int) ≠ 0; decide),
                  _, rfl, _, rfl, _, _, rfl, rfl, .inl (B2 _), .ref b, rfl, b, _, 3, .int (cnt + 1), rfl, rfl, .of k1, atI_nat (j := 3) rfl, cnt + 1, 7919, rfl, rfl, .inr (by decide), _, _, rfl, rfl, _, 11, rfl, rfl, .inl ⟨_, rfl, _, 2305843009213693951, rfl, rfl, (by show (2305843009213693951 : Int) ≠ 0; decide), _, _, rfl, rfl, T2 _⟩⟩⟩
        · refine ⟨.int num, rfl, 10, 18, rfl, rfl, ⟨by decide, by decide, by decide⟩, num, _, rfl, rfl, _, rfl, ite2 (fun c3 => ?_) (fun c3 => ?_)⟩
          · exact ⟨.int num, rfl, fin num Hk pk k1 kp k3⟩
          · refine ⟨.ref b, rfl, b, _, 0, .ref p, rfl, rfl, .of k1, atI_nat (j := 0) rfl, !(ns.map V.int).isEmpty, .inl ⟨ns.map V.int, sql Hk k3, rfl⟩, ?_⟩
            have T2 : ∀ NN : Int, Q (.int ((((NN * 48271 + (cnt + 1) * 69621).fmod 2147483647) * ((NN * 48271 + (cnt + 1) * 69621).fmod 2147483647) + (cnt + 1) * 7919 + 11).fmod 2305843009213693951 + 2305843009213693951)) Hk := fun NN => fin _ Hk pk k1 kp k3
            have B2 : ∀ NN : Int, -(2 ^ 64) < ((NN * 48271 + (cnt + 1) * 69621).fmod 2147483647) ∧ ((NN * 48271 + (cnt + 1) * 69621).fmod 2147483647) < 2 ^ 64 := fun NN => by
              have f0 := Int.fmod_nonneg_of_pos (NN * 48271 + (cnt + 1) * 69621) (show (0 : Int) < 2147483647 by decide)
              have f1 := Int.fmod_lt_of_pos (NN * 48271 + (cnt + 1) * 69621) (show (0 : Int) < 2147483647 by decide)
              have : (2147483647 : Int) < 2 ^ 64 := by decide
              omega
            by_cases cn : ns = []
            · rw [show (ns.map V.int).isEmpty = true by rw [cn]; rfl]
              refine iteF (iteF ?_)
              exact ⟨_, rfl, _, 48271, rfl, rfl, .inr (by decide), .ref b, rfl, b, _, 3, .int (cnt + 1), rfl, rfl, .of k1, atI_nat (j := 3) rfl, cnt + 1, 69621, rfl, rfl, .inr (by decide), _, _, rfl, rfl, .inl ⟨_, rfl, _, 2147483647, rfl, rfl, (by show (2147483647 : Int) ≠ 0; decide),
                _, rfl, _, rfl, _, _, rfl, rfl, .inl (B2 _), .ref b, rfl, b, _, 3, .int (cnt + 1), rfl, rfl, .of k1, atI_nat (j := 3) rfl, cnt + 1, 7919, rfl, rfl, .inr (by decide), _, _, rfl, rfl, _, 11, rfl, rfl, .inl ⟨_, rfl, _, 2305843009213693951, rfl, rfl, (by show (2305843009213693951 : Int) ≠ 0; decide), _, _, rfl, rfl, T2 _⟩⟩⟩
            · have emp : (ns.map V.int).isEmpty = false := by cases ns <;> first | exact absurd rfl cn | rfl
              rw [emp]
              have hz : (ns.map V.int) = (ns.dropLast.map V.int) ++ [.int (ns.getLast cn)] := by rw [← List.map_singleton, ← List.map_append, List.dropLast_concat_getLast]
              have gl : atI (ns.map V.int) (-1) = some (.int (ns.getLast cn)) := by rw [hz]; exact atI_last _ _
              refine iteT ?_
              refine ⟨.ref b, rfl, b, _, 1, .int pk, rfl, rfl, .of k1, atI_nat (j := 1) rfl, .ref b, rfl, b, _, 0, .ref p, rfl, rfl, .of k1, atI_nat (j := 0) rfl, p, ns.map V.int, rfl, .inl (sql Hk k3), pk, ((ns.map V.int).length : Int), rfl, rfl, _, rfl, ite2 (fun c5 => ?_) (fun c5 => ?_)⟩
              · exact ⟨_, rfl, .ref b, rfl, b, _, 0, .ref p, rfl, rfl, .of k1, atI_nat (j := 0) rfl, 1, rfl, p, ns.map V.int, -1, .int (ns.getLast cn), rfl, rfl, sql Hk k3, gl, .inl ⟨_, rfl, _, 1000003, rfl, rfl, (by show (1000003 : Int) ≠ 0; decide), _, _, rfl, rfl,
                  _, rfl, _, 48271, rfl, rfl, .inr (by decide), .ref b, rfl, b, _, 3, .int (cnt + 1), rfl, rfl, .of k1, atI_nat (j := 3) rfl, cnt + 1, 69621, rfl, rfl, .inr (by decide), _, _, rfl, rfl, .inl ⟨_, rfl, _, 2147483647, rfl, rfl, (by show (2147483647 : Int) ≠ 0; decide),
                  _, rfl, _, rfl, _, _, rfl, rfl, .inl (B2 _), .ref b, rfl, b, _, 3, .int (cnt + 1), rfl, rfl, .of k1, atI_nat (j := 3) rfl, cnt + 1, 7919, rfl, rfl, .inr (by decide), _, _, rfl, rfl, _, 11, rfl, rfl, .inl ⟨_, rfl, _, 2305843009213693951, rfl, rfl, (by show (2305843009213693951 : Int) ≠ 0; decide), _, _, rfl, rfl, T2 _⟩⟩⟩⟩
              · exact ⟨_, rfl, _, 48271, rfl, rfl, .inr (by decide), .ref b, rfl, b, _, 3, .int (cnt + 1), rfl, rfl, .of k1, atI_nat (j := 3) rfl, cnt + 1, 69621, rfl, rfl, .inr (by decide), _, _, rfl, rfl, .inl ⟨_, rfl, _, 2147483647, rfl, rfl, (by show (2147483647 : Int) ≠ 0; decide),
                  _, rfl, _, rfl, _, _, rfl, rfl, .inl (B2 _), .ref b, rfl, b, _, 3, .int (cnt + 1), rfl, rfl, .of k1, atI_nat (j := 3) rfl, cnt + 1, 7919, rfl, rfl, .inr (by decide), _, _, rfl, rfl, _, 11, rfl, rfl, .inl ⟨_, rfl, _, 2305843009213693951, rfl, rfl, (by show (2305843009213693951 : Int) ≠ 0; decide), _, _, rfl, rfl, T2 _⟩⟩⟩
      · refine ⟨.ref b, rfl, b, _, 0, .ref p, rfl, rfl, .of e1, atI_nat (j := 0) rfl, !(ns.map V.int).isEmpty, .inl ⟨ns.map V.int, sql H1 e3, rfl⟩, ?_⟩
        have T2 : ∀ NN : Int, Q (.int ((((NN * 48271 + (cnt + 1) * 69621).fmod 2147483647) * ((NN * 48271 + (cnt + 1) * 69621).fmod 2147483647) + (cnt + 1) * 7919 + 11).fmod 2305843009213693951 + 2305843009213693951)) H1 := fun NN => fin _ H1 pos e1 h0 e3
        have B2 : ∀ NN : Int, -(2 ^ 64) < ((NN * 48271 + (cnt + 1) * 69621).fmod 2147483647) ∧ ((NN * 48271 + (cnt + 1) * 69621).fmod 2147483647) < 2 ^ 64 := fun NN => by
          have f0 := Int.fmod_nonneg_of_pos (NN * 48271 + (cnt + 1) * 69621) (show (0 : Int) < 2147483647 by decide)
          have f1 := Int.fmod_lt_of_pos (NN * 48271 + (cnt + 1) * 69621) (show (0 : Int) < 2147483647 by decide)
          have : (2147483647 : Int) < 2 ^ 64 := by decide
          omega
        by_cases cn : ns = []
        · rw [show (ns.map V.int).isEmpty = true by rw [cn]; rfl]
          refine iteF (iteF ?_)
          exact ⟨_, rfl, _, 48271, rfl, rfl, .inr (by decide), .ref b, rfl, b, _, 3, .int (cnt + 1), rfl, rfl, .of e1, atI_nat (j := 3) rfl, cnt + 1, 69621, rfl, rfl, .inr (by decide), _, _, rfl, rfl, .inl ⟨_, rfl, _, 2147483647, rfl, rfl, (by show (2147483647 : Int) ≠ 0; decide),
            _, rfl, _, rfl, _, _, rfl, rfl, .inl (B2 _), .ref b, rfl, b, _, 3, .int (cnt + 1), rfl, rfl, .of e1, atI_nat (j := 3) rfl, cnt + 1, 7919, rfl, rfl, .inr (by decide), _, _, rfl, rfl, _, 11, rfl, rfl, .inl ⟨_, rfl, _, 2305843009213693951, rfl, rfl, (by show (2305843009213693951 : Int) ≠ 0; decide), _, _, rfl, rfl, T2 _⟩⟩⟩
        · have emp : (ns.map V.int).isEmpty = false := by cases ns <;> first | exact absurd rfl cn | rfl
          rw [emp]
          have hz : (ns.map V.int) = (ns.dropLast.map V.int) ++ [.int (ns.getLast cn)] := by rw [← List.map_singleton, ← List.map_append, List.dropLast_concat_getLast]
          have gl : atI (ns.map V.int) (-1) = some (.int (ns.getLast cn)) := by rw [hz]; exact atI_last _ _
          refine iteT ?_
          refine ⟨.ref b, rfl, b, _, 1, .int pos, rfl, rfl, .of e1, atI_nat (j := 1) rfl, .ref b, rfl, b, _, 0, .ref p, rfl, rfl, .of e1, atI_nat (j := 0) rfl, p, ns.map V.int, rfl, .inl (sql H1 e3), pos, ((ns.map V.int).length : Int), rfl, rfl, _, rfl, ite2 (fun c5 => ?_) (fun c5 => ?_)⟩
          · exact ⟨_, rfl, .ref b, rfl, b, _, 0, .ref p, rfl, rfl, .of e1, atI_nat (j := 0) rfl, 1, rfl, p, ns.map V.int, -1, .int (ns.getLast cn), rfl, rfl, sql H1 e3, gl, .inl ⟨_, rfl, _, 1000003, rfl, rfl, (by show (1000003 : Int) ≠ 0; decide), _, _, rfl, rfl,
              _, rfl, _, 48271, rfl, rfl, .inr (by decide), .ref b, rfl, b, _, 3, .int (cnt + 1), rfl, rfl, .of e1, atI_nat (j := 3) rfl, cnt + 1, 69621, rfl, rfl, .inr (by decide), _, _, rfl, rfl, .inl ⟨_, rfl, _, 2147483647, rfl, rfl, (by show (2147483647 : Int) ≠ 0; decide),
              _, rfl, _, rfl, _, _, rfl, rfl, .inl (B2 _), .ref b, rfl, b, _, 3, .int (cnt + 1), rfl, rfl, .of e1, atI_nat (j := 3) rfl, cnt + 1, 7919, rfl, rfl, .inr (by decide), _, _, rfl, rfl, _, 11, rfl, rfl, .inl ⟨_, rfl, _, 2305843009213693951, rfl, rfl, (by show (2305843009213693951 : Int) ≠ 0; decide), _, _, rfl, rfl, T2 _⟩⟩⟩⟩
          · exact ⟨_, rfl, _, 48271, rfl, rfl, .inr (by decide), .ref b, rfl, b, _, 3, .int (cnt + 1), rfl, rfl, .of e1, atI_nat (j := 3) rfl, cnt + 1, 69621, rfl, rfl, .inr (by decide), _, _, rfl, rfl, .inl ⟨_, rfl, _, 2147483647, rfl, rfl, (by show (2147483647 : Int) ≠ 0; decide),
              _, rfl, _, rfl, _, _, rfl, rfl, .inl (B2 _), .ref b, rfl, b, _, 3, .int (cnt + 1), rfl, rfl, .of e1, atI_nat (j := 3) rfl, cnt + 1, 7919, rfl, rfl, .inr (by decide), _, _, rfl, rfl, _, 11, rfl, rfl, .inl ⟨_, rfl, _, 2305843009213693951, rfl, rfl, (by show (2305843009213693951 : Int) ≠ 0; decide), _, _, rfl, rfl, T2 _⟩⟩⟩
theorem ok_law_take {P : Program} {w : World} {K : Fg} {mg : Str → Option Value} {base : Heap} {fa : Nat → Addr} {fdd : Nat → FuncData} {ca : Nat → Addr} (T : Txt K mg fa fdd ca) : FnOk P w K mg base CX0 2 (fa 126) (fdd 126) ["c", "many"] (SpD K pre_law_take post_law_take) := by
  have GF : FnOk P w K mg base CX0 1 (fa 125) (fdd 125) ["c"] (SpD K pre_law_fill post_law_fill) := ok_law_fill T
  refine T.F126.ok sc126 (fun vs H Q E h => ?_) (fun cdv A outer s H vs Q E hr h => ?_)
  · obtain ⟨lc, hc, hd, ds, g, _, _, _, ⟨m, rfl, _⟩, _⟩ := h
    rw [g.length]; rfl
  · obtain ⟨lc, hc, hd, ds, g, cok, sub, al, ⟨m, rfl, hm, hl⟩, q⟩ := h
    obtain ⟨x, y, rfl, gx, gy⟩ := da2 g
    cases gy
    cases gx with
    | @tok b hl' =>
      subst hl'
      have cok0 := cok
      obtain ⟨⟨p, ns, pos, dig, cnt, hb, hS, npb, h0, h63, hcp⟩, hcb⟩ := cok b rfl
      have fin : ∀ (d : Int) (H2 : Hp) , Evo (some b) H H2 → Cok K (some b) hc H2 → 0 ≤ d → d < m → Q (.int d) H2 := fun d H2 e1 e2 l0 l1 => q (.int d) (.int d) H2 e1 e2 (.int d) ⟨m, d, rfl, rfl, l0, l1⟩
      refine ⟨_, pss_cons (ps_if (pt_cmpR op_lt (pe_ix ix_list (pv 0) pe_int (fun _ _ => rfl)) (pv 1) (nomark _)) (pss_one (ps_asg (pe_call GF hr (by rfl) T.g125 T.F125.kp T.b125 .nil pass0 (pa_cons (pv 0) pa_nil)) (pg_sub (pv 0) pe_int set_list))) pss_nil)
        (pss_cons (ps_set (i := 2) sc126.nd rfl (.inl rfl) (pe_op op_modN (pe_callTy call_int1 (by rfl) T.m_int (by decide +kernel) (pa_cons (pe_ix ix_list (pv 0) pe_int (fun _ _ => rfl)) pa_nil)) (pv 1)))
        (pss_cons (ps_asg (pe_op op_divB (pe_ix ix_list (pv 0) pe_int (fun _ _ => rfl)) (pv 1)) (pg_sub (pv 0) pe_int set_list))
        (pss_one (ps_ret (pv 2))))), ?_⟩
      refine ⟨.ref b, rfl, b, _, 2, .int dig, rfl, rfl, .of hb, atI_nat (j := 2) rfl, .int m, rfl, dig, m, rfl, rfl, _, rfl, ite2 (fun c1 => ?_) (fun c1 => ?_)⟩
      · refine ⟨.ref b, rfl, some b, hc, hd, [.dict []], .cons (.tok rfl) .nil, cok, sub, al, rfl, fun v d H1 ev ck gv po => ?_⟩
        obtain ⟨n, rfl⟩ := po
        cases gv
        obtain ⟨⟨p1, ns1, pos1, dig1, cnt1, hb1, hS1, npb1, h01, h631, hcp1⟩, hcb1⟩ := ck b rfl
        refine ⟨.ref b, rfl, b, _, 2, 2, rfl, rfl, hb1, rfl, ?_⟩
        generalize hHk : upd H1 b (.lst ((([V.ref p1, V.int pos1, V.int dig1, V.int cnt1]).set 2 (.int n)))) = Hk
        have k1 : Hk b = some (.lst [.ref p1, .int pos1, .int n, .int cnt1]) := by rw [← hHk]; exact upd_same
        refine ⟨.ref b, rfl, b, _, 2, .int n, rfl, rfl, .of k1, atI_nat (j := 2) rfl, .inl ⟨n, rfl, .int m, rfl, n, m, rfl, rfl, by omega, ?_⟩⟩
        refine ⟨.ref b, rfl, b, _, 2, .int n, rfl, rfl, .of k1, atI_nat (j := 2) rfl, .int m, rfl, n, m, rfl, rfl, ⟨by omega, hl⟩, .ref b, rfl, b, _, 2, 2, rfl, rfl, k1, rfl, ?_⟩
        refine ⟨.int (n.fmod m), rfl, fin _ _ (fun x o hx ho => ?_) (fun x hx => ?_) (Int.fmod_nonneg_of_pos n hm) (Int.fmod_lt_of_pos n hm)⟩
        · have hne : x ≠ b := fun z => hx (by rw [z])
          rw [upd_ne hne, ← hHk, upd_ne hne]
          exact ev x o hx ho
        · cases hx
          exact ⟨⟨p1, ns1, pos1, n.fdiv m, cnt1, upd_same, sql_upd (by rw [← hHk]; exact sql_upd hS1 npb1) npb1, npb1, h01, h631, hcp1⟩, hcb1⟩
      · refine ⟨.ref b, rfl, b, _, 2, .int dig, rfl, rfl, .of hb, atI_nat (j := 2) rfl, .inl ⟨dig, rfl, .int m, rfl, dig, m, rfl, rfl, by omega, ?_⟩⟩
        refine ⟨.ref b, rfl, b, _, 2, .int dig, rfl, rfl, .of hb, atI_nat (j := 2) rfl, .int m, rfl, dig, m, rfl, rfl, ⟨by omega, hl⟩, .ref b, rfl, b, _, 2, 2, rfl, rfl, hb, rfl, ?_⟩
        refine ⟨.int (dig.fmod m), rfl, fin _ _ (fun x o hx ho => ?_) (fun x hx => ?_) (Int.fmod_nonneg_of_pos dig hm) (Int.fmod_lt_of_pos dig hm)⟩
        · have hne : x ≠ b := fun z => hx (by rw [z])
          rw [upd_ne hne]
          exact ho
        · cases hx
          exact ⟨⟨p, ns, pos, dig.fdiv m, cnt, upd_same, sql_upd hS npb, npb, h0, h63, hcp⟩, hcb⟩
theorem take_iff {m : Int} {Q : D → Prop} : (pre_law_take [.dict [], .int m] ∧ ∀ d, post_law_take [.dict [], .int m] d → Q d) = ((0 < m ∧ m.natAbs.log2 < 9000) ∧ ∀ r : Int, 0 ≤ r → r < m → Q (.int r)) := propext ⟨fun h => by
  obtain ⟨⟨m', e, h1, h2⟩, h3⟩ := h
  cases e
  exact ⟨⟨h1, h2⟩, fun r h0 h1 => h3 _ ⟨m, r, rfl, rfl, h0, h1⟩⟩, fun h => ⟨⟨m, rfl, h.1.1, h.1.2⟩, fun d hd => by
  obtain ⟨m', r, e, rfl, h0, h1⟩ := hd
  cases e
  exact h.2 r h0 h1⟩⟩

/-! ### the law's start -/
def spStart (K : Fg) : Sp := fun vs H Q _ => ∃ (a : Addr) (ns : List Int), vs = [.ref a] ∧ SqL K H a (ns.map V.int) ∧ ns.length ≤ 63 ∧
  ∀ H' b p (ms : List Int), Same H H' → p ≠ b → H' b = some (.lst [.ref p, .int 0, .int 0, .int 0]) → H' p = some (.lst (ms.map V.int)) → ms.length ≤ 63 → Q (.ref b) H'
theorem cut_ints (ns : List Int) (lo hi : Option Int) : ∃ ms : List Int, cutV (ns.map V.int) lo hi = ms.map V.int ∧ ms.length ≤ ns.length := by
  unfold cutV
  refine ⟨(ns.drop (HT.sIx (ns.map V.int).length 0 lo)).take (HT.sIx (ns.map V.int).length (ns.map V.int).length hi - HT.sIx (ns.map V.int).length 0 lo), ?_, ?_⟩
  · rw [List.map_take, List.map_drop]
  · rw [List.length_take, List.length_drop]; omega
theorem ok_law_start {P : Program} {w : World} {K : Fg} {mg : Str → Option Value} {base : Heap} {fa : Nat → Addr} {fdd : Nat → FuncData} {ca : Nat → Addr} (T : Txt K mg fa fdd ca) : FnOk P w K mg base CX0 1 (fa 124) (fdd 124) ["script"] (spStart K) := by
  refine T.F124.ok sc124 (fun vs H Q E h => ?_) (fun cdv A outer s H vs Q E hr h => ?_)
  · obtain ⟨a, ns, rfl, _⟩ := h
    rfl
  · obtain ⟨a, ns, rfl, hS, hlen, q⟩ := h
    obtain ⟨ms, em, lm⟩ := cut_ints ns none (some 63)
    refine ⟨_, pss_one (ps_ret (pe_lst (pa_cons (pe_lc (own := [("cell", 1)]) (g := gName 1) (tt := tYes) rfl sc124.nd (pi_list (pe_slice sl_list (pv 0) po_none (po_some pe_int))) (blkOk_by (own := [("cell", 1)]) (N := ["script", "cell"]) (sc := defScope s124) (by decide +kernel))
        (fun _ _ _ _ _ => pg_name (i := 1) sc124.nd rfl (Or.inl rfl)) (fun _ _ _ _ _ => pts_nil) (fun _ _ _ _ _ => pe_callTy call_int1 (by rfl) T.m_int (by decide +kernel) (pa_cons (pv 1) pa_nil))) (pa_cons pe_int (pa_cons pe_int (pa_cons pe_int pa_nil)))))), ?_⟩
    refine ⟨.ref a, rfl, 63, rfl, a, _, rfl, hS, fun c nc => ?_⟩
    rw [em]
    have s1 : Same H (upd H c (.lst (ms.map V.int))) := same_new nc
    refine ⟨c, rfl, ⟨_, .of upd_same⟩, fun D hD => ?_⟩
    have nDc : c ≠ D := fun z => by rw [← z, upd_same] at hD; cases hD
    refine lc_list (K := K) (a := c) (xs := ms.map V.int) (fun i H' => Same H H' ∧ H' c = some (.lst (ms.map V.int)) ∧ H' D = some (.lst ((ms.take i).map V.int))) ⟨s1.trans (same_new hD), by rw [upd_ne nDc, upd_same], by rw [upd_same]; rfl⟩ (fun i H' _ h => .of h.2.1) (fun i x H' hx h => ?_) fun H' h => ?_
    · obtain ⟨e1, e2, e3⟩ := h
      have hi : i < ms.length := by
        have := (List.getElem?_eq_some_iff.mp hx).1
        simpa using this
      have ex : x = .int ms[i] := by
        rw [List.getElem?_map, List.getElem?_eq_getElem hi] at hx
        exact (Option.some.inj hx).symm
      subst ex
      refine ⟨rfl, ?_⟩
      refine iteT (B := Same H H' ∧ H' c = some (.lst (ms.map V.int)) ∧ H' D = some (.lst ((ms.take (i + 1)).map V.int))) ?_
      refine ⟨_, rfl, .inl ⟨_, rfl, _, e3, ?_, fun b o hb => ?_, ?_, ?_⟩⟩
      · rw [List.length_map, List.length_take]
        exact size_lt (by omega)
      · have : b ≠ D := fun z => by
          subst z
          have := same_new (o := .lst []) hD
          have h0 := s1 b o hb
          rw [hD] at h0; cases h0
        rw [upd_ne this]; exact e1 b o hb
      · rw [upd_ne nDc]; exact e2
      · rw [upd_same, List.take_add_one, List.getElem?_eq_getElem hi, List.map_append]; rfl
    · obtain ⟨e1, e2, e3⟩ := h
      rw [List.length_map, List.take_of_length_le (Nat.le_refl _)] at e3
      refine ⟨by show 4 ≤ sizeLine; decide, fun b hb => ?_⟩
      have nb : D ≠ b := fun z => by rw [← z, e3] at hb; cases hb
      exact q _ b D ms (e1.trans (same_new hb)) nb upd_same (by rw [upd_ne nb]; exact e3) (by omega)
theorem at_law {K : Fg} {H : Hp} {b p : Addr} {ms : List Int} {σ : L2.St} (e1 : σ[1]? = some (some (.ref b))) (npb : p ≠ b) (hb : H b = some (.lst [.ref p, .int 0, .int 0, .int 0])) (hp : H p = some (.lst (ms.map V.int))) (hl : ms.length ≤ 63) :
    At K ⟨some b, fun x => x = b ∨ x = p, fun x => x = b ∨ x = p, H, []⟩ σ H (put (List.replicate σ.length .un) 1 (.val (.dict []))) [] [] := by
  have lk : ∀ n i, look (List.replicate n Slot.un) i = .un := fun n => by
    induction n with
    | zero => intro i; rfl
    | succ n ih => intro i; cases i with
      | zero => rfl
      | succ i => exact ih i
  refine ⟨fun _ => none, ?_, .nil⟩
  exact {
    evo := .refl H
    cok := fun x hx => by
      cases hx
      exact ⟨⟨p, ms, 0, 0, 0, hb, .of hp, npb, by decide, hl, .inr rfl⟩, .inl rfl⟩
    sub := fun _ h => h
    all := fun x hx => by
      rcases hx with z | z <;> subst z
      · show H x ≠ none
        rw [hb]; exact fun z => nomatch z
      · show H x ≠ none
        rw [hp]; exact fun z => nomatch z
    len := by rw [put_length, List.length_replicate]
    val := fun i d h => by
      by_cases hi : i = 1
      · subst hi
        rcases look_put (List.replicate σ.length .un) 1 (.val (.dict [])) with z | z
        · rw [z] at h; cases h
          exact ⟨_, e1, .tok rfl⟩
        · rw [z] at h; cases h
      · rw [look_put_ne _ _ _ _ hi, lk] at h; cases h
    own := fun i es h => by
      by_cases hi : i = 1
      · subst hi
        rcases look_put (List.replicate σ.length .un) 1 (.val (.dict [])) with z | z <;> (rw [z] at h; cases h)
      · rw [look_put_ne _ _ _ _ hi, lk] at h; cases h
    fre := fun i p h => nomatch h
    inj := fun i j p h => nomatch h
    gho := fun p es h => nomatch h
    gnd := .nil }
def spLaw (K : Fg) : Sp := fun vs H Q _ => ∃ (a : Addr) (ns : List Int), vs = [.ref a] ∧ SqL K H a (ns.map V.int) ∧ ns.length ≤ 63 ∧ ∀ H', Q (.bl true) H'

/-! ### root -/
def pre_root : List D → Prop := fun ds => ∃ n : Int, ds = [.int n] ∧ 0 ≤ n ∧ n.natAbs < 2 ^ 12000
theorem len_root (ds : List D) (h : pre_root ds) : ds.length = ["n"].length := by obtain ⟨a, rfl, _⟩ := h; rfl
def post_root : List D → D → Prop := fun ds r => ∃ (n : Int) (x : Nat), ds = [.int n] ∧ r = .int (x : Nat) ∧ ((x * x : Nat) : Int) ≤ n ∧ n < (((x + 1) * (x + 1) : Nat) : Int)
theorem root_iff {n : Int} {Q : D → Prop} (h0 : 0 ≤ n) (hl : n.natAbs < 2 ^ 12000) (h : ∀ x : Nat, ((x * x : Nat) : Int) ≤ n → n < (((x + 1) * (x + 1) : Nat) : Int) → Q (.int (x : Nat))) : (pre_root [.int n] ∧ ∀ r, post_root [.int n] r → Q r) := ⟨⟨n, rfl, h0, hl⟩, fun r hr => by
  obtain ⟨n', x, e, rfl, h1, h2⟩ := hr
  cases e
  exact h x h1 h2⟩

def w_root_0 : WS := (wRet (wB bIsqrt (wCons (wName 0) wNil)))

set_option exponentiation.threshold 20000 in
theorem body_root : ∀ ds, pre_root ds → w_root_0 { nx := fun _ => post_root ds .none, rt := post_root ds } (env0 ["n"] ds) := by
  intro ds h
  obtain ⟨n, rfl, h0, hl⟩ := h
  unfold w_root_0
  walk_at "dl"
  refine ⟨h0, ?_, fun r h1 h2 => ⟨n, r, rfl, rfl, by omega, by omega⟩⟩
  have := log2_le_of (n := n.toNat) (k := 12000) (by decide) (by rwa [show n.toNat = n.natAbs by omega])
  omega

theorem ok_root {P : Program} {w : World} {K : Fg} {mg : Str → Option Value} {base : Heap} {fa : Nat → Addr} {fdd : Nat → FuncData} {ca : Nat → Addr} (T : Txt K mg fa fdd ca) : FnOk P w K mg base CX0 1 (fa 4) (fdd 4) ["n"] (SpD K pre_root post_root) := by
  exact fn_ok T.F4 sc4 len_root (fun cdv A outer s H E hr => ⟨_, w_root_0, (dss_one (ds_ret (de_callM cr_isqrt snc_isqrt (by rfl) T.m_isqrt (da_cons (de_name 0) da_nil)))), body_root⟩)
/-! ### is_whole -/
def pre_is_whole : List D → Prop := fun ds => ∃ d : D, ds = [d] ∧ tyD d ≠ none
theorem len_is_whole (ds : List D) (h : pre_is_whole ds) : ds.length = ["x"].length := by obtain ⟨a, rfl, _⟩ := h; rfl
def post_is_whole : List D → D → Prop := fun ds d => ∃ x : D, ds = [x] ∧ d = .bool (isW x)
theorem is_whole_iff (x : D) (hx : x.plain = true) {Q : D → Prop} (h : Q (.bool (isW x))) : (pre_is_whole [x] ∧ ∀ r, post_is_whole [x] r → Q r) := ⟨⟨x, rfl, tyD_plain hx⟩, fun r hr => by
  obtain ⟨y, e, rfl⟩ := hr
  cases e
  exact h⟩

def w_is_whole_0 : WS := (wRet (wAndV (wIsi "int" (wName 0)) (wNotV (wIsi "bool" (wName 0)))))

theorem body_is_whole : ∀ ds, pre_is_whole ds → w_is_whole_0 { nx := fun _ => post_is_whole ds .none, rt := post_is_whole ds } (env0 ["x"] ds) := by
  intro ds h
  obtain ⟨d, rfl, hd⟩ := h
  unfold w_is_whole_0
  cases d <;> (walk_at "dl") <;> first | exact ⟨_, rfl, rfl⟩ | exact hd rfl

theorem ok_is_whole {P : Program} {w : World} {K : Fg} {mg : Str → Option Value} {base : Heap} {fa : Nat → Addr} {fdd : Nat → FuncData} {ca : Nat → Addr} (T : Txt K mg fa fdd ca) : FnOk P w K mg base CX0 1 (fa 19) (fdd 19) ["x"] (SpD K pre_is_whole post_is_whole) := by
  exact fn_ok T.F19 sc19 len_is_whole (fun cdv A outer s H E hr => ⟨_, w_is_whole_0, (dss_one (ds_ret (de_and (de_isi (Tn := "int") (by rfl) T.m_isinstance (de_name 0) (by rfl) T.m_int (by decide +kernel)) (de_one (de_not (de_isi (Tn := "bool") (by rfl) T.m_isinstance (de_name 0) (by rfl) T.m_bool (by decide +kernel))))))), body_is_whole⟩)
/-! ### need_square, raising -/
def pre_need_square_x : List D → Prop := fun ds => ∃ (m n : Nat) (R : List (List D)), ds = [Mt m n R]
theorem len_need_square_x (ds : List D) (h : pre_need_square_x ds) : ds.length = ["a"].length := by obtain ⟨_, _, _, rfl⟩ := h; rfl
def post_need_square_x : List D → D → Prop := fun ds _ => ∃ (m n : Nat) (R : List (List D)), ds = [Mt m n R] ∧ m = n
def exn_need_square_x : List D → Nat → Prop := fun ds c => c = 2 ∧ ∃ (m n : Nat) (R : List (List D)), ds = [Mt m n R] ∧ m ≠ n
theorem need_square_x_iff (m n : Nat) (R : List (List D)) {Q : D → Prop} {E : Nat → Prop} (h1 : m = n → ∀ r, Q r) (h2 : m ≠ n → E 2) : (pre_need_square_x [Mt m n R] ∧ (∀ r, post_need_square_x [Mt m n R] r → Q r) ∧ ∀ c, exn_need_square_x [Mt m n R] c → E c) := ⟨⟨m, n, R, rfl⟩, fun r hr => by
  obtain ⟨m', n', R', e, h⟩ := hr
  obtain ⟨rfl, rfl, rfl⟩ := Mt_inj (List.cons.inj e).1
  exact h1 h r, fun c hr => by
  obtain ⟨rfl, m', n', R', e, h⟩ := hr
  obtain ⟨rfl, rfl, rfl⟩ := Mt_inj (List.cons.inj e).1
  exact h2 h⟩

def w_need_square_x_0 : WSX := (xIf (wTest (wBin dNe (wBin dIx (wName 0) (wC (.int 0))) (wBin dIx (wName 0) (wC (.int 1))))) (xRaise 2) xNext)

theorem body_need_square_x : ∀ ds, pre_need_square_x ds → w_need_square_x_0 { nx := fun _ => post_need_square_x ds .none, rt := post_need_square_x ds } (fun c _ => exn_need_square_x ds c) (env0 ["a"] ds) := by
  intro ds h
  obtain ⟨m, n, R, rfl⟩ := h
  unfold w_need_square_x_0
  simp only [Mt]
  walk_at "dl"
  by_cases c : m = n
  · rw [if_neg (by omega)]
    exact ⟨m, n, R, rfl, c⟩
  · rw [if_pos (by omega)]
    exact ⟨rfl, m, n, R, rfl, c⟩

theorem ok_need_square_x {P : Program} {w : World} {K : Fg} {mg : Str → Option Value} {base : Heap} {fa : Nat → Addr} {fdd : Nat → FuncData} {ca : Nat → Addr} (T : Txt K mg fa fdd ca) : FnOk P w K mg base (L2.CX P w) 1 (fa 60) (fdd 60) ["a"] (SpX K ca pre_need_square_x post_need_square_x exn_need_square_x) := by
  exact fnx_ok T.F60 sc60 len_need_square_x (fun cdv A outer s H E hr => ⟨_, w_need_square_x_0, (dssx_one (dsx_if (dt_cmp (op_neP hr.units) sn2_ne (de_ix ix_D sn2_ix (de_name 0) de_int) (de_ix ix_D sn2_ix (de_name 0) de_int)) (dssx_one (dsx_raise (n := 2) rfl (takes_of rfl rfl rfl rfl) T.xi2 T.x2 T.cf2.kp T.cf2.ec.hs T.cf2.ty (by rfl))) dssx_nil)), body_need_square_x⟩)
/-! ### need_length, raising -/
def pre_need_length_x : List D → Prop := fun ds => ∃ (l : List D) (n : Nat), ds = [.tuple l, .int n] ∧ (l.length ≠ n)
theorem len_need_length_x (ds : List D) (h : pre_need_length_x ds) : ds.length = ["v", "n"].length := by obtain ⟨_, _, rfl, _⟩ := h; rfl
def post_need_length_x : List D → D → Prop := fun _ _ => False
def exn_need_length_x : List D → Nat → Prop := fun _ c => c = 2
theorem need_length_x_iff (l : List D) (n : Nat) (hc : l.length ≠ n) {Q : D → Prop} {E : Nat → Prop} (h2 : E 2) : (pre_need_length_x [.tuple l, .int n] ∧ (∀ r, post_need_length_x [.tuple l, .int n] r → Q r) ∧ ∀ c, exn_need_length_x [.tuple l, .int n] c → E c) := ⟨⟨l, n, rfl, hc⟩, fun r hr => hr.elim, fun c hr => by
  cases hr
  exact h2⟩

def w_need_length_x_0 : WSX := (xIf (wTest (wBin dNe (wB bLen (wCons (wName 0) wNil)) (wName 1))) (xRaise 2) xNext)

theorem body_need_length_x : ∀ ds, pre_need_length_x ds → w_need_length_x_0 { nx := fun _ => post_need_length_x ds .none, rt := post_need_length_x ds } (fun c _ => exn_need_length_x ds c) (env0 ["v", "n"] ds) := by
  intro ds h
  obtain ⟨l, n, rfl, hc⟩ := h
  unfold w_need_length_x_0
  walk_at "dl"
  rw [if_pos (by omega)]
  exact rfl

theorem ok_need_length_x {P : Program} {w : World} {K : Fg} {mg : Str → Option Value} {base : Heap} {fa : Nat → Addr} {fdd : Nat → FuncData} {ca : Nat → Addr} (T : Txt K mg fa fdd ca) : FnOk P w K mg base (L2.CX P w) 1 (fa 61) (fdd 61) ["v", "n"] (SpX K ca pre_need_length_x post_need_length_x exn_need_length_x) := by
  exact fnx_ok T.F61 sc61 len_need_length_x (fun cdv A outer s H E hr => ⟨_, w_need_length_x_0, (dssx_one (dsx_if (dt_cmp (op_neP hr.units) sn2_ne (de_callB call_len_seq snc_len (by rfl) T.m_len (by decide +kernel) (da_cons (de_name 0) da_nil)) (de_name 1)) (dssx_one (dsx_raise (n := 2) rfl (takes_of rfl rfl rfl rfl) T.xi2 T.x2 T.cf2.kp T.cf2.ec.hs T.cf2.ty (by rfl))) dssx_nil)), body_need_length_x⟩)
/-! ### _law_common -/
def pre_law_common : List D → Prop := fun ds => ∃ a b : Int, ds = [.int a, .int b]
theorem len_law_common (ds : List D) (h : pre_law_common ds) : ds.length = ["a", "b"].length := by obtain ⟨a, b, rfl⟩ := h; rfl
def post_law_common : List D → D → Prop := fun ds r => ∃ a b : Int, ds = [.int a, .int b] ∧ r = .int (Nat.gcd a.natAbs b.natAbs : Nat)
theorem lcommon_iff {a b : Int} {Q : D → Prop} (h : Q (.int (Nat.gcd a.natAbs b.natAbs : Nat))) : (pre_law_common [.int a, .int b] ∧ ∀ r, post_law_common [.int a, .int b] r → Q r) := ⟨⟨a, b, rfl⟩, fun r hr => by
  obtain ⟨a', b', e, rfl⟩ := hr
  cases e
  exact h⟩
def mu_law_common (ρ : Rho) : Nat := match look ρ 1 with
  | .val (.int r) => r.toNat
  | _ => 0

def w_law_common_3 : WS := (wRet (wName 0))
def w_law_common_2_b : WS := (wSeq (wAsg (wBin dMod (wB bInt (wCons (wName 0) wNil)) (wName 1)) (wgName 2))
    (wSeq (wAsg (wName 1) (wgName 0))
    (wAsg (wName 2) (wgName 1))))
def w_law_common_2 : WS := wSeq (wWhile (wTest (wBin dNe (wName 1) (wC (.int 0)))) w_law_common_2_b) w_law_common_3
def w_law_common_1 : WS := wSeq (wAsg (wB bAbs (wCons (wName 1) wNil)) (wgName 1)) w_law_common_2
def w_law_common_0 : WS := wSeq (wAsg (wB bAbs (wCons (wName 0) wNil)) (wgName 0)) w_law_common_1

theorem body_law_common : ∀ ds, pre_law_common ds → w_law_common_0 { nx := fun _ => post_law_common ds .none, rt := post_law_common ds } (env0 ["a", "b", "rest"] ds) := by
  intro ds h
  obtain ⟨a, b, rfl⟩ := h
  unfold w_law_common_0 w_law_common_1 w_law_common_2
  walk_at "dl"
  rw [absite, absite]
  refine ⟨fun ρ => ∃ x y : Nat, ∃ s, ρ = [.val (.int x), .val (.int y), s] ∧ Nat.gcd x y = Nat.gcd a.natAbs b.natAbs, mu_law_common, ⟨a.natAbs, b.natAbs, .un, rfl, rfl⟩, ?_⟩
  rintro ρ ⟨x, y, s, rfl, hg⟩
  walk_at "dl"
  by_cases hy : y = 0
  · subst hy
    rw [if_neg (by simp)]
    unfold w_law_common_3
    walk_at "dl"
    rw [Nat.gcd_zero_right] at hg
    exact ⟨a, b, rfl, by rw [hg]⟩
  · rw [if_pos (by omega)]
    unfold w_law_common_2_b
    walk_at "dl"
    refine ⟨by omega, ?_⟩
    have e : (x : Int).fmod (y : Int) = ((x % y : Nat) : Int) := by rw [Int.fmod_eq_emod_of_nonneg _ (by omega), Int.natCast_emod]
    rw [e]
    refine ⟨⟨y, x % y, _, rfl, ?_⟩, ?_⟩
    · rw [← hg, Nat.gcd_comm x y, Nat.gcd_rec y x, Nat.gcd_comm]
    · simp only [mu_law_common, look]
      have := Nat.mod_lt x (show 0 < y by omega)
      omega

theorem ok_law_common {P : Program} {w : World} {K : Fg} {mg : Str → Option Value} {base : Heap} {fa : Nat → Addr} {fdd : Nat → FuncData} {ca : Nat → Addr} (T : Txt K mg fa fdd ca) : FnOk P w K mg base CX0 1 (fa 128) (fdd 128) ["a", "b"] (SpD K pre_law_common post_law_common) := by
  exact fn_ok T.F128 sc128 len_law_common (fun cdv A outer s H E hr => ⟨_, w_law_common_0, (dss_cons (ds_set (i := 0) sc128.nd (de_callB call_abs snc_abs (by rfl) T.m_abs (by decide +kernel) (da_cons (de_name 0) da_nil)))
      (dss_cons (ds_set (i := 1) sc128.nd (de_callB call_abs snc_abs (by rfl) T.m_abs (by decide +kernel) (da_cons (de_name 1) da_nil)))
      (dss_cons (ds_while PassesOwn.never (dt_cmp (op_neP hr.units) sn2_ne (de_name 1) de_int) (dss_cons (ds_set (i := 2) sc128.nd (de_op op_modN sn2_mod (de_callTy call_int1 snc_int (by rfl) T.m_int (by decide +kernel) (da_cons (de_name 0) da_nil)) (de_name 1)))
      (dss_cons (ds_set (i := 0) sc128.nd (de_name 1))
      (dss_one (ds_set (i := 1) sc128.nd (de_name 2))))))
      (dss_one (ds_ret (de_name 0)))))), body_law_common⟩)
/-! ### _law_zero -/
def pre_law_zero : List D → Prop := fun ds => ∃ d : Dom, ds = [d.enc]
theorem len_law_zero (ds : List D) (h : pre_law_zero ds) : ds.length = ["d"].length := by obtain ⟨a, rfl⟩ := h; rfl
def post_law_zero : List D → D → Prop := fun ds r => ∃ d : Dom, ds = [d.enc] ∧ r = d.el 0
theorem lzero_iff (d : Dom) {Q : D → Prop} (h : Q (d.el 0)) : (pre_law_zero [d.enc] ∧ ∀ r, post_law_zero [d.enc] r → Q r) := ⟨⟨d, rfl⟩, fun r hr => by
  obtain ⟨d', e, rfl⟩ := hr
  have := Dom.enc_inj (List.cons.inj e).1
  subst this
  exact h⟩
theorem lzero_iff_f (f : Fld) {Q : D → Prop} (h : Q (f.el 0)) : (pre_law_zero [f.enc] ∧ ∀ r, post_law_zero [f.enc] r → Q r) := lzero_iff (.K f) h

def w_law_zero_2 : WS := (wRet (wC (.int 0)))
def w_law_zero_1 : WS := wSeq (wIfS (wTest (wBin dEq (wBin dIx (wName 0) (wC (.int 0))) (wC (.str (Str.ofString "P"))))) (wRet (wTup wNil)) wNext) w_law_zero_2
def w_law_zero_0 : WS := wSeq (wIfS (wTest (wBin dEq (wBin dIx (wName 0) (wC (.int 0))) (wC (.str (Str.ofString "Q"))))) (wRet (wTup (wCons (wC (.int 0)) (wCons (wC (.int 1)) wNil)))) wNext) w_law_zero_1

theorem body_law_zero : ∀ ds, pre_law_zero ds → w_law_zero_0 { nx := fun _ => post_law_zero ds .none, rt := post_law_zero ds } (env0 ["d"] ds) := by
  intro ds h
  obtain ⟨d, rfl⟩ := h
  unfold w_law_zero_0 w_law_zero_1 w_law_zero_2
  cases d with
  | Z =>
    walk_at "dl"
    simp only [Dom.enc]
    walk_at "dl"
    exact ⟨.Z, rfl, rfl⟩
  | K f =>
    cases f with
    | Q =>
      simp only [Dom.enc, Fld.enc]
      walk_at "dl"
      exact ⟨.K .Q, rfl, rfl⟩
    | F n =>
      simp only [Dom.enc, Fld.enc]
      walk_at "dl"
      exact ⟨.K (.F n), rfl, rfl⟩
  | P f =>
    simp only [Dom.enc]
    walk_at "dl"
    exact ⟨.P f, rfl, (Dom.zero_P f).symm⟩

theorem ok_law_zero {P : Program} {w : World} {K : Fg} {mg : Str → Option Value} {base : Heap} {fa : Nat → Addr} {fdd : Nat → FuncData} {ca : Nat → Addr} (T : Txt K mg fa fdd ca) : FnOk P w K mg base CX0 1 (fa 130) (fdd 130) ["d"] (SpD K pre_law_zero post_law_zero) := by
  exact fn_ok T.F130 sc130 len_law_zero (fun cdv A outer s H E hr => ⟨_, w_law_zero_0, (dss_cons (ds_if (dt_cmp (op_eqP hr.units) sn2_eq (de_ix ix_D sn2_ix (de_name 0) de_int) de_str) (dss_one (ds_ret (de_tup (da_cons de_int (da_cons de_int da_nil))))) dss_nil)
      (dss_cons (ds_if (dt_cmp (op_eqP hr.units) sn2_eq (de_ix ix_D sn2_ix (de_name 0) de_int) de_str) (dss_one (ds_ret (de_tup da_nil))) dss_nil)
      (dss_one (ds_ret de_int)))), body_law_zero⟩)
/-! ### _law_single -/
def sgl (d a : D) : List D := [.tuple [fnD "characteristic", .tuple [d, a]], .tuple [fnD "minimal", .tuple [d, a]], .tuple [fnD "cyclic_vector", .tuple [d, a]], .tuple [fnD "invariant_factors", .tuple [d, a]], .tuple [fnD "frobenius", .tuple [d, a]], .tuple [fnD "eigenvalues", .tuple [d, a]], .tuple [fnD "jordan", .tuple [d, a]], .tuple [fnD "unsplit", .tuple [d, a]], .tuple [fnD "is_diagonal", .tuple [d, a]]]
def pre_law_single : List D → Prop := fun ds => ∃ d a : D, ds = [d, a]
theorem len_law_single (ds : List D) (h : pre_law_single ds) : ds.length = ["d", "a"].length := by obtain ⟨_, _, rfl⟩ := h; rfl
def post_law_single : List D → D → Prop := fun ds r => ∃ d a : D, ds = [d, a] ∧ r = .list (sgl d a)
theorem lsingle_iff (d a : D) {Q : D → Prop} (h : Q (.list (sgl d a))) : (pre_law_single [d, a] ∧ ∀ r, post_law_single [d, a] r → Q r) := ⟨⟨d, a, rfl⟩, fun r hr => by
  obtain ⟨d', a', e, rfl⟩ := hr
  cases e
  exact h⟩

def w_law_single_1 : WS := (wRet (wFree (wComp (wiLst (wName 2)) 3 wYes (wTup (wCons (wName 3) (wCons (wTup (wCons (wName 0) (wCons (wName 1) wNil))) wNil))))))
def w_law_single_0 : WS := wSeq (wAsg (wLst (wCons (wC (fnD "characteristic")) (wCons (wC (fnD "minimal")) (wCons (wC (fnD "cyclic_vector")) (wCons (wC (fnD "invariant_factors")) (wCons (wC (fnD "frobenius")) (wCons (wC (fnD "eigenvalues")) (wCons (wC (fnD "jordan")) (wCons (wC (fnD "unsplit")) (wCons (wC (fnD "is_diagonal")) wNil)))))))))) (wgName 2)) w_law_single_1

theorem body_law_single : ∀ ds, pre_law_single ds → w_law_single_0 { nx := fun _ => post_law_single ds .none, rt := post_law_single ds } (env0 ["d", "a", "found", "f"] ds) := by
  intro ds h
  obtain ⟨d, a, rfl⟩ := h
  have fin : ∀ L : List D, L.length ≤ 9 → (L.map fun x => PyData.tuple [x, .tuple [d, a]]) = sgl d a → w_law_single_1 { nx := fun _ => post_law_single [d, a] .none, rt := post_law_single [d, a] } [.val d, .val a, .val (.list L), .un] := fun L hl hL => by
    unfold w_law_single_1
    walk_at "dl"
    refine wCompL_of (es := L.map fun x => PyData.tuple [x, .tuple [d, a]]) (by simp) (by omega) (fun j y z Q hy hz hQ => ?_) ?_
    · rw [List.getElem?_map, hy] at hz
      cases hz
      walk_at "dl"
      exact hQ
    · rw [hL]
      exact ⟨d, a, rfl, rfl⟩
  unfold w_law_single_0
  walk_at "dl"
  exact fin _ (by simp) rfl

theorem ok_law_single {P : Program} {w : World} {K : Fg} {mg : Str → Option Value} {base : Heap} {fa : Nat → Addr} {fdd : Nat → FuncData} {ca : Nat → Addr} (T : Txt K mg fa fdd ca) : FnOk P w K mg base CX0 1 (fa 156) (fdd 156) ["d", "a"] (SpD K pre_law_single post_law_single) := by
  exact fn_ok T.F156 sc156 len_law_single (fun cdv A outer s H E hr => ⟨_, w_law_single_0, (dss_cons (ds_set (i := 2) sc156.nd (de_lst (da_cons (de_fn (by rfl) T.g68 T.n68) (da_cons (de_fn (by rfl) T.g74 T.n74) (da_cons (de_fn (by rfl) T.g75 T.n75) (da_cons (de_fn (by rfl) T.g88 T.n88) (da_cons (de_fn (by rfl) T.g89 T.n89) (da_cons (de_fn (by rfl) T.g116 T.n116) (da_cons (de_fn (by rfl) T.g120 T.n120) (da_cons (de_fn (by rfl) T.g122 T.n122) (da_cons (de_fn (by rfl) T.g123 T.n123) da_nil)))))))))))
      (dss_one (ds_ret (DF.de (df_comp (x := "f") (i := 3) rfl sc156.nd (di_lst (de_name 2)) (by first | exact (blkOk_by (own := [("f", 3)]) (N := ["d", "a", "found", "f"]) (sc := defScope s156) (by decide +kernel)) | (refine blkOk_by ?_; dsimp only [Cx.blk, Cx.nox, Cx.wish, Cx.tr, cxOf, envOfC, compEnvC, relab]; decide +kernel)) (fun _ _ _ _ _ => pg_name (i := 3) sc156.nd rfl (by first | exact Or.inl rfl | exact Or.inr rfl)) (fun _ _ _ _ _ => ⟨_, dts_nil, by first | (dsimp only [Cx.blk]; rfl) | dsimp only [Cx.blk] | rfl⟩) (fun _ _ _ _ _ => ⟨_, (de_tup (da_cons (de_name 3) (da_cons (de_tup (da_cons (de_name 0) (da_cons (de_name 1) da_nil))) da_nil))), by first | (dsimp only [Cx.blk]; rfl) | dsimp only [Cx.blk] | rfl⟩)))))), body_law_single⟩)
/-! ### _law_double -/
def dbl (d a b v : D) : List D := [.tuple [fnD "annihilator", .tuple [d, a, v]], .tuple [fnD "krylov", .tuple [d, a, v]], .tuple [fnD "similarity", .tuple [d, a, b]], .tuple [fnD "difference", .tuple [d, a, b]]]
def pre_law_double : List D → Prop := fun ds => ∃ d a b v : D, ds = [d, a, b, v]
theorem len_law_double (ds : List D) (h : pre_law_double ds) : ds.length = ["d", "a", "b", "v"].length := by obtain ⟨_, _, _, _, rfl⟩ := h; rfl
def post_law_double : List D → D → Prop := fun ds r => ∃ d a b v : D, ds = [d, a, b, v] ∧ r = .list (dbl d a b v)
theorem ldouble_iff (d a b v : D) {Q : D → Prop} (h : Q (.list (dbl d a b v))) : (pre_law_double [d, a, b, v] ∧ ∀ r, post_law_double [d, a, b, v] r → Q r) := ⟨⟨d, a, b, v, rfl⟩, fun r hr => by
  obtain ⟨d', a', b', v', e, rfl⟩ := hr
  cases e
  exact h⟩

def w_law_double_0 : WS := (wRet (wLst (wCons (wTup (wCons (wC (fnD "annihilator")) (wCons (wTup (wCons (wName 0) (wCons (wName 1) (wCons (wName 3) wNil)))) wNil))) (wCons (wTup (wCons (wC (fnD "krylov")) (wCons (wTup (wCons (wName 0) (wCons (wName 1) (wCons (wName 3) wNil)))) wNil))) (wCons (wTup (wCons (wC (fnD "similarity")) (wCons (wTup (wCons (wName 0) (wCons (wName 1) (wCons (wName 2) wNil)))) wNil))) (wCons (wTup (wCons (wC (fnD "difference")) (wCons (wTup (wCons (wName 0) (wCons (wName 1) (wCons (wName 2) wNil)))) wNil))) wNil))))))

theorem body_law_double : ∀ ds, pre_law_double ds → w_law_double_0 { nx := fun _ => post_law_double ds .none, rt := post_law_double ds } (env0 ["d", "a", "b", "v"] ds) := by
  intro ds h
  obtain ⟨d, a, b, v, rfl⟩ := h
  unfold w_law_double_0
  walk_at "dl"
  exact ⟨d, a, b, v, rfl, rfl⟩

theorem ok_law_double {P : Program} {w : World} {K : Fg} {mg : Str → Option Value} {base : Heap} {fa : Nat → Addr} {fdd : Nat → FuncData} {ca : Nat → Addr} (T : Txt K mg fa fdd ca) : FnOk P w K mg base CX0 1 (fa 157) (fdd 157) ["d", "a", "b", "v"] (SpD K pre_law_double post_law_double) := by
  exact fn_ok T.F157 sc157 len_law_double (fun cdv A outer s H E hr => ⟨_, w_law_double_0, (dss_one (ds_ret (de_lst (da_cons (de_tup (da_cons (de_fn (by rfl) T.g71 T.n71) (da_cons (de_tup (da_cons (de_name 0) (da_cons (de_name 1) (da_cons (de_name 3) da_nil)))) da_nil))) (da_cons (de_tup (da_cons (de_fn (by rfl) T.g73 T.n73) (da_cons (de_tup (da_cons (de_name 0) (da_cons (de_name 1) (da_cons (de_name 3) da_nil)))) da_nil))) (da_cons (de_tup (da_cons (de_fn (by rfl) T.g92 T.n92) (da_cons (de_tup (da_cons (de_name 0) (da_cons (de_name 1) (da_cons (de_name 2) da_nil)))) da_nil))) (da_cons (de_tup (da_cons (de_fn (by rfl) T.g94 T.n94) (da_cons (de_tup (da_cons (de_name 0) (da_cons (de_name 1) (da_cons (de_name 2) da_nil)))) da_nil))) da_nil))))))), body_law_double⟩)
/-! ### is_prime -/
def pre_is_prime : List D → Prop := fun ds => ∃ n : Int, ds = [.int n] ∧ n < 2 ^ 64
theorem len_is_prime (ds : List D) (h : pre_is_prime ds) : ds.length = ["n"].length := by obtain ⟨a, rfl, _⟩ := h; rfl
def post_is_prime : List D → D → Prop := fun ds d => ∃ (n : Int) (b : Bool), ds = [.int n] ∧ d = .bool b ∧ (b = true ↔ Prime n)
theorem lt64 {n : Int} (h : n.natAbs < 2 ^ 64) : n < 2 ^ 64 := by
  have e : (2 : Nat) ^ 64 = 18446744073709551616 := by decide
  have e2 : (2 : Int) ^ 64 = 18446744073709551616 := by decide
  omega
theorem is_prime_iff' {n : Int} {Q : D → Prop} (hl : n < 2 ^ 64) (h : ∀ b : Bool, (b = true ↔ Prime n) → Q (.bool b)) : (pre_is_prime [.int n] ∧ ∀ r, post_is_prime [.int n] r → Q r) := ⟨⟨n, rfl, hl⟩, fun r hr => by
  obtain ⟨n', b, e, rfl, h1⟩ := hr
  cases e
  exact h b h1⟩
theorem is_prime_iff {n : Int} {Q : D → Prop} (hl : n.natAbs < 2 ^ 64) (h : ∀ b : Bool, (b = true ↔ Prime n) → Q (.bool b)) : (pre_is_prime [.int n] ∧ ∀ r, post_is_prime [.int n] r → Q r) := ⟨⟨n, rfl, lt64 hl⟩, fun r hr => by
  obtain ⟨n', b, e, rfl, h1⟩ := hr
  cases e
  exact h b h1⟩

def w_is_prime_3 : WS := (wRet (wC (.bool true)))
def w_is_prime_2_b : WS := (wIfS (wOr (wTest (wBin dEq (wBin dMod (wName 0) (wName 1)) (wC (.int 0)))) (wTest (wBin dEq (wBin dMod (wName 0) (wBin dAdd (wName 1) (wC (.int 2)))) (wC (.int 0))))) (wRet (wC (.bool false))) wNext)
def w_is_prime_2 : WS := wSeq (wFor (wiR3 (wCons (wC (.int 5)) (wCons (wBin dAdd (wCall pre_root post_root (wCons (wName 0) wNil)) (wC (.int 1))) (wCons (wC (.int 6)) wNil)))) (wgName 1) w_is_prime_2_b) w_is_prime_3
def w_is_prime_1 : WS := wSeq (wIfS (wOr (wTest (wBin dEq (wBin dMod (wName 0) (wC (.int 2))) (wC (.int 0)))) (wTest (wBin dEq (wBin dMod (wName 0) (wC (.int 3))) (wC (.int 0))))) (wRet (wC (.bool false))) wNext) w_is_prime_2
def w_is_prime_0 : WS := wSeq (wIfS (wTest (wBin dLt (wName 0) (wC (.int 4)))) (wRet (wBin dGt (wName 0) (wC (.int 1)))) wNext) w_is_prime_1

theorem post_true {n : Int} (h : Prime n) : post_is_prime [.int n] (.bool true) := ⟨n, true, rfl, rfl, ⟨fun _ => h, fun _ => rfl⟩⟩
theorem post_false {n : Int} (h : ¬ Prime n) : post_is_prime [.int n] (.bool false) := ⟨n, false, rfl, rfl, ⟨(fun z => nomatch z), (fun z => absurd z h)⟩⟩
theorem emod_dvd {a b : Int} (hb : 0 < b) : a.fmod b = 0 ↔ b ∣ a := by
  rw [Int.fmod_eq_emod_of_nonneg _ (by omega)]
  exact ⟨Int.dvd_of_emod_eq_zero, Int.emod_eq_zero_of_dvd⟩
set_option exponentiation.threshold 20000 in
theorem body_is_prime : ∀ ds, pre_is_prime ds → w_is_prime_0 { nx := fun _ => post_is_prime ds .none, rt := post_is_prime ds } (env0 ["n", "k"] ds) := by
  intro ds h
  obtain ⟨n, rfl, hn'⟩ := h
  have p64 : (2 : Nat) ^ 64 = 18446744073709551616 := by decide
  have p65 : (2 : Int) ^ 64 = 18446744073709551616 := by decide
  unfold w_is_prime_0
  walk_at "dl"
  by_cases h4 : n < 4
  · rw [if_pos h4]
    exact ⟨n, _, rfl, rfl, by rw [decide_eq_true_eq, prime_small h4]⟩
  · rw [if_neg h4]
    have hn : n.natAbs < 2 ^ 64 := by omega
    unfold w_is_prime_1
    walk_at "dl"
    refine ⟨by decide, ?_⟩
    have e2 := emod_dvd (a := n) (b := 2) (by decide)
    by_cases h2 : (2 : Int) ∣ n
    · rw [if_pos (e2.mpr h2)]
      exact post_false (notPrime (by decide) h2 (by omega))
    · rw [if_neg (fun z => h2 (e2.mp z))]
      refine ⟨by decide, ?_⟩
      have e3 := emod_dvd (a := n) (b := 3) (by decide)
      by_cases h3 : (3 : Int) ∣ n
      · rw [if_pos (e3.mpr h3)]
        exact post_false (notPrime (by decide) h3 (by omega))
      · rw [if_neg (fun z => h3 (e3.mp z))]
        unfold w_is_prime_2
        walk_at "dl"
        have up : (2 : Nat) ^ 64 ≤ 2 ^ 12000 := Nat.pow_le_pow_right (by decide) (by decide)
        refine root_iff (by omega) (Nat.lt_of_lt_of_le hn up) fun r hr1 hr2 => ?_
        have rb : r < 4294967296 := by
          rcases Nat.lt_or_ge r 4294967296 with z | z
          · exact z
          · have := Nat.mul_le_mul z z
            omega
        refine ⟨⟨by decide, by decide⟩, ⟨by omega, by omega⟩, by decide, by decide, ?_⟩
        have r5 : ∀ k : Int, k ≤ (r : Int) → 0 ≤ k → k * k ≤ n := fun k hk h0 => by
          have := Int.mul_le_mul hk hk h0 (by omega)
          rw [Int.natCast_mul] at hr1
          omega
        refine wForC_of (fun i ρ => ∃ x, NoDiv n (5 + (i : Int) * 6) ∧ ρ = [.val (.int n), x]) ⟨.un, fun d d2 dl hd => ?_, rfl⟩ (fun i ρ hi hI => ?_) fun ρ hI => ?_
        · have : d = 2 ∨ d = 3 ∨ d = 4 := by omega
          rcases this with e | e | e <;> subst e
          · exact h2 hd
          · exact h3 hd
          · exact h2 (Int.dvd_trans ⟨2, rfl⟩ hd)
        · obtain ⟨x, hI, rfl⟩ := hI
          unfold stepN at hi
          have hk : 5 + (i : Int) * 6 ≤ r := by omega
          walk_at "dl"
          unfold w_is_prime_2_b
          walk_at "dl"
          refine ⟨by omega, ?_⟩
          have f1 := emod_dvd (a := n) (b := 5 + (i : Int) * 6) (by omega)
          have kk := r5 _ hk (by omega)
          by_cases c1 : (5 + (i : Int) * 6) ∣ n
          · rw [if_pos (f1.mpr c1)]
            have := Int.mul_le_mul (show 2 ≤ 5 + (i : Int) * 6 by omega) (Int.le_refl (5 + (i : Int) * 6)) (by omega) (by omega)
            exact post_false (notPrime (by omega) c1 (by omega))
          · rw [if_neg (fun z => c1 (f1.mp z))]
            refine ⟨by omega, ?_⟩
            have f2 := emod_dvd (a := n) (b := 5 + (i : Int) * 6 + 2) (by omega)
            by_cases c2 : (5 + (i : Int) * 6 + 2) ∣ n
            · rw [if_pos (f2.mpr c2)]
              have := Int.mul_le_mul (show 5 ≤ 5 + (i : Int) * 6 by omega) (Int.le_refl (5 + (i : Int) * 6)) (by omega) (by omega)
              exact post_false (notPrime (by omega) c2 (by omega))
            · rw [if_neg (fun z => c2 (f2.mp z))]
              refine ⟨_, ?_, rfl⟩
              have := noDiv_six h2 h3 hI ⟨i, by omega⟩ c1 c2
              rwa [show 5 + ((i + 1 : Nat) : Int) * 6 = 5 + (i : Int) * 6 + 6 by omega]
        · obtain ⟨x, hI, rfl⟩ := hI
          unfold w_is_prime_3
          walk_at "dl"
          refine post_true (prime_of (by omega) hI fun d d2 dd => ?_)
          have : d ≤ r := by
            rcases Int.lt_or_le (r : Int) d with z | z
            · have := Int.mul_le_mul (show (r : Int) + 1 ≤ d by omega) (show (r : Int) + 1 ≤ d by omega) (by omega) (by omega)
              have e : (((r + 1) * (r + 1) : Nat) : Int) = ((r : Int) + 1) * ((r : Int) + 1) := by rw [Int.natCast_mul, Int.natCast_add]; rfl
              omega
            · exact z
          unfold stepN
          omega

theorem ok_is_prime {P : Program} {w : World} {K : Fg} {mg : Str → Option Value} {base : Heap} {fa : Nat → Addr} {fdd : Nat → FuncData} {ca : Nat → Addr} (T : Txt K mg fa fdd ca) : FnOk P w K mg base CX0 2 (fa 1) (fdd 1) ["n"] (SpD K pre_is_prime post_is_prime) := by
  have G4 : FnOk P w K mg base CX0 1 (fa 4) (fdd 4) ["n"] (SpD K pre_root post_root) := ok_root T
  exact fn_ok T.F1 sc1 len_is_prime (fun cdv A outer s H E hr => ⟨_, w_is_prime_0, (dss_cons (ds_if (dt_cmp op_lt sn2_lt (de_name 0) de_int) (dss_one (ds_ret (de_cmp op_gt sn2_gt (de_name 0) de_int))) dss_nil)
      (dss_cons (ds_if (DW.dt (dw_or (dt_cmp (op_eqP hr.units) sn2_eq (de_op op_modN sn2_mod (de_name 0) de_int) de_int) (dw_or1 (dt_cmp (op_eqP hr.units) sn2_eq (de_op op_modN sn2_mod (de_name 0) de_int) de_int)))) (dss_one (ds_ret de_bl)) dss_nil)
      (dss_cons (ds_for PassesOwn.never rfl (di_rng3 (by rfl) T.m_range (da_cons de_int (da_cons (de_op op_addD sn2_add (de_call G4 hr (by rfl) T.g4 T.F4.kp T.b4 pass0 (da_cons (de_name 0) da_nil)) de_int) (da_cons de_int da_nil)))) (dg_name (i := 1) sc1.nd) (dss_one (ds_if (DW.dt (dw_or (dt_cmp (op_eqP hr.units) sn2_eq (de_op op_modN sn2_mod (de_name 0) (de_name 1)) de_int) (dw_or1 (dt_cmp (op_eqP hr.units) sn2_eq (de_op op_modN sn2_mod (de_name 0) (de_op op_addD sn2_add (de_name 1) de_int)) de_int)))) (dss_one (ds_ret de_bl)) dss_nil)))
      (dss_one (ds_ret de_bl))))), body_is_prime⟩)
/-! ### _law_fraction -/
def pre_law_fraction : List D → Prop := fun ds => ∃ n d : Int, ds = [.int n, .int d] ∧ d ≠ 0 ∧ d.natAbs < 2 ^ 8000
theorem len_law_fraction (ds : List D) (h : pre_law_fraction ds) : ds.length = ["n", "m"].length := by obtain ⟨a, b, rfl, _⟩ := h; rfl
def post_law_fraction : List D → D → Prop := fun ds r => ∃ n d a b : Int, ds = [.int n, .int d] ∧ r = .tuple [.int a, .int b] ∧ Frac n d a b
theorem lfraction_iff {n d : Int} {Q : D → Prop} (hd : d ≠ 0) (hl : d.natAbs < 2 ^ 8000) (h : ∀ a b : Int, Frac n d a b → Q (.tuple [.int a, .int b])) : (pre_law_fraction [.int n, .int d] ∧ ∀ r, post_law_fraction [.int n, .int d] r → Q r) := ⟨⟨n, d, rfl, hd, hl⟩, fun r hr => by
  obtain ⟨n', d', a, b, e, rfl, hF⟩ := hr
  cases e
  exact h a b hF⟩

def w_law_fraction_2 : WS := (wRet (wTup (wCons (wBin dDiv (wName 0) (wName 2)) (wCons (wBin dDiv (wName 1) (wName 2)) wNil))))
def w_law_fraction_1 : WS := wSeq (wIfS (wTest (wBin dLt (wName 1) (wC (.int 0)))) (wAsg (wBin dSub (wC (.int 0)) (wName 2)) (wgName 2)) wNext) w_law_fraction_2
def w_law_fraction_0 : WS := wSeq (wAsg (wCall pre_law_common post_law_common (wCons (wName 0) (wCons (wName 1) wNil))) (wgName 2)) w_law_fraction_1

set_option exponentiation.threshold 20000 in
theorem body_law_fraction : ∀ ds, pre_law_fraction ds → w_law_fraction_0 { nx := fun _ => post_law_fraction ds .none, rt := post_law_fraction ds } (env0 ["n", "m", "g"] ds) := by
  intro ds h
  obtain ⟨n, d, rfl, hd, hl⟩ := h
  unfold w_law_fraction_0
  walk_at "dl"
  refine lcommon_iff ?_
  obtain ⟨hF, hg0, hgl⟩ := Frac.make (n := n) (d := d) hd rfl
  generalize ((Nat.gcd n.natAbs d.natAbs : Nat) : Int) = g at hF hg0 hgl ⊢
  unfold w_law_fraction_1 w_law_fraction_2
  walk_at "dl"
  split
  · next hlt =>
    rw [if_pos hlt] at hF
    have dv : divOk (-g) := divOk_of (b := 8001) (by omega) (lt_pow_of hl (by omega) (by decide)) (by decide) (by decide)
    rw [Int.zero_sub]
    exact ⟨dv, dv, n, d, _, _, rfl, rfl, hF⟩
  · next hlt =>
    rw [if_neg hlt] at hF
    have dv : divOk g := divOk_of (b := 8001) hg0 (lt_pow_of hl (by omega) (by decide)) (by decide) (by decide)
    exact ⟨dv, dv, n, d, _, _, rfl, rfl, hF⟩

theorem ok_law_fraction {P : Program} {w : World} {K : Fg} {mg : Str → Option Value} {base : Heap} {fa : Nat → Addr} {fdd : Nat → FuncData} {ca : Nat → Addr} (T : Txt K mg fa fdd ca) : FnOk P w K mg base CX0 2 (fa 129) (fdd 129) ["n", "m"] (SpD K pre_law_fraction post_law_fraction) := by
  have G128 : FnOk P w K mg base CX0 1 (fa 128) (fdd 128) ["a", "b"] (SpD K pre_law_common post_law_common) := ok_law_common T
  exact fn_ok T.F129 sc129 len_law_fraction (fun cdv A outer s H E hr => ⟨_, w_law_fraction_0, (dss_cons (ds_set (i := 2) sc129.nd (de_call G128 hr (by rfl) T.g128 T.F128.kp T.b128 pass0 (da_cons (de_name 0) (da_cons (de_name 1) da_nil))))
      (dss_cons (ds_if (dt_cmp op_lt sn2_lt (de_name 1) de_int) (dss_one (ds_set (i := 2) sc129.nd (de_op op_sub sn2_sub de_int (de_name 2)))) dss_nil)
      (dss_one (ds_ret (de_tup (da_cons (de_op op_divB sn2_div (de_name 0) (de_name 2)) (da_cons (de_op op_divB sn2_div (de_name 1) (de_name 2)) da_nil))))))), body_law_fraction⟩)
/-! ### _law_strip -/
def pre_law_strip : List D → Prop := fun ds => ∃ (f : Fld) (l : List f.C), ds = [f.enc, .list (l.map f.el)] ∧ l.length ≤ 100000
theorem len_law_strip (ds : List D) (h : pre_law_strip ds) : ds.length = ["f", "parts"].length := by obtain ⟨_, _, rfl, _⟩ := h; rfl
def post_law_strip : List D → D → Prop := fun ds r => ∀ (f : Fld) (l : List f.C), ds = [f.enc, .list (l.map f.el)] → r = (Dom.P f).el (Pol.of l)
theorem lstrip_iff (f : Fld) (l : List f.C) (hl : l.length ≤ 100000) {Q : D → Prop} (h : Q ((Dom.P f).el (Pol.of l))) : (pre_law_strip [f.enc, .list (l.map f.el)] ∧ ∀ r, post_law_strip [f.enc, .list (l.map f.el)] r → Q r) := ⟨⟨f, l, rfl, hl⟩, fun r hr => by
  rw [hr f l rfl]
  exact h⟩
def mu_law_strip (ρ : Rho) : Nat := match look ρ 2 with
  | .val (.int k) => k.toNat
  | _ => 0

def w_law_strip_2 : WS := (wRet (wB bTuple (wCons (wFree (wSlL (wName 1) wNoPart (wPart (wName 2)))) wNil)))
def w_law_strip_1_b : WS := (wAsg (wBin dSub (wName 2) (wC (.int 1))) (wgName 2))
def w_law_strip_1 : WS := wSeq (wWhile (wAnd (wTest (wBin dGt (wName 2) (wC (.int 0)))) (wTest (wBin dEq (wBin dIx (wName 1) (wBin dSub (wName 2) (wC (.int 1)))) (wCall pre_law_zero post_law_zero (wCons (wName 0) wNil))))) w_law_strip_1_b) w_law_strip_2
def w_law_strip_0 : WS := wSeq (wAsg (wB bLen (wCons (wName 1) wNil)) (wgName 2)) w_law_strip_1

theorem body_law_strip : ∀ ds, pre_law_strip ds → w_law_strip_0 { nx := fun _ => post_law_strip ds .none, rt := post_law_strip ds } (env0 ["f", "parts", "many"] ds) := by
  intro ds h
  obtain ⟨f, l, rfl, hl⟩ := h
  have fin : ∀ r, r = .tuple ((trim l).map f.el) → post_law_strip [f.enc, .list (l.map f.el)] r := fun r hr f' l' e => by
    simp only [List.cons.injEq, PyData.list.injEq, and_true] at e
    have e1 := Fld.enc_inj e.1
    subst e1
    have e2 := Fld.els_inj e.2
    subst e2
    exact hr
  unfold w_law_strip_0 w_law_strip_1
  walk_at "dl"
  rw [List.length_map]
  refine ⟨fun ρ => ∃ m : Nat, m ≤ l.length ∧ trim l = trim (l.take m) ∧ ρ = [.val f.enc, .val (.list (l.map f.el)), .val (.int m)], mu_law_strip, ⟨l.length, Nat.le_refl _, by rw [List.take_length], rfl⟩, ?_⟩
  rintro ρ ⟨m, hm, ht, rfl⟩
  walk_at "dl"
  have done : trim (l.take m) = l.take m → w_law_strip_2 { nx := fun _ => post_law_strip [f.enc, .list (l.map f.el)] .none, rt := post_law_strip [f.enc, .list (l.map f.el)] } [.val f.enc, .val (.list (l.map f.el)), .val (.int m)] := fun hd => by
    unfold w_law_strip_2
    walk_at "dl"
    rw [cutD_pre (by rw [List.length_map]; exact hm), ← List.map_take]
    exact fin _ (by rw [ht, hd])
  by_cases c : (0 : Int) < m
  · rw [if_pos c]
    obtain ⟨k, rfl⟩ : ∃ k, m = k + 1 := ⟨m - 1, by omega⟩
    have hk : k < l.length := by omega
    refine dIx_mem (by omega) (by rw [List.length_map]; omega) fun d hd => ?_
    have e : d = f.el (cf l k) := by
      rw [show (((k + 1 : Nat) : Int) - 1).toNat = k by omega, List.getElem?_map, List.getElem?_eq_getElem hk] at hd
      simp only [Option.map_some, Option.some.injEq] at hd
      rw [← hd, cf, List.getD_eq_getElem?_getD, List.getElem?_eq_getElem hk]
      rfl
    subst e
    refine lzero_iff_f f ?_
    rw [dEq_fel]
    walk_at "dl"
    split
    · next hz =>
      unfold w_law_strip_1_b
      walk_at "dl"
      refine ⟨⟨k, by omega, ht.trans (trim_take hz), by rw [show ((k + 1 : Nat) : Int) - 1 = (k : Nat) by omega]⟩, ?_⟩
      simp only [mu_law_strip, look]
      omega
    · next hz =>
      refine done (trim_full _ fun _ => ?_)
      rw [cf_take, List.length_take, Nat.min_eq_left hm, if_pos (by omega)]
      exact hz
  · rw [if_neg c]
    refine done ?_
    have : m = 0 := by omega
    subst this
    rfl

theorem ok_law_strip {P : Program} {w : World} {K : Fg} {mg : Str → Option Value} {base : Heap} {fa : Nat → Addr} {fdd : Nat → FuncData} {ca : Nat → Addr} (T : Txt K mg fa fdd ca) : FnOk P w K mg base CX0 2 (fa 131) (fdd 131) ["f", "parts"] (SpD K pre_law_strip post_law_strip) := by
  have G130 : FnOk P w K mg base CX0 1 (fa 130) (fdd 130) ["d"] (SpD K pre_law_zero post_law_zero) := ok_law_zero T
  exact fn_ok T.F131 sc131 len_law_strip (fun cdv A outer s H E hr => ⟨_, w_law_strip_0, (dss_cons (ds_set (i := 2) sc131.nd (de_callB call_len_seq snc_len (by rfl) T.m_len (by decide +kernel) (da_cons (de_name 1) da_nil)))
      (dss_cons (ds_while PassesOwn.never (DW.dt (dw_and (dt_cmp op_gt sn2_gt (de_name 2) de_int) (dw_and1 (dt_cmp (op_eqP hr.units) sn2_eq (de_ix ix_D sn2_ix (de_name 1) (de_op op_sub sn2_sub (de_name 2) de_int)) (de_call G130 hr (by rfl) T.g130 T.F130.kp T.b130 pass0 (da_cons (de_name 0) da_nil)))))) (dss_one (ds_set (i := 2) sc131.nd (de_op op_sub sn2_sub (de_name 2) de_int))))
      (dss_one (ds_ret (de_callTy call_tuple_of snc_tuple (by rfl) T.m_tuple (by decide +kernel) (da_cons (DF.de (df_slice (de_name 1) do_none (do_some (de_name 2)))) da_nil)))))), body_law_strip⟩)
/-! ### is_field -/
def pre_is_field : List D → Prop := fun ds => ∃ d : D, ds = [d] ∧ d.plain = true
theorem len_is_field (ds : List D) (h : pre_is_field ds) : ds.length = ["d"].length := by obtain ⟨a, rfl, _⟩ := h; rfl
def post_is_field : List D → D → Prop := fun ds r => ∃ (d : D) (b : Bool), ds = [d] ∧ r = .bool b ∧ (b = true ↔ IsFld d)
theorem is_field_iff (d : D) (hd : d.plain = true) {Q : D → Prop} (h : ∀ b : Bool, (b = true ↔ IsFld d) → Q (.bool b)) : (pre_is_field [d] ∧ ∀ r, post_is_field [d] r → Q r) := ⟨⟨d, rfl, hd⟩, fun r hr => by
  obtain ⟨y, b, e, rfl, hb⟩ := hr
  cases e
  exact h b hb⟩

def w_is_field_2 : WS := (wRet (wBin dEq (wName 0) (wTup (wCons (wC (.str (Str.ofString "Q"))) wNil))))
def w_is_field_1 : WS := wSeq (wIfS (wAnd (wTest (wBin dEq (wB bLen (wCons (wName 0) wNil)) (wC (.int 2)))) (wTest (wBin dEq (wBin dIx (wName 0) (wC (.int 0))) (wC (.str (Str.ofString "F")))))) (wRet (wAndV (wCall pre_is_whole post_is_whole (wCons (wBin dIx (wName 0) (wC (.int 1))) wNil)) (wAndV (wBin dLe (wBin dIx (wName 0) (wC (.int 1))) (wC (.int 65521))) (wCall pre_is_prime post_is_prime (wCons (wBin dIx (wName 0) (wC (.int 1))) wNil))))) wNext) w_is_field_2
def w_is_field_0 : WS := wSeq (wIfS (wNotT (wTruT (wIsi "tuple" (wName 0)))) (wRet (wC (.bool false))) wNext) w_is_field_1

theorem is_field_2 (l : List D) (hp : (PyData.tuple l).plain = true) (hn : ∀ b, l ≠ [.str tF, b]) : w_is_field_2 { nx := fun _ => post_is_field [.tuple l] .none, rt := post_is_field [.tuple l] } [.val (.tuple l)] := by
  unfold w_is_field_2
  walk_at "dl"
  refine dEq_strT hp fun b hb => ⟨_, b, rfl, rfl, hb.trans (isFld_Q fun c e => ?_).symm⟩
  simp only [PyData.tuple.injEq] at e
  exact hn c e
theorem body_is_field : ∀ ds, pre_is_field ds → w_is_field_0 { nx := fun _ => post_is_field ds .none, rt := post_is_field ds } (env0 ["d"] ds) := by
  intro ds h
  obtain ⟨d, rfl, hp⟩ := h
  have no : (∀ l, d ≠ .tuple l) → post_is_field [d] (.bool false) := fun hn => ⟨d, false, rfl, rfl, ⟨nofun, fun z => by
    obtain ⟨l, e⟩ := z.tup
    exact absurd e (hn l)⟩⟩
  unfold w_is_field_0
  cases d with
  | dict l => simp [PyData.plain] at hp
  | tuple l =>
    walk_at "dl"
    unfold w_is_field_1
    rcases l with _ | ⟨a, _ | ⟨b, _ | ⟨c, r⟩⟩⟩
    · walk_at "dl"
      exact is_field_2 [] hp nofun
    · walk_at "dl"
      exact is_field_2 [a] hp nofun
    · walk_at "dl"
      have ha := plain_tup hp (List.mem_cons_self ..)
      have hb := plain_tup (x := b) hp (by simp)
      rw [if_pos (by omega)]
      refine dEq_str ha fun k hk => ?_
      cases k with
      | false =>
        walk_at "dl"
        exact is_field_2 [a, b] hp fun c e => by
          simp only [List.cons.injEq] at e
          exact absurd (hk.mpr e.1) (by simp)
      | true =>
        have ea : a = .str tF := hk.mp rfl
        subst ea
        walk_at "dl"
        refine is_whole_iff b hb ?_
        have fin : ∀ k : Bool, (k = true ↔ ∃ n : Int, b = .int n ∧ n ≤ 65521 ∧ Prime n) → post_is_field [.tuple [.str tF, b]] (.bool k) := fun k hk => ⟨_, k, rfl, rfl, hk.trans isFld_F.symm⟩
        cases b with
        | int n =>
          simp only [isW]
          walk_at "dl"
          by_cases c : n ≤ 65521
          · simp only [c, decide_true]
            walk_at "dl"
            refine is_prime_iff' (by have e : (2 : Int) ^ 64 = 18446744073709551616 := by decide
                                     omega) fun k hk => fin k (hk.trans ⟨fun z => ⟨n, rfl, c, z⟩, fun ⟨m, e, _, hm⟩ => by cases e; exact hm⟩)
          · simp only [c, decide_false]
            walk_at "dl"
            exact fin false ⟨nofun, fun ⟨m, e, h, _⟩ => by cases e; exact absurd h c⟩
        | _ =>
          simp only [isW]
          walk_at "dl"
          exact fin false ⟨nofun, fun ⟨m, e, _⟩ => nomatch e⟩
    · walk_at "dl"
      rw [if_neg (by omega)]
      exact is_field_2 _ hp nofun
  | _ =>
    walk_at "dl"
    exact no nofun

theorem ok_is_field {P : Program} {w : World} {K : Fg} {mg : Str → Option Value} {base : Heap} {fa : Nat → Addr} {fdd : Nat → FuncData} {ca : Nat → Addr} (T : Txt K mg fa fdd ca) : FnOk P w K mg base CX0 3 (fa 20) (fdd 20) ["d"] (SpD K pre_is_field post_is_field) := by
  have G19 : FnOk P w K mg base CX0 1 (fa 19) (fdd 19) ["x"] (SpD K pre_is_whole post_is_whole) := ok_is_whole T
  have G1 : FnOk P w K mg base CX0 2 (fa 1) (fdd 1) ["n"] (SpD K pre_is_prime post_is_prime) := ok_is_prime T
  exact fn_ok T.F20 sc20 len_is_field (fun cdv A outer s H E hr => ⟨_, w_is_field_0, (dss_cons (ds_if (dt_not (dt_tru (de_isi (Tn := "tuple") (by rfl) T.m_isinstance (de_name 0) (by rfl) T.m_tuple (by decide +kernel)))) (dss_one (ds_ret de_bl)) dss_nil)
      (dss_cons (ds_if (DW.dt (dw_and (dt_cmp (op_eqP hr.units) sn2_eq (de_callB call_len_seq snc_len (by rfl) T.m_len (by decide +kernel) (da_cons (de_name 0) da_nil)) de_int) (dw_and1 (dt_cmp (op_eqP hr.units) sn2_eq (de_ix ix_D sn2_ix (de_name 0) de_int) de_str)))) (dss_one (ds_ret (de_and (de_call G19 (hr.mono (by decide)) (by rfl) T.g19 T.F19.kp T.b19 pass0 (da_cons (de_ix ix_D sn2_ix (de_name 0) de_int) da_nil)) (de_and (de_cmp op_le sn2_le (de_ix ix_D sn2_ix (de_name 0) de_int) (de_gint (by rfl) T.c_LARGEST_MODULUS.choose_spec ⟨_, rfl⟩)) (de_one (de_call G1 hr (by rfl) T.g1 T.F1.kp T.b1 pass0 (da_cons (de_ix ix_D sn2_ix (de_name 0) de_int) da_nil))))))) dss_nil)
      (dss_one (ds_ret (de_cmp (op_eqP hr.units) sn2_eq (de_name 0) (de_tup (da_cons de_str da_nil))))))), body_is_field⟩)
/-! ### _law_number, of a field or the integers -/
def pre_law_number_r0 : List D → Prop := fun ds => ∃ (d : Dom) (n : Int), ds = [d.enc, .int n] ∧ d.flat
theorem len_law_number_r0 (ds : List D) (h : pre_law_number_r0 ds) : ds.length = ["d", "n"].length := by obtain ⟨_, _, rfl, _⟩ := h; rfl
def post_law_number_r0 : List D → D → Prop := fun ds r => ∃ (d : Dom) (n : Int), ds = [d.enc, .int n] ∧ r = d.el (d.num n)
theorem lnumber_r0_iff (d : Dom) (n : Int) (hf : d.flat) {Q : D → Prop} (h : Q (d.el (d.num n))) : (pre_law_number_r0 [d.enc, .int n] ∧ ∀ r, post_law_number_r0 [d.enc, .int n] r → Q r) := ⟨⟨d, n, rfl, hf⟩, fun r hr => by
  obtain ⟨d', n', e, rfl⟩ := hr
  obtain ⟨rfl, rfl⟩ := dn_inj e
  exact h⟩

def w_law_number_r0_3 : WS := (wRet (wName 1))
def w_law_number_r0_2 : WS := wSeq (wIfS (wTest (wBin dEq (wBin dIx (wName 0) (wC (.int 0))) (wC (.str (Str.ofString "P"))))) (wRet (wCall pre_law_strip post_law_strip (wCons (wBin dIx (wName 0) (wC (.int 1))) (wCons (wLst (wCons (wCall pre_never post_never (wCons (wBin dIx (wName 0) (wC (.int 1))) (wCons (wName 1) wNil))) wNil)) wNil)))) wNext) w_law_number_r0_3
def w_law_number_r0_1 : WS := wSeq (wIfS (wTest (wBin dEq (wBin dIx (wName 0) (wC (.int 0))) (wC (.str (Str.ofString "F"))))) (wRet (wBin dMod (wB bInt (wCons (wName 1) wNil)) (wBin dIx (wName 0) (wC (.int 1))))) wNext) w_law_number_r0_2
def w_law_number_r0_0 : WS := wSeq (wIfS (wTest (wBin dEq (wBin dIx (wName 0) (wC (.int 0))) (wC (.str (Str.ofString "Q"))))) (wRet (wTup (wCons (wName 1) (wCons (wC (.int 1)) wNil)))) wNext) w_law_number_r0_1

theorem body_law_number_r0 : ∀ ds, pre_law_number_r0 ds → w_law_number_r0_0 { nx := fun _ => post_law_number_r0 ds .none, rt := post_law_number_r0 ds } (env0 ["d", "n"] ds) := by
  intro ds h
  obtain ⟨d, n, rfl, hf⟩ := h
  unfold w_law_number_r0_0 w_law_number_r0_1 w_law_number_r0_2 w_law_number_r0_3
  cases d with
  | Z =>
    simp only [Dom.enc]
    walk_at "dl"
    exact ⟨.Z, n, rfl, rfl⟩
  | K f =>
    cases f with
    | Q =>
      simp only [Dom.enc, Fld.enc]
      walk_at "dl"
      exact ⟨.K .Q, n, rfl, rfl⟩
    | F m =>
      simp only [Dom.enc, Fld.enc]
      walk_at "dl"
      exact ⟨by omega, .K (.F m), n, rfl, (Fld.el_num_F m n).symm⟩
  | P f => exact hf.elim

theorem ok_law_number_r0 {P : Program} {w : World} {K : Fg} {mg : Str → Option Value} {base : Heap} {fa : Nat → Addr} {fdd : Nat → FuncData} {ca : Nat → Addr} (T : Txt K mg fa fdd ca) : FnOk P w K mg base CX0 3 (fa 132) (fdd 132) ["d", "n"] (SpD K pre_law_number_r0 post_law_number_r0) := by
  have G131 : FnOk P w K mg base CX0 2 (fa 131) (fdd 131) ["f", "parts"] (SpD K pre_law_strip post_law_strip) := ok_law_strip T
  have G132 : FnOk P w K mg base CX0 0 (fa 132) (fdd 132) ["d", "n"] (SpD K pre_never post_never) := fn_never
  exact fn_ok T.F132 sc132 len_law_number_r0 (fun cdv A outer s H E hr => ⟨_, w_law_number_r0_0, (dss_cons (ds_if (dt_cmp (op_eqP hr.units) sn2_eq (de_ix ix_D sn2_ix (de_name 0) de_int) de_str) (dss_one (ds_ret (de_tup (da_cons (de_name 1) (da_cons de_int da_nil))))) dss_nil)
      (dss_cons (ds_if (dt_cmp (op_eqP hr.units) sn2_eq (de_ix ix_D sn2_ix (de_name 0) de_int) de_str) (dss_one (ds_ret (de_op op_modN sn2_mod (de_callTy call_int1 snc_int (by rfl) T.m_int (by decide +kernel) (da_cons (de_name 1) da_nil)) (de_ix ix_D sn2_ix (de_name 0) de_int)))) dss_nil)
      (dss_cons (ds_if (dt_cmp (op_eqP hr.units) sn2_eq (de_ix ix_D sn2_ix (de_name 0) de_int) de_str) (dss_one (ds_ret (de_call G131 hr (by rfl) T.g131 T.F131.kp T.b131 pass0 (da_cons (de_ix ix_D sn2_ix (de_name 0) de_int) (da_cons (de_lst (da_cons (de_call G132 (hr.mono (by decide)) (by rfl) T.g132 T.F132.kp T.b132 pass0 (da_cons (de_ix ix_D sn2_ix (de_name 0) de_int) (da_cons (de_name 1) da_nil))) da_nil)) da_nil))))) dss_nil)
      (dss_one (ds_ret (de_name 1)))))), body_law_number_r0⟩)
/-! ### _law_some_prime -/
def pre_law_some_prime : List D → Prop := fun ds => ds = [.dict []]
theorem len_law_some_prime (ds : List D) (h : pre_law_some_prime ds) : ds.length = ["c"].length := by rw [h]; rfl
def post_law_some_prime : List D → D → Prop := fun ds r => ∃ n : Nat, r = .int ((n + 2 : Nat) : Int) ∧ Prime ((n + 2 : Nat) : Int) ∧ n + 2 ≤ 65521
theorem some_prime_iff {Q : D → Prop} (h : ∀ n : Nat, Prime ((n + 2 : Nat) : Int) → n + 2 ≤ 65521 → Q (.int ((n + 2 : Nat) : Int))) : (pre_law_some_prime [.dict []] ∧ ∀ r, post_law_some_prime [.dict []] r → Q r) := ⟨rfl, fun r ⟨n, e, h1, h2⟩ => e ▸ h n h1 h2⟩
def mu_law_some_prime (ρ : Rho) : Nat := match look ρ 1 with
  | .val (.int k) => 70000 - k.toNat
  | _ => 0

def w_law_some_prime_2 : WS := (wRet (wName 1))
def w_law_some_prime_1_b : WS := (wAsg (wBin dAdd (wName 1) (wC (.int 1))) (wgName 1))
def w_law_some_prime_1 : WS := wSeq (wWhile (wTruT (wB bAny (wCons (wFree (wComp (wiR2 (wCons (wC (.int 2)) (wCons (wC (.int 257)) wNil))) 2 (wTest (wBin dLe (wBin dMul (wName 2) (wName 2)) (wName 1))) (wBin dEq (wBin dMod (wB bInt (wCons (wName 1) wNil)) (wName 2)) (wC (.int 0))))) wNil))) w_law_some_prime_1_b) w_law_some_prime_2
def w_law_some_prime_0 : WS := wSeq (wAsg (wBin dAdd (wC (.int 2)) (wCall pre_law_take post_law_take (wCons (wName 0) (wCons (wC (.int 65520)) wNil)))) (wgName 1)) w_law_some_prime_1

theorem body_law_some_prime : ∀ ds, pre_law_some_prime ds → w_law_some_prime_0 { nx := fun _ => post_law_some_prime ds .none, rt := post_law_some_prime ds } (env0 ["c", "p", "k"] ds) := by
  intro ds h
  subst h
  unfold w_law_some_prime_0
  walk_at "dl"
  rw [take_iff]
  refine ⟨⟨by decide, by decide⟩, fun r r0 r1 => ?_⟩
  walk_at "dl"
  unfold w_law_some_prime_1
  walk_at "dl"
  refine ⟨fun ρ => ∃ (n : Nat) (s : Slot), n + 2 ≤ 65521 ∧ ρ = [.val (.dict []), .val (.int ((n + 2 : Nat) : Int)), s], mu_law_some_prime, ⟨r.toNat, .un, by omega, by rw [show 2 + r = ((r.toNat + 2 : Nat) : Int) by omega]⟩, ?_⟩
  rintro ρ ⟨n, s, hn, rfl⟩
  walk_at "dl"
  refine ⟨⟨by decide, by decide⟩, ⟨by decide, by decide⟩, ?_⟩
  refine wCompF_of (fun j : Nat => decide ((2 + (j : Int)) * (2 + (j : Int)) ≤ ((n + 2 : Nat) : Int))) (fun j : Nat => .bool (decide ((((n + 2 : Nat) : Int)).fmod (2 + (j : Int)) = 0))) (by decide) (fun j Q hj hQ => ?_) (fun j Q hj hc hQ => ?_) ?_
  · walk_at "dl"
    exact ⟨.inl (.inr ⟨by omega, by omega⟩), hQ⟩
  · walk_at "dl"
    exact ⟨by omega, hQ⟩
  · walk_at "dl"
    unfold bAny
    refine ⟨_, bools_map _ _, ?_⟩
    walk_at "dl"
    split
    · next hb =>
      obtain ⟨x, hx, hx2⟩ := List.any_eq_true.mp hb
      obtain ⟨k, hk, rfl⟩ := List.mem_map.mp hx
      obtain ⟨hk1, hk2⟩ := List.mem_filter.mp hk
      have hk2 : (2 + (k : Int)) * (2 + (k : Int)) ≤ ((n + 2 : Nat) : Int) := of_decide_eq_true hk2
      have hx2 : (((n + 2 : Nat) : Int)).fmod (2 + (k : Int)) = 0 := of_decide_eq_true hx2
      have dv : (2 + (k : Int)) ∣ ((n + 2 : Nat) : Int) := by
        rw [Int.fmod_eq_emod_of_nonneg _ (by omega)] at hx2
        exact Int.dvd_of_emod_eq_zero hx2
      have ne : n + 2 ≠ 65521 := fun e => by
        rw [e] at dv hk2
        exact prime_65521.2 _ (by omega) hk2 dv
      unfold w_law_some_prime_1_b
      walk_at "dl"
      refine ⟨⟨n + 1, _, by omega, by rw [show ((n + 2 : Nat) : Int) + 1 = ((n + 1 + 2 : Nat) : Int) by omega]⟩, ?_⟩
      simp only [mu_law_some_prime, look]
      omega
    · next hb =>
      unfold w_law_some_prime_2
      walk_at "dl"
      refine ⟨n, rfl, ⟨by omega, fun d d2 dd dv => ?_⟩, hn⟩
      have lt : d < 257 := by
        apply Int.lt_of_not_ge
        intro z
        have := Int.mul_le_mul z z (by decide) (by omega)
        omega
      have hmem : decide ((((n + 2 : Nat) : Int)).fmod (2 + ((d.toNat - 2 : Nat) : Int)) = 0) ∈ (List.map (fun k : Nat => decide ((((n + 2 : Nat) : Int)).fmod (2 + (k : Int)) = 0)) (List.filter (fun j : Nat => decide ((2 + (j : Int)) * (2 + (j : Int)) ≤ ((n + 2 : Nat) : Int))) (List.range (257 - 2 : Int).toNat))) := by
        refine List.mem_map.mpr ⟨d.toNat - 2, List.mem_filter.mpr ⟨List.mem_range.mpr (by omega), ?_⟩, rfl⟩
        rw [show 2 + ((d.toNat - 2 : Nat) : Int) = d by omega]
        exact decide_eq_true dd
      have := List.any_eq_false.mp (Bool.eq_false_iff.mpr hb) _ hmem
      rw [show 2 + ((d.toNat - 2 : Nat) : Int) = d by omega, Int.fmod_eq_emod_of_nonneg _ (by omega)] at this
      exact this (decide_eq_true (Int.emod_eq_zero_of_dvd dv))

theorem ok_law_some_prime {P : Program} {w : World} {K : Fg} {mg : Str → Option Value} {base : Heap} {fa : Nat → Addr} {fdd : Nat → FuncData} {ca : Nat → Addr} (T : Txt K mg fa fdd ca) : FnOk P w K mg base CX0 3 (fa 139) (fdd 139) ["c"] (SpD K pre_law_some_prime post_law_some_prime) := by
  have G126 : FnOk P w K mg base CX0 2 (fa 126) (fdd 126) ["c", "many"] (SpD K pre_law_take post_law_take) := ok_law_take T
  exact fn_ok T.F139 sc139 len_law_some_prime (fun cdv A outer s H E hr => ⟨_, w_law_some_prime_0, (dss_cons (ds_set (i := 1) sc139.nd (de_op op_addD sn2_add de_int (de_call G126 hr (by rfl) T.g126 T.F126.kp T.b126 pass0 (da_cons (de_name 0) (da_cons de_int da_nil)))))
      (dss_cons (ds_while PassesOwn.never (dt_tru (de_callB (cr_any rfl) snc_any (by rfl) T.m_any (by decide +kernel) (da_cons (DF.de (df_comp (x := "k") (i := 2) rfl sc139.nd (di_rng2 (by rfl) T.m_range (da_cons de_int (da_cons de_int da_nil))) (by first | exact (blkOk_by (own := [("k", 2)]) (N := ["c", "p", "k"]) (sc := defScope s139) (by decide +kernel)) | (refine blkOk_by ?_; dsimp only [Cx.blk, Cx.nox, Cx.wish, Cx.tr, cxOf, envOfC, compEnvC, relab]; decide +kernel)) (fun _ _ _ _ _ => pg_name (i := 2) sc139.nd rfl (by first | exact Or.inl rfl | exact Or.inr rfl)) (fun _ _ _ _ _ => ⟨_, (dts_one (dt_cmp op_le sn2_le (de_op op_mulD sn2_mul (de_name 2) (de_name 2)) (de_name 1))), by first | (dsimp only [Cx.blk]; rfl) | dsimp only [Cx.blk] | rfl⟩) (fun _ _ _ _ _ => ⟨_, (de_cmp (op_eqP hr.units) sn2_eq (de_op op_modN sn2_mod (de_callTy call_int1 snc_int (by rfl) T.m_int (by decide +kernel) (da_cons (de_name 1) da_nil)) (de_name 2)) de_int), by first | (dsimp only [Cx.blk]; rfl) | dsimp only [Cx.blk] | rfl⟩))) da_nil))) (dss_one (ds_set (i := 1) sc139.nd (de_op op_addD sn2_add (de_name 1) de_int))))
      (dss_one (ds_ret (de_name 1))))), body_law_some_prime⟩)
/-! ### _law_small, of a field or the integers -/
def pre_law_small_r0 : List D → Prop := fun ds => ∃ d : Dom, ds = [.dict [], d.enc] ∧ d.flat
theorem len_law_small_r0 (ds : List D) (h : pre_law_small_r0 ds) : ds.length = ["c", "d"].length := by obtain ⟨_, rfl, _⟩ := h; rfl
def post_law_small_r0 : List D → D → Prop := fun ds r => ∃ (d : Dom) (x : d.C), ds = [.dict [], d.enc] ∧ r = d.el x ∧ d.Sz 6 50 1 x
theorem cd_inj {d d' : Dom} {a b : D} (h : [a, d.enc] = [b, d'.enc]) : d = d' := by
  simp only [List.cons.injEq, and_true] at h
  exact Dom.enc_inj h.2
theorem lsmall_r0_iff (d : Dom) (hf : d.flat) {Q : D → Prop} (h : ∀ x : d.C, d.Sz 6 50 1 x → Q (d.el x)) : (pre_law_small_r0 [.dict [], d.enc] ∧ ∀ r, post_law_small_r0 [.dict [], d.enc] r → Q r) := ⟨⟨d, rfl, hf⟩, fun r hr => by
  obtain ⟨d', x, e, rfl, hx⟩ := hr
  have e := cd_inj e
  subst e
  exact h x hx⟩

def w_law_small_r0_3 : WS := (wRet (wBin dIx (wLst (wCons (wBin dSub (wCall pre_law_take post_law_take (wCons (wName 0) (wCons (wC (.int 9)) wNil))) (wC (.int 4))) (wCons (wC (.int 0)) (wCons (wC (.int 0)) (wCons (wC (.int 1)) (wCons (wBin dSub (wCall pre_law_take post_law_take (wCons (wName 0) (wCons (wC (.int 99)) wNil))) (wC (.int 49))) wNil)))))) (wCall pre_law_take post_law_take (wCons (wName 0) (wCons (wC (.int 5)) wNil)))))
def w_law_small_r0_2 : WS := wSeq (wIfS (wTest (wBin dEq (wBin dIx (wName 1) (wC (.int 0))) (wC (.str (Str.ofString "P"))))) (wRet (wCall pre_law_strip post_law_strip (wCons (wBin dIx (wName 1) (wC (.int 1))) (wCons (wFree (wComp (wiR1 (wCons (wCall pre_law_take post_law_take (wCons (wName 0) (wCons (wC (.int 3)) wNil))) wNil)) 2 wYes (wCall pre_never post_never (wCons (wName 0) (wCons (wBin dIx (wName 1) (wC (.int 1))) wNil))))) wNil)))) wNext) w_law_small_r0_3
def w_law_small_r0_1 : WS := wSeq (wIfS (wTest (wBin dEq (wBin dIx (wName 1) (wC (.int 0))) (wC (.str (Str.ofString "Q"))))) (wRet (wCall pre_law_fraction post_law_fraction (wCons (wBin dSub (wCall pre_law_take post_law_take (wCons (wName 0) (wCons (wC (.int 9)) wNil))) (wC (.int 4))) (wCons (wBin dAdd (wC (.int 1)) (wCall pre_law_take post_law_take (wCons (wName 0) (wCons (wC (.int 3)) wNil)))) wNil)))) wNext) w_law_small_r0_2
def w_law_small_r0_0 : WS := wSeq (wIfS (wTest (wBin dEq (wBin dIx (wName 1) (wC (.int 0))) (wC (.str (Str.ofString "F"))))) (wRet (wBin dMod (wB bInt (wCons (wCall pre_law_take post_law_take (wCons (wName 0) (wCons (wC (.int 65536)) wNil))) wNil)) (wBin dIx (wName 1) (wC (.int 1))))) wNext) w_law_small_r0_1

theorem body_law_small_r0 : ∀ ds, pre_law_small_r0 ds → w_law_small_r0_0 { nx := fun _ => post_law_small_r0 ds .none, rt := post_law_small_r0 ds } (env0 ["c", "d", "k"] ds) := by
  intro ds h
  obtain ⟨d, rfl, hf⟩ := h
  unfold w_law_small_r0_0
  cases d with
  | P f => exact hf.elim
  | K f => cases f with
    | F n =>
      simp only [Dom.enc, Fld.enc]
      walk_at "dl"
      rw [take_iff]
      refine ⟨⟨by decide, by decide⟩, fun r r0 r1 => ?_⟩
      walk_at "dl"
      exact ⟨by omega, .K (.F n), (Fld.F n).num r, rfl, (Fld.el_num_F n r).symm, trivial⟩
    | Q =>
      simp only [Dom.enc, Fld.enc]
      walk_at "dl"
      unfold w_law_small_r0_1
      walk_at "dl"
      rw [take_iff]
      refine ⟨⟨by decide, by decide⟩, fun r r0 r1 => ?_⟩
      walk_at "dl"
      rw [take_iff]
      refine ⟨⟨by decide, by decide⟩, fun s s0 s1 => ?_⟩
      walk_at "dl"
      refine lfraction_iff (by omega) (Nat.lt_of_lt_of_le (show (1 + s).natAbs < 2 ^ 8 by omega) (Nat.pow_le_pow_right (by decide) (by decide))) fun a b hF => ?_
      obtain ⟨x, ex, hx⟩ := frac_el hF (by omega)
      rw [ex]
      refine ⟨.K .Q, x, rfl, rfl, ?_⟩
      have hs : s = 0 ∨ s = 1 ∨ s = 2 := by omega
      rcases hs with rfl | rfl | rfl
      · exact In_of hx (k := 6) (by decide) (by omega)
      · exact In_of hx (k := 3) (by decide) (by omega)
      · exact In_of hx (k := 2) (by decide) (by omega)
  | Z =>
    simp only [Dom.enc]
    walk_at "dl"
    unfold w_law_small_r0_1
    walk_at "dl"
    unfold w_law_small_r0_2
    walk_at "dl"
    unfold w_law_small_r0_3
    walk_at "dl"
    rw [take_iff]
    refine ⟨⟨by decide, by decide⟩, fun r r0 r1 => ?_⟩
    walk_at "dl"
    rw [take_iff]
    refine ⟨⟨by decide, by decide⟩, fun s s0 s1 => ?_⟩
    walk_at "dl"
    rw [take_iff]
    refine ⟨⟨by decide, by decide⟩, fun k k0 k1 => ?_⟩
    refine dIx_mem k0 (by exact k1) fun d hd => ?_
    have hn : ∃ n : Int, d = .int n ∧ n.natAbs ≤ 50 := by
      have := List.mem_of_getElem? hd
      simp only [List.mem_cons, List.not_mem_nil, or_false] at this
      rcases this with h | h | h | h | h <;> exact ⟨_, h, by omega⟩
    obtain ⟨n, rfl, hn⟩ := hn
    exact ⟨.Z, n, rfl, rfl, hn⟩

theorem ok_law_small_r0 {P : Program} {w : World} {K : Fg} {mg : Str → Option Value} {base : Heap} {fa : Nat → Addr} {fdd : Nat → FuncData} {ca : Nat → Addr} (T : Txt K mg fa fdd ca) : FnOk P w K mg base CX0 3 (fa 144) (fdd 144) ["c", "d"] (SpD K pre_law_small_r0 post_law_small_r0) := by
  have G129 : FnOk P w K mg base CX0 2 (fa 129) (fdd 129) ["n", "m"] (SpD K pre_law_fraction post_law_fraction) := ok_law_fraction T
  have G131 : FnOk P w K mg base CX0 2 (fa 131) (fdd 131) ["f", "parts"] (SpD K pre_law_strip post_law_strip) := ok_law_strip T
  have G126 : FnOk P w K mg base CX0 2 (fa 126) (fdd 126) ["c", "many"] (SpD K pre_law_take post_law_take) := ok_law_take T
  have G144 : FnOk P w K mg base CX0 0 (fa 144) (fdd 144) ["c", "d"] (SpD K pre_never post_never) := fn_never
  exact fn_ok T.F144 sc144 len_law_small_r0 (fun cdv A outer s H E hr => ⟨_, w_law_small_r0_0, (dss_cons (ds_if (dt_cmp (op_eqP hr.units) sn2_eq (de_ix ix_D sn2_ix (de_name 1) de_int) de_str) (dss_one (ds_ret (de_op op_modN sn2_mod (de_callTy call_int1 snc_int (by rfl) T.m_int (by decide +kernel) (da_cons (de_call G126 hr (by rfl) T.g126 T.F126.kp T.b126 pass0 (da_cons (de_name 0) (da_cons de_int da_nil))) da_nil)) (de_ix ix_D sn2_ix (de_name 1) de_int)))) dss_nil)
      (dss_cons (ds_if (dt_cmp (op_eqP hr.units) sn2_eq (de_ix ix_D sn2_ix (de_name 1) de_int) de_str) (dss_one (ds_ret (de_call G129 hr (by rfl) T.g129 T.F129.kp T.b129 pass0 (da_cons (de_op op_sub sn2_sub (de_call G126 hr (by rfl) T.g126 T.F126.kp T.b126 pass0 (da_cons (de_name 0) (da_cons de_int da_nil))) de_int) (da_cons (de_op op_addD sn2_add de_int (de_call G126 hr (by rfl) T.g126 T.F126.kp T.b126 pass0 (da_cons (de_name 0) (da_cons de_int da_nil)))) da_nil))))) dss_nil)
      (dss_cons (ds_if (dt_cmp (op_eqP hr.units) sn2_eq (de_ix ix_D sn2_ix (de_name 1) de_int) de_str) (dss_one (ds_ret (de_call G131 hr (by rfl) T.g131 T.F131.kp T.b131 pass0 (da_cons (de_ix ix_D sn2_ix (de_name 1) de_int) (da_cons (DF.de (df_comp (x := "k") (i := 2) rfl sc144.nd (di_rng1 (by rfl) T.m_range (da_cons (de_call G126 hr (by rfl) T.g126 T.F126.kp T.b126 pass0 (da_cons (de_name 0) (da_cons de_int da_nil))) da_nil)) (by first | exact (blkOk_by (own := [("k", 2)]) (N := ["c", "d", "k"]) (sc := defScope s144) (by decide +kernel)) | (refine blkOk_by ?_; dsimp only [Cx.blk, Cx.nox, Cx.wish, Cx.tr, cxOf, envOfC, compEnvC, relab]; decide +kernel)) (fun _ _ _ _ _ => pg_name (i := 2) sc144.nd rfl (by first | exact Or.inl rfl | exact Or.inr rfl)) (fun _ _ _ _ _ => ⟨_, dts_nil, by first | (dsimp only [Cx.blk]; rfl) | dsimp only [Cx.blk] | rfl⟩) (fun _ _ _ _ _ => ⟨_, (de_call G144 (hr.mono (by decide)) (by rfl) T.g144 T.F144.kp T.b144 pass0 (da_cons (de_name 0) (da_cons (de_ix ix_D sn2_ix (de_name 1) de_int) da_nil))), by first | (dsimp only [Cx.blk]; rfl) | dsimp only [Cx.blk] | rfl⟩))) da_nil))))) dss_nil)
      (dss_one (ds_ret (de_ix ix_D sn2_ix (de_lst (da_cons (de_op op_sub sn2_sub (de_call G126 hr (by rfl) T.g126 T.F126.kp T.b126 pass0 (da_cons (de_name 0) (da_cons de_int da_nil))) de_int) (da_cons de_int (da_cons de_int (da_cons de_int (da_cons (de_op op_sub sn2_sub (de_call G126 hr (by rfl) T.g126 T.F126.kp T.b126 pass0 (da_cons (de_name 0) (da_cons de_int da_nil))) de_int) da_nil)))))) (de_call G126 hr (by rfl) T.g126 T.F126.kp T.b126 pass0 (da_cons (de_name 0) (da_cons de_int da_nil))))))))), body_law_small_r0⟩)
/-! ### _law_no_domain -/
def pre_law_no_domain : List D → Prop := fun ds => ds = [.dict []]
theorem len_law_no_domain (ds : List D) (h : pre_law_no_domain ds) : ds.length = ["c"].length := by rw [h]; rfl
def post_law_no_domain : List D → D → Prop := fun ds r => r.plain = true ∧ ¬ IsDom r
theorem lno_domain_iff {Q : D → Prop} (h : ∀ d : D, d.plain = true → ¬ IsDom d → Q d) : (pre_law_no_domain [.dict []] ∧ ∀ r, post_law_no_domain [.dict []] r → Q r) := ⟨rfl, fun r hr => h r hr.1 hr.2⟩

def w_law_no_domain_2 : WS := (wRet (wBin dIx (wName 1) (wCall pre_law_take post_law_take (wCons (wName 0) (wCons (wB bLen (wCons (wName 1) wNil)) wNil)))))
def w_law_no_domain_1 : WS := wSeq (wAsg (wBin dAdd (wName 1) (wLst (wCons (wTup (wCons (wC (.str (Str.ofString "Z"))) (wCons (wC (.int 1)) wNil))) (wCons (wTup (wCons (wC (.str (Str.ofString "Q"))) (wCons (wC (.int 1)) wNil))) (wCons (wTup (wCons (wC (.str (Str.ofString "P"))) wNil)) (wCons (wTup (wCons (wC (.str (Str.ofString "P"))) (wCons (wTup (wCons (wC (.str (Str.ofString "Z"))) wNil)) wNil))) (wCons (wTup (wCons (wC (.str (Str.ofString "P"))) (wCons (wTup (wCons (wC (.str (Str.ofString "P"))) (wCons (wTup (wCons (wC (.str (Str.ofString "Q"))) wNil)) wNil))) wNil))) (wCons (wTup (wCons (wC (.str (Str.ofString "P"))) (wCons (wTup (wCons (wC (.str (Str.ofString "F"))) (wCons (wC (.int 9)) wNil))) wNil))) (wCons (wC (.str (Str.ofString "Z"))) (wCons (wC .none) (wCons (wC (.int 7)) (wCons (wC (.bool true)) (wCons (wC (.str (Str.ofString "ZZ"))) wNil))))))))))))) (wgName 1)) w_law_no_domain_2
def w_law_no_domain_0 : WS := wSeq (wAsg (wLst (wCons (wTup (wCons (wC (.str (Str.ofString "R"))) wNil)) (wCons (wTup (wCons (wC (.str (Str.ofString "F"))) (wCons (wC (.int 4)) wNil))) (wCons (wTup (wCons (wC (.str (Str.ofString "F"))) (wCons (wC (.int 1)) wNil))) (wCons (wTup (wCons (wC (.str (Str.ofString "F"))) (wCons (wC (.int 0)) wNil))) (wCons (wTup (wCons (wC (.str (Str.ofString "F"))) (wCons (wC (.int 65537)) wNil))) (wCons (wTup (wCons (wC (.str (Str.ofString "F"))) (wCons (wC (.int 561)) wNil))) (wCons (wTup (wCons (wC (.str (Str.ofString "F"))) (wCons (wBin dSub (wC (.int 0)) (wC (.int 3))) wNil))) (wCons (wTup (wCons (wC (.str (Str.ofString "F"))) wNil)) (wCons (wTup (wCons (wC (.str (Str.ofString "F"))) (wCons (wC (.bool true)) wNil))) (wCons (wTup (wCons (wC (.str (Str.ofString "F"))) (wCons (wC (.str (Str.ofString "2"))) wNil))) (wCons (wTup wNil) wNil)))))))))))) (wgName 1)) w_law_no_domain_1

theorem body_law_no_domain : ∀ ds, pre_law_no_domain ds → w_law_no_domain_0 { nx := fun _ => post_law_no_domain ds .none, rt := post_law_no_domain ds } (env0 ["c", "rows"] ds) := by
  intro ds h
  subst h
  have fin : ∀ L : List D, L.all badB = true → L.length = 22 → w_law_no_domain_2 { nx := fun _ => post_law_no_domain [.dict []] .none, rt := post_law_no_domain [.dict []] } [.val (.dict []), .val (.list L)] := fun L hL hl => by
    unfold w_law_no_domain_2
    walk_at "dl"
    rw [hl, show (((22 : Nat) : Int)) = 22 from rfl, take_iff]
    refine ⟨by decide, fun k k0 k1 => ?_⟩
    refine dIx_mem k0 (by rw [hl]; exact k1) fun e he => ?_
    exact badB_of (List.all_eq_true.mp hL e (List.mem_of_getElem? he))
  unfold w_law_no_domain_0
  walk_at "dl"
  unfold w_law_no_domain_1
  walk_at "dl"
  exact fin _ (by decide +kernel) rfl

theorem ok_law_no_domain {P : Program} {w : World} {K : Fg} {mg : Str → Option Value} {base : Heap} {fa : Nat → Addr} {fdd : Nat → FuncData} {ca : Nat → Addr} (T : Txt K mg fa fdd ca) : FnOk P w K mg base CX0 3 (fa 155) (fdd 155) ["c"] (SpD K pre_law_no_domain post_law_no_domain) := by
  have G126 : FnOk P w K mg base CX0 2 (fa 126) (fdd 126) ["c", "many"] (SpD K pre_law_take post_law_take) := ok_law_take T
  exact fn_ok T.F155 sc155 len_law_no_domain (fun cdv A outer s H E hr => ⟨_, w_law_no_domain_0, (dss_cons (ds_set (i := 1) sc155.nd (de_lst (da_cons (de_tup (da_cons de_str da_nil)) (da_cons (de_tup (da_cons de_str (da_cons de_int da_nil))) (da_cons (de_tup (da_cons de_str (da_cons de_int da_nil))) (da_cons (de_tup (da_cons de_str (da_cons de_int da_nil))) (da_cons (de_tup (da_cons de_str (da_cons de_int da_nil))) (da_cons (de_tup (da_cons de_str (da_cons de_int da_nil))) (da_cons (de_tup (da_cons de_str (da_cons (de_op op_sub sn2_sub de_int de_int) da_nil))) (da_cons (de_tup (da_cons de_str da_nil)) (da_cons (de_tup (da_cons de_str (da_cons de_bl da_nil))) (da_cons (de_tup (da_cons de_str (da_cons de_str da_nil))) (da_cons (de_tup da_nil) da_nil)))))))))))))
      (dss_cons (ds_set (i := 1) sc155.nd (de_op op_addD sn2_add (de_name 1) (de_lst (da_cons (de_tup (da_cons de_str (da_cons de_int da_nil))) (da_cons (de_tup (da_cons de_str (da_cons de_int da_nil))) (da_cons (de_tup (da_cons de_str da_nil)) (da_cons (de_tup (da_cons de_str (da_cons (de_tup (da_cons de_str da_nil)) da_nil))) (da_cons (de_tup (da_cons de_str (da_cons (de_tup (da_cons de_str (da_cons (de_tup (da_cons de_str da_nil)) da_nil))) da_nil))) (da_cons (de_tup (da_cons de_str (da_cons (de_tup (da_cons de_str (da_cons de_int da_nil))) da_nil))) (da_cons de_str (da_cons de_non (da_cons de_int (da_cons de_bl (da_cons de_str da_nil))))))))))))))
      (dss_one (ds_ret (de_ix ix_D sn2_ix (de_name 1) (de_call G126 hr (by rfl) T.g126 T.F126.kp T.b126 pass0 (da_cons (de_name 0) (da_cons (de_callB call_len_seq snc_len (by rfl) T.m_len (by decide +kernel) (da_cons (de_name 1) da_nil)) da_nil)))))))), body_law_no_domain⟩)
/-! ### need_field, raising -/
def pre_need_field_x : List D → Prop := fun ds => ∃ d : D, ds = [d] ∧ d.plain = true
theorem len_need_field_x (ds : List D) (h : pre_need_field_x ds) : ds.length = ["f"].length := by obtain ⟨a, rfl, _⟩ := h; rfl
def post_need_field_x : List D → D → Prop := fun ds r => ∃ d : D, ds = [d] ∧ IsFld d
def exn_need_field_x : List D → Nat → Prop := fun ds c => c = 1 ∧ ∃ d : D, ds = [d] ∧ ¬ IsFld d
theorem need_field_x_iff (d : D) (hd : d.plain = true) {Q : D → Prop} {E : Nat → Prop} (h1 : IsFld d → ∀ r, Q r) (h2 : ¬ IsFld d → E 1) : (pre_need_field_x [d] ∧ (∀ r, post_need_field_x [d] r → Q r) ∧ ∀ c, exn_need_field_x [d] c → E c) := ⟨⟨d, rfl, hd⟩, fun r ⟨d', e, h⟩ => by cases e; exact h1 h r, fun c ⟨e1, d', e, h⟩ => by cases e; rw [e1]; exact h2 h⟩

def w_need_field_x_0 : WSX := (xIf (wNotT (wTruT (wCall pre_is_field post_is_field (wCons (wName 0) wNil)))) (xRaise 1) xNext)

theorem body_need_field_x : ∀ ds, pre_need_field_x ds → w_need_field_x_0 { nx := fun _ => post_need_field_x ds .none, rt := post_need_field_x ds } (fun c _ => exn_need_field_x ds c) (env0 ["f"] ds) := by
  intro ds h
  obtain ⟨d, rfl, hp⟩ := h
  unfold w_need_field_x_0
  walk_at "dl"
  refine is_field_iff d hp fun b hb => ?_
  cases b with
  | false =>
    walk_at "dl"
    exact ⟨rfl, d, rfl, fun z => absurd (hb.mpr z) (by simp)⟩
  | true =>
    walk_at "dl"
    exact ⟨d, rfl, hb.mp rfl⟩

theorem ok_need_field_x {P : Program} {w : World} {K : Fg} {mg : Str → Option Value} {base : Heap} {fa : Nat → Addr} {fdd : Nat → FuncData} {ca : Nat → Addr} (T : Txt K mg fa fdd ca) : FnOk P w K mg base (L2.CX P w) 4 (fa 24) (fdd 24) ["f"] (SpX K ca pre_need_field_x post_need_field_x exn_need_field_x) := by
  have G20 : FnOk P w K mg base CX0 3 (fa 20) (fdd 20) ["d"] (SpD K pre_is_field post_is_field) := ok_is_field T
  exact fnx_ok T.F24 sc24 len_need_field_x (fun cdv A outer s H E hr => ⟨_, w_need_field_x_0, (dssx_one (dsx_if (dt_not (dt_tru (de_call G20 hr (by rfl) T.g20 T.F20.kp T.b20 pass0 (da_cons (de_name 0) da_nil)))) (dssx_one (dsx_raise (n := 1) rfl (takes_of rfl rfl rfl rfl) T.xi1 T.x1 T.cf1.kp T.cf1.ec.hs T.cf1.ty (by rfl))) dssx_nil)), body_need_field_x⟩)
/-! ### _law_number -/
def pre_law_number : List D → Prop := fun ds => ∃ (d : Dom) (n : Int), ds = [d.enc, .int n]
theorem len_law_number (ds : List D) (h : pre_law_number ds) : ds.length = ["d", "n"].length := by obtain ⟨_, _, rfl⟩ := h; rfl
def post_law_number : List D → D → Prop := fun ds r => ∃ (d : Dom) (n : Int), ds = [d.enc, .int n] ∧ r = d.el (d.num n)
theorem lnumber_iff (d : Dom) (n : Int) {Q : D → Prop} (h : Q (d.el (d.num n))) : (pre_law_number [d.enc, .int n] ∧ ∀ r, post_law_number [d.enc, .int n] r → Q r) := ⟨⟨d, n, rfl⟩, fun r hr => by
  obtain ⟨d', n', e, rfl⟩ := hr
  obtain ⟨rfl, rfl⟩ := dn_inj e
  exact h⟩

def w_law_number_3 : WS := (wRet (wName 1))
def w_law_number_2 : WS := wSeq (wIfS (wTest (wBin dEq (wBin dIx (wName 0) (wC (.int 0))) (wC (.str (Str.ofString "P"))))) (wRet (wCall pre_law_strip post_law_strip (wCons (wBin dIx (wName 0) (wC (.int 1))) (wCons (wLst (wCons (wCall pre_law_number_r0 post_law_number_r0 (wCons (wBin dIx (wName 0) (wC (.int 1))) (wCons (wName 1) wNil))) wNil)) wNil)))) wNext) w_law_number_3
def w_law_number_1 : WS := wSeq (wIfS (wTest (wBin dEq (wBin dIx (wName 0) (wC (.int 0))) (wC (.str (Str.ofString "F"))))) (wRet (wBin dMod (wB bInt (wCons (wName 1) wNil)) (wBin dIx (wName 0) (wC (.int 1))))) wNext) w_law_number_2
def w_law_number_0 : WS := wSeq (wIfS (wTest (wBin dEq (wBin dIx (wName 0) (wC (.int 0))) (wC (.str (Str.ofString "Q"))))) (wRet (wTup (wCons (wName 1) (wCons (wC (.int 1)) wNil)))) wNext) w_law_number_1

theorem body_law_number : ∀ ds, pre_law_number ds → w_law_number_0 { nx := fun _ => post_law_number ds .none, rt := post_law_number ds } (env0 ["d", "n"] ds) := by
  intro ds h
  obtain ⟨d, n, rfl⟩ := h
  unfold w_law_number_0 w_law_number_1 w_law_number_2 w_law_number_3
  cases d with
  | Z =>
    simp only [Dom.enc]
    walk_at "dl"
    exact ⟨.Z, n, rfl, rfl⟩
  | K f =>
    cases f with
    | Q =>
      simp only [Dom.enc, Fld.enc]
      walk_at "dl"
      exact ⟨.K .Q, n, rfl, rfl⟩
    | F m =>
      simp only [Dom.enc, Fld.enc]
      walk_at "dl"
      exact ⟨by omega, .K (.F m), n, rfl, (Fld.el_num_F m n).symm⟩
  | P f =>
    simp only [Dom.enc]
    walk_at "dl"
    refine lnumber_r0_iff (.K f) n trivial ?_
    refine lstrip_iff f [f.num n] (by simp) ?_
    exact ⟨.P f, n, rfl, rfl⟩

theorem ok_law_number {P : Program} {w : World} {K : Fg} {mg : Str → Option Value} {base : Heap} {fa : Nat → Addr} {fdd : Nat → FuncData} {ca : Nat → Addr} (T : Txt K mg fa fdd ca) : FnOk P w K mg base CX0 4 (fa 132) (fdd 132) ["d", "n"] (SpD K pre_law_number post_law_number) := by
  have G131 : FnOk P w K mg base CX0 2 (fa 131) (fdd 131) ["f", "parts"] (SpD K pre_law_strip post_law_strip) := ok_law_strip T
  have G132 : FnOk P w K mg base CX0 3 (fa 132) (fdd 132) ["d", "n"] (SpD K pre_law_number_r0 post_law_number_r0) := ok_law_number_r0 T
  exact fn_ok T.F132 sc132 len_law_number (fun cdv A outer s H E hr => ⟨_, w_law_number_0, (dss_cons (ds_if (dt_cmp (op_eqP hr.units) sn2_eq (de_ix ix_D sn2_ix (de_name 0) de_int) de_str) (dss_one (ds_ret (de_tup (da_cons (de_name 1) (da_cons de_int da_nil))))) dss_nil)
      (dss_cons (ds_if (dt_cmp (op_eqP hr.units) sn2_eq (de_ix ix_D sn2_ix (de_name 0) de_int) de_str) (dss_one (ds_ret (de_op op_modN sn2_mod (de_callTy call_int1 snc_int (by rfl) T.m_int (by decide +kernel) (da_cons (de_name 1) da_nil)) (de_ix ix_D sn2_ix (de_name 0) de_int)))) dss_nil)
      (dss_cons (ds_if (dt_cmp (op_eqP hr.units) sn2_eq (de_ix ix_D sn2_ix (de_name 0) de_int) de_str) (dss_one (ds_ret (de_call G131 (hr.mono (by decide)) (by rfl) T.g131 T.F131.kp T.b131 pass0 (da_cons (de_ix ix_D sn2_ix (de_name 0) de_int) (da_cons (de_lst (da_cons (de_call G132 hr (by rfl) T.g132 T.F132.kp T.b132 pass0 (da_cons (de_ix ix_D sn2_ix (de_name 0) de_int) (da_cons (de_name 1) da_nil))) da_nil)) da_nil))))) dss_nil)
      (dss_one (ds_ret (de_name 1)))))), body_law_number⟩)
/-! ### _law_field -/
def pre_law_field : List D → Prop := fun ds => ds = [.dict []]
theorem len_law_field (ds : List D) (h : pre_law_field ds) : ds.length = ["c"].length := by rw [h]; rfl
def post_law_field : List D → D → Prop := fun ds r => ∃ f : Fld, r = f.enc ∧ f.Pm
theorem lfield_iff {Q : D → Prop} (h : ∀ f : Fld, f.Pm → Q f.enc) : (pre_law_field [.dict []] ∧ ∀ r, post_law_field [.dict []] r → Q r) := ⟨rfl, fun r ⟨f, e, hf⟩ => e ▸ h f hf⟩

def w_law_field_4 : WS := (wRet (wTup (wCons (wC (.str (Str.ofString "F"))) (wCons (wBin dIx (wName 1) (wBin dSub (wName 2) (wC (.int 4)))) wNil))))
def w_law_field_3 : WS := wSeq (wIfS (wTest (wBin dGt (wName 2) (wC (.int 10)))) (wRet (wTup (wCons (wC (.str (Str.ofString "F"))) (wCons (wCall pre_law_some_prime post_law_some_prime (wCons (wName 0) wNil)) wNil)))) wNext) w_law_field_4
def w_law_field_2 : WS := wSeq (wIfS (wTest (wBin dLt (wName 2) (wC (.int 4)))) (wRet (wTup (wCons (wC (.str (Str.ofString "Q"))) wNil))) wNext) w_law_field_3
def w_law_field_1 : WS := wSeq (wAsg (wCall pre_law_take post_law_take (wCons (wName 0) (wCons (wC (.int 14)) wNil))) (wgName 2)) w_law_field_2
def w_law_field_0 : WS := wSeq (wAsg (wLst (wCons (wC (.int 2)) (wCons (wC (.int 3)) (wCons (wC (.int 5)) (wCons (wC (.int 7)) (wCons (wC (.int 11)) (wCons (wC (.int 101)) (wCons (wC (.int 65521)) wNil)))))))) (wgName 1)) w_law_field_1

theorem body_law_field : ∀ ds, pre_law_field ds → w_law_field_0 { nx := fun _ => post_law_field ds .none, rt := post_law_field ds } (env0 ["c", "primes", "k"] ds) := by
  intro ds h
  subst h
  unfold w_law_field_0
  walk_at "dl"
  unfold w_law_field_1
  walk_at "dl"
  rw [take_iff]
  refine ⟨⟨by decide, by decide⟩, fun k k0 k1 => ?_⟩
  walk_at "dl"
  unfold w_law_field_2
  walk_at "dl"
  split
  · exact ⟨.Q, rfl, trivial⟩
  · next h4 =>
    unfold w_law_field_3
    walk_at "dl"
    split
    · exact some_prime_iff fun n hp hn => ⟨.F n, rfl, hp, hn⟩
    · next h10 =>
      unfold w_law_field_4
      walk_at "dl"
      refine dIx_mem (by omega) (by show k - 4 < 7; omega) fun d hd => ?_
      have hs : ∃ n : Nat, d = .int ((n + 2 : Nat) : Int) ∧ Prime ((n + 2 : Nat) : Int) ∧ n + 2 ≤ 65521 := by
        have := List.mem_of_getElem? hd
        simp only [List.mem_cons, List.not_mem_nil, or_false] at this
        rcases this with h | h | h | h | h | h | h
        · exact ⟨0, h, ⟨by decide, fun d d2 dd _ => by have := Int.mul_le_mul d2 d2 (by decide) (by omega); omega⟩, by decide⟩
        · exact ⟨1, h, prime_chk (n := 3) (l := 0) (by decide) (by decide) (by decide), by decide⟩
        · exact ⟨3, h, prime_chk (n := 5) (l := 0) (by decide) (by decide) (by decide), by decide⟩
        · exact ⟨5, h, prime_chk (n := 7) (l := 0) (by decide) (by decide) (by decide), by decide⟩
        · exact ⟨9, h, prime_chk (n := 11) (l := 1) (by decide) (by decide) (by decide), by decide⟩
        · exact ⟨99, h, prime_101, by decide⟩
        · exact ⟨65519, h, prime_65521, by decide⟩
      obtain ⟨n, rfl, hp, hn⟩ := hs
      exact ⟨.F n, rfl, hp, hn⟩

theorem ok_law_field {P : Program} {w : World} {K : Fg} {mg : Str → Option Value} {base : Heap} {fa : Nat → Addr} {fdd : Nat → FuncData} {ca : Nat → Addr} (T : Txt K mg fa fdd ca) : FnOk P w K mg base CX0 4 (fa 140) (fdd 140) ["c"] (SpD K pre_law_field post_law_field) := by
  have G126 : FnOk P w K mg base CX0 2 (fa 126) (fdd 126) ["c", "many"] (SpD K pre_law_take post_law_take) := ok_law_take T
  have G139 : FnOk P w K mg base CX0 3 (fa 139) (fdd 139) ["c"] (SpD K pre_law_some_prime post_law_some_prime) := ok_law_some_prime T
  exact fn_ok T.F140 sc140 len_law_field (fun cdv A outer s H E hr => ⟨_, w_law_field_0, (dss_cons (ds_set (i := 1) sc140.nd (de_lst (da_cons de_int (da_cons de_int (da_cons de_int (da_cons de_int (da_cons de_int (da_cons de_int (da_cons de_int da_nil)))))))))
      (dss_cons (ds_set (i := 2) sc140.nd (de_call G126 (hr.mono (by decide)) (by rfl) T.g126 T.F126.kp T.b126 pass0 (da_cons (de_name 0) (da_cons de_int da_nil))))
      (dss_cons (ds_if (dt_cmp op_lt sn2_lt (de_name 2) de_int) (dss_one (ds_ret (de_tup (da_cons de_str da_nil)))) dss_nil)
      (dss_cons (ds_if (dt_cmp op_gt sn2_gt (de_name 2) de_int) (dss_one (ds_ret (de_tup (da_cons de_str (da_cons (de_call G139 hr (by rfl) T.g139 T.F139.kp T.b139 pass0 (da_cons (de_name 0) da_nil)) da_nil))))) dss_nil)
      (dss_one (ds_ret (de_tup (da_cons de_str (da_cons (de_ix ix_D sn2_ix (de_name 1) (de_op op_sub sn2_sub (de_name 2) de_int)) da_nil))))))))), body_law_field⟩)
/-! ### _law_small -/
def pre_law_small : List D → Prop := fun ds => ∃ d : Dom, ds = [.dict [], d.enc]
theorem len_law_small (ds : List D) (h : pre_law_small ds) : ds.length = ["c", "d"].length := by obtain ⟨_, rfl⟩ := h; rfl
def post_law_small : List D → D → Prop := fun ds r => ∃ (d : Dom) (x : d.C), ds = [.dict [], d.enc] ∧ r = d.el x ∧ d.Sz 6 50 2 x
theorem lsmall_iff (d : Dom) {Q : D → Prop} (h : ∀ x : d.C, d.Sz 6 50 2 x → Q (d.el x)) : (pre_law_small [.dict [], d.enc] ∧ ∀ r, post_law_small [.dict [], d.enc] r → Q r) := ⟨⟨d, rfl⟩, fun r hr => by
  obtain ⟨d', x, e, rfl, hx⟩ := hr
  have e := cd_inj e
  subst e
  exact h x hx⟩

def w_law_small_3 : WS := (wRet (wBin dIx (wLst (wCons (wBin dSub (wCall pre_law_take post_law_take (wCons (wName 0) (wCons (wC (.int 9)) wNil))) (wC (.int 4))) (wCons (wC (.int 0)) (wCons (wC (.int 0)) (wCons (wC (.int 1)) (wCons (wBin dSub (wCall pre_law_take post_law_take (wCons (wName 0) (wCons (wC (.int 99)) wNil))) (wC (.int 49))) wNil)))))) (wCall pre_law_take post_law_take (wCons (wName 0) (wCons (wC (.int 5)) wNil)))))
def w_law_small_2 : WS := wSeq (wIfS (wTest (wBin dEq (wBin dIx (wName 1) (wC (.int 0))) (wC (.str (Str.ofString "P"))))) (wRet (wCall pre_law_strip post_law_strip (wCons (wBin dIx (wName 1) (wC (.int 1))) (wCons (wFree (wComp (wiR1 (wCons (wCall pre_law_take post_law_take (wCons (wName 0) (wCons (wC (.int 3)) wNil))) wNil)) 2 wYes (wCall pre_law_small_r0 post_law_small_r0 (wCons (wName 0) (wCons (wBin dIx (wName 1) (wC (.int 1))) wNil))))) wNil)))) wNext) w_law_small_3
def w_law_small_1 : WS := wSeq (wIfS (wTest (wBin dEq (wBin dIx (wName 1) (wC (.int 0))) (wC (.str (Str.ofString "Q"))))) (wRet (wCall pre_law_fraction post_law_fraction (wCons (wBin dSub (wCall pre_law_take post_law_take (wCons (wName 0) (wCons (wC (.int 9)) wNil))) (wC (.int 4))) (wCons (wBin dAdd (wC (.int 1)) (wCall pre_law_take post_law_take (wCons (wName 0) (wCons (wC (.int 3)) wNil)))) wNil)))) wNext) w_law_small_2
def w_law_small_0 : WS := wSeq (wIfS (wTest (wBin dEq (wBin dIx (wName 1) (wC (.int 0))) (wC (.str (Str.ofString "F"))))) (wRet (wBin dMod (wB bInt (wCons (wCall pre_law_take post_law_take (wCons (wName 0) (wCons (wC (.int 65536)) wNil))) wNil)) (wBin dIx (wName 1) (wC (.int 1))))) wNext) w_law_small_1

theorem body_law_small : ∀ ds, pre_law_small ds → w_law_small_0 { nx := fun _ => post_law_small ds .none, rt := post_law_small ds } (env0 ["c", "d", "k"] ds) := by
  intro ds h
  obtain ⟨d, rfl⟩ := h
  unfold w_law_small_0
  cases d with
  | P f =>
    simp only [Dom.enc]
    walk_at "dl"
    unfold w_law_small_1
    walk_at "dl"
    unfold w_law_small_2
    walk_at "dl"
    rw [take_iff]
    refine ⟨⟨by decide, by decide⟩, fun r r0 r1 => ?_⟩
    walk_at "dl"
    refine ⟨⟨by omega, by omega⟩, ?_⟩
    refine wCompG_of (fun _ y => ∃ x : f.C, y = f.el x ∧ f.In 6 50 x) (by omega) (fun j Q hj hQ => ?_) fun ys hl hy => ?_
    · walk_at "dl"
      exact lsmall_r0_iff (.K f) trivial fun x hx => hQ _ ⟨x, rfl, hx⟩
    · obtain ⟨l, rfl, hll, hp⟩ := els_of f _ ys hy
      walk_at "dl"
      refine lstrip_iff f l (by omega) ⟨.P f, Pol.of l, rfl, rfl, ?_, fun k => ?_⟩
      · exact Nat.le_trans (cf_trim_len l) (by omega)
      · rw [pe_of]
        exact cf_all (Fld.In.zero f 6 50) hp k
  | K f => cases f with
    | F n =>
      simp only [Dom.enc, Fld.enc]
      walk_at "dl"
      rw [take_iff]
      refine ⟨⟨by decide, by decide⟩, fun r r0 r1 => ?_⟩
      walk_at "dl"
      exact ⟨by omega, .K (.F n), (Fld.F n).num r, rfl, (Fld.el_num_F n r).symm, trivial⟩
    | Q =>
      simp only [Dom.enc, Fld.enc]
      walk_at "dl"
      unfold w_law_small_1
      walk_at "dl"
      rw [take_iff]
      refine ⟨⟨by decide, by decide⟩, fun r r0 r1 => ?_⟩
      walk_at "dl"
      rw [take_iff]
      refine ⟨⟨by decide, by decide⟩, fun s s0 s1 => ?_⟩
      walk_at "dl"
      refine lfraction_iff (by omega) (Nat.lt_of_lt_of_le (show (1 + s).natAbs < 2 ^ 8 by omega) (Nat.pow_le_pow_right (by decide) (by decide))) fun a b hF => ?_
      obtain ⟨x, ex, hx⟩ := frac_el hF (by omega)
      rw [ex]
      refine ⟨.K .Q, x, rfl, rfl, ?_⟩
      have hs : s = 0 ∨ s = 1 ∨ s = 2 := by omega
      rcases hs with rfl | rfl | rfl
      · exact In_of hx (k := 6) (by decide) (by omega)
      · exact In_of hx (k := 3) (by decide) (by omega)
      · exact In_of hx (k := 2) (by decide) (by omega)
  | Z =>
    simp only [Dom.enc]
    walk_at "dl"
    unfold w_law_small_1
    walk_at "dl"
    unfold w_law_small_2
    walk_at "dl"
    unfold w_law_small_3
    walk_at "dl"
    rw [take_iff]
    refine ⟨⟨by decide, by decide⟩, fun r r0 r1 => ?_⟩
    walk_at "dl"
    rw [take_iff]
    refine ⟨⟨by decide, by decide⟩, fun s s0 s1 => ?_⟩
    walk_at "dl"
    rw [take_iff]
    refine ⟨⟨by decide, by decide⟩, fun k k0 k1 => ?_⟩
    refine dIx_mem k0 (by exact k1) fun d hd => ?_
    have hn : ∃ n : Int, d = .int n ∧ n.natAbs ≤ 50 := by
      have := List.mem_of_getElem? hd
      simp only [List.mem_cons, List.not_mem_nil, or_false] at this
      rcases this with h | h | h | h | h <;> exact ⟨_, h, by omega⟩
    obtain ⟨n, rfl, hn⟩ := hn
    exact ⟨.Z, n, rfl, rfl, hn⟩

theorem ok_law_small {P : Program} {w : World} {K : Fg} {mg : Str → Option Value} {base : Heap} {fa : Nat → Addr} {fdd : Nat → FuncData} {ca : Nat → Addr} (T : Txt K mg fa fdd ca) : FnOk P w K mg base CX0 4 (fa 144) (fdd 144) ["c", "d"] (SpD K pre_law_small post_law_small) := by
  have G129 : FnOk P w K mg base CX0 2 (fa 129) (fdd 129) ["n", "m"] (SpD K pre_law_fraction post_law_fraction) := ok_law_fraction T
  have G131 : FnOk P w K mg base CX0 2 (fa 131) (fdd 131) ["f", "parts"] (SpD K pre_law_strip post_law_strip) := ok_law_strip T
  have G126 : FnOk P w K mg base CX0 2 (fa 126) (fdd 126) ["c", "many"] (SpD K pre_law_take post_law_take) := ok_law_take T
  have G144 : FnOk P w K mg base CX0 3 (fa 144) (fdd 144) ["c", "d"] (SpD K pre_law_small_r0 post_law_small_r0) := ok_law_small_r0 T
  exact fn_ok T.F144 sc144 len_law_small (fun cdv A outer s H E hr => ⟨_, w_law_small_0, (dss_cons (ds_if (dt_cmp (op_eqP hr.units) sn2_eq (de_ix ix_D sn2_ix (de_name 1) de_int) de_str) (dss_one (ds_ret (de_op op_modN sn2_mod (de_callTy call_int1 snc_int (by rfl) T.m_int (by decide +kernel) (da_cons (de_call G126 (hr.mono (by decide)) (by rfl) T.g126 T.F126.kp T.b126 pass0 (da_cons (de_name 0) (da_cons de_int da_nil))) da_nil)) (de_ix ix_D sn2_ix (de_name 1) de_int)))) dss_nil)
      (dss_cons (ds_if (dt_cmp (op_eqP hr.units) sn2_eq (de_ix ix_D sn2_ix (de_name 1) de_int) de_str) (dss_one (ds_ret (de_call G129 (hr.mono (by decide)) (by rfl) T.g129 T.F129.kp T.b129 pass0 (da_cons (de_op op_sub sn2_sub (de_call G126 (hr.mono (by decide)) (by rfl) T.g126 T.F126.kp T.b126 pass0 (da_cons (de_name 0) (da_cons de_int da_nil))) de_int) (da_cons (de_op op_addD sn2_add de_int (de_call G126 (hr.mono (by decide)) (by rfl) T.g126 T.F126.kp T.b126 pass0 (da_cons (de_name 0) (da_cons de_int da_nil)))) da_nil))))) dss_nil)
      (dss_cons (ds_if (dt_cmp (op_eqP hr.units) sn2_eq (de_ix ix_D sn2_ix (de_name 1) de_int) de_str) (dss_one (ds_ret (de_call G131 (hr.mono (by decide)) (by rfl) T.g131 T.F131.kp T.b131 pass0 (da_cons (de_ix ix_D sn2_ix (de_name 1) de_int) (da_cons (DF.de (df_comp (x := "k") (i := 2) rfl sc144.nd (di_rng1 (by rfl) T.m_range (da_cons (de_call G126 (hr.mono (by decide)) (by rfl) T.g126 T.F126.kp T.b126 pass0 (da_cons (de_name 0) (da_cons de_int da_nil))) da_nil)) (by first | exact (blkOk_by (own := [("k", 2)]) (N := ["c", "d", "k"]) (sc := defScope s144) (by decide +kernel)) | (refine blkOk_by ?_; dsimp only [Cx.blk, Cx.nox, Cx.wish, Cx.tr, cxOf, envOfC, compEnvC, relab]; decide +kernel)) (fun _ _ _ _ _ => pg_name (i := 2) sc144.nd rfl (by first | exact Or.inl rfl | exact Or.inr rfl)) (fun _ _ _ _ _ => ⟨_, dts_nil, by first | (dsimp only [Cx.blk]; rfl) | dsimp only [Cx.blk] | rfl⟩) (fun _ _ _ _ _ => ⟨_, (de_call G144 hr (by rfl) T.g144 T.F144.kp T.b144 pass0 (da_cons (de_name 0) (da_cons (de_ix ix_D sn2_ix (de_name 1) de_int) da_nil))), by first | (dsimp only [Cx.blk]; rfl) | dsimp only [Cx.blk] | rfl⟩))) da_nil))))) dss_nil)
      (dss_one (ds_ret (de_ix ix_D sn2_ix (de_lst (da_cons (de_op op_sub sn2_sub (de_call G126 (hr.mono (by decide)) (by rfl) T.g126 T.F126.kp T.b126 pass0 (da_cons (de_name 0) (da_cons de_int da_nil))) de_int) (da_cons de_int (da_cons de_int (da_cons de_int (da_cons (de_op op_sub sn2_sub (de_call G126 (hr.mono (by decide)) (by rfl) T.g126 T.F126.kp T.b126 pass0 (da_cons (de_name 0) (da_cons de_int da_nil))) de_int) da_nil)))))) (de_call G126 (hr.mono (by decide)) (by rfl) T.g126 T.F126.kp T.b126 pass0 (da_cons (de_name 0) (da_cons de_int da_nil))))))))), body_law_small⟩)
/-! ### characteristic, raising -/
def pre_characteristic_x : List D → Prop := fun ds => ∃ (d : D) (m n : Nat) (R : List (List D)), ds = [d, Mt m n R] ∧ (d.plain = true ∧ (IsFld d → m ≠ n))
theorem len_characteristic_x (ds : List D) (h : pre_characteristic_x ds) : ds.length = ["f", "a"].length := by obtain ⟨_, _, _, _, rfl, _⟩ := h; rfl
def post_characteristic_x : List D → D → Prop := fun _ _ => False
def exn_characteristic_x : List D → Nat → Prop := fun ds c => ∃ d r, ds = d :: r ∧ KX d c
theorem characteristic_x_iff (d : D) (m n : Nat) (R : List (List D)) (hc : d.plain = true ∧ (IsFld d → m ≠ n)) {Q : D → Prop} {E : Nat → Prop} (h2 : ∀ c, KX d c → E c) : (pre_characteristic_x [d, Mt m n R] ∧ (∀ r, post_characteristic_x [d, Mt m n R] r → Q r) ∧ ∀ c, exn_characteristic_x [d, Mt m n R] c → E c) := ⟨⟨d, m, n, R, rfl, hc⟩, fun r hr => hr.elim, fun c hr => by
  obtain ⟨d', r, e, h⟩ := hr
  cases e
  exact h2 c h⟩

def w_characteristic_x_2 : WSX := xNever
def w_characteristic_x_1 : WSX := xSeq (xDrop (xCall pre_need_square_x post_need_square_x exn_need_square_x (xA (wCons (wName 1) wNil)))) w_characteristic_x_2
def w_characteristic_x_0 : WSX := xSeq (xDrop (xCall pre_need_field_x post_need_field_x exn_need_field_x (xA (wCons (wName 0) wNil)))) w_characteristic_x_1

theorem body_characteristic_x : ∀ ds, pre_characteristic_x ds → w_characteristic_x_0 { nx := fun _ => post_characteristic_x ds .none, rt := post_characteristic_x ds } (fun c _ => exn_characteristic_x ds c) (env0 ["f", "a", "rows", "scales", "values", "x", "shifted", "k", "m", "row", "c"] ds) := by
  intro ds h
  obtain ⟨d, m, n, R, rfl, hc⟩ := h
  unfold w_characteristic_x_0
  walk_at "dl"
  refine need_field_x_iff d hc.1 (fun hf r => ?_) fun hn => ⟨d, _, rfl, .inl ⟨rfl, hn⟩⟩
  unfold w_characteristic_x_1
  walk_at "dl"
  exact need_square_x_iff m n R (fun h => absurd h (hc.2 hf)) fun _ => ⟨d, _, rfl, .inr ⟨rfl, hf⟩⟩

theorem ok_characteristic_x {P : Program} {w : World} {K : Fg} {mg : Str → Option Value} {base : Heap} {fa : Nat → Addr} {fdd : Nat → FuncData} {ca : Nat → Addr} (T : Txt K mg fa fdd ca) : FnOk P w K mg base (L2.CX P w) 5 (fa 68) (fdd 68) ["f", "a"] (SpX K ca pre_characteristic_x post_characteristic_x exn_characteristic_x) := by
  have G24 : FnOk P w K mg base (L2.CX P w) 4 (fa 24) (fdd 24) ["f"] (SpX K ca pre_need_field_x post_need_field_x exn_need_field_x) := ok_need_field_x T
  have G60 : FnOk P w K mg base (L2.CX P w) 1 (fa 60) (fdd 60) ["a"] (SpX K ca pre_need_square_x post_need_square_x exn_need_square_x) := ok_need_square_x T
  exact fnx_ok T.F68 sc68 len_characteristic_x (fun cdv A outer s H E hr => ⟨_, w_characteristic_x_0, (dssx_cons (dsx_expr (dex_call G24 hr (by rfl) T.g24 T.F24.kp T.b24 (takes_of rfl rfl rfl rfl) (dax_of (da_cons (de_name 0) da_nil))))
      (dssx_cons (dsx_expr (dex_call G60 (hr.mono (by decide)) (by rfl) T.g60 T.F60.kp T.b60 (takes_of rfl rfl rfl rfl) (dax_of (da_cons (de_name 1) da_nil))))
      dssx_never)), body_characteristic_x⟩)
/-! ### annihilator, raising -/
def pre_annihilator_x : List D → Prop := fun ds => ∃ (d : D) (m n : Nat) (R : List (List D)) (l : List D), ds = [d, Mt m n R, .tuple l] ∧ (d.plain = true ∧ (IsFld d → m ≠ n ∨ l.length ≠ m))
theorem len_annihilator_x (ds : List D) (h : pre_annihilator_x ds) : ds.length = ["f", "a", "v"].length := by obtain ⟨_, _, _, _, _, rfl, _⟩ := h; rfl
def post_annihilator_x : List D → D → Prop := fun _ _ => False
def exn_annihilator_x : List D → Nat → Prop := fun ds c => ∃ d r, ds = d :: r ∧ KX d c
theorem annihilator_x_iff (d : D) (m n : Nat) (R : List (List D)) (l : List D) (hc : d.plain = true ∧ (IsFld d → m ≠ n ∨ l.length ≠ m)) {Q : D → Prop} {E : Nat → Prop} (h2 : ∀ c, KX d c → E c) : (pre_annihilator_x [d, Mt m n R, .tuple l] ∧ (∀ r, post_annihilator_x [d, Mt m n R, .tuple l] r → Q r) ∧ ∀ c, exn_annihilator_x [d, Mt m n R, .tuple l] c → E c) := ⟨⟨d, m, n, R, l, rfl, hc⟩, fun r hr => hr.elim, fun c hr => by
  obtain ⟨d', r, e, h⟩ := hr
  cases e
  exact h2 c h⟩

def w_annihilator_x_3 : WSX := xNever
def w_annihilator_x_2 : WSX := xSeq (xDrop (xCall pre_need_length_x post_need_length_x exn_need_length_x (xA (wCons (wName 2) (wCons (wBin dIx (wName 1) (wC (.int 0))) wNil))))) w_annihilator_x_3
def w_annihilator_x_1 : WSX := xSeq (xDrop (xCall pre_need_square_x post_need_square_x exn_need_square_x (xA (wCons (wName 1) wNil)))) w_annihilator_x_2
def w_annihilator_x_0 : WSX := xSeq (xDrop (xCall pre_need_field_x post_need_field_x exn_need_field_x (xA (wCons (wName 0) wNil)))) w_annihilator_x_1

theorem body_annihilator_x : ∀ ds, pre_annihilator_x ds → w_annihilator_x_0 { nx := fun _ => post_annihilator_x ds .none, rt := post_annihilator_x ds } (fun c _ => exn_annihilator_x ds c) (env0 ["f", "a", "v", "vectors", "m", "columns", "rows", "_", "pivots", "factor", "many", "out", "scale", "k", "row"] ds) := by
  intro ds h
  obtain ⟨d, m, n, R, l, rfl, hc⟩ := h
  unfold w_annihilator_x_0
  walk_at "dl"
  refine need_field_x_iff d hc.1 (fun hf r => ?_) fun hn => ⟨d, _, rfl, .inl ⟨rfl, hn⟩⟩
  unfold w_annihilator_x_1
  walk_at "dl"
  refine need_square_x_iff m n R (fun e1 r => ?_) fun _ => ⟨d, _, rfl, .inr ⟨rfl, hf⟩⟩
  unfold w_annihilator_x_2
  simp only [Mt]
  walk_at "dl"
  exact need_length_x_iff l m (by have := hc.2 hf; omega) ⟨d, _, rfl, .inr ⟨rfl, hf⟩⟩

theorem ok_annihilator_x {P : Program} {w : World} {K : Fg} {mg : Str → Option Value} {base : Heap} {fa : Nat → Addr} {fdd : Nat → FuncData} {ca : Nat → Addr} (T : Txt K mg fa fdd ca) : FnOk P w K mg base (L2.CX P w) 5 (fa 71) (fdd 71) ["f", "a", "v"] (SpX K ca pre_annihilator_x post_annihilator_x exn_annihilator_x) := by
  have G24 : FnOk P w K mg base (L2.CX P w) 4 (fa 24) (fdd 24) ["f"] (SpX K ca pre_need_field_x post_need_field_x exn_need_field_x) := ok_need_field_x T
  have G60 : FnOk P w K mg base (L2.CX P w) 1 (fa 60) (fdd 60) ["a"] (SpX K ca pre_need_square_x post_need_square_x exn_need_square_x) := ok_need_square_x T
  have G61 : FnOk P w K mg base (L2.CX P w) 1 (fa 61) (fdd 61) ["v", "n"] (SpX K ca pre_need_length_x post_need_length_x exn_need_length_x) := ok_need_length_x T
  exact fnx_ok T.F71 sc71 len_annihilator_x (fun cdv A outer s H E hr => ⟨_, w_annihilator_x_0, (dssx_cons (dsx_expr (dex_call G24 hr (by rfl) T.g24 T.F24.kp T.b24 (takes_of rfl rfl rfl rfl) (dax_of (da_cons (de_name 0) da_nil))))
      (dssx_cons (dsx_expr (dex_call G60 (hr.mono (by decide)) (by rfl) T.g60 T.F60.kp T.b60 (takes_of rfl rfl rfl rfl) (dax_of (da_cons (de_name 1) da_nil))))
      (dssx_cons (dsx_expr (dex_call G61 (hr.mono (by decide)) (by rfl) T.g61 T.F61.kp T.b61 (takes_of rfl rfl rfl rfl) (dax_of (da_cons (de_name 2) (da_cons (de_ix ix_D sn2_ix (de_name 1) de_int) da_nil)))))
      dssx_never))), body_annihilator_x⟩)
/-! ### generator, raising -/
def pre_generator_x : List D → Prop := fun ds => ∃ (d : D) (m n : Nat) (R : List (List D)), ds = [d, Mt m n R] ∧ (d.plain = true ∧ (IsFld d → m ≠ n))
theorem len_generator_x (ds : List D) (h : pre_generator_x ds) : ds.length = ["f", "a"].length := by obtain ⟨_, _, _, _, rfl, _⟩ := h; rfl
def post_generator_x : List D → D → Prop := fun _ _ => False
def exn_generator_x : List D → Nat → Prop := fun ds c => ∃ d r, ds = d :: r ∧ KX d c
theorem generator_x_iff (d : D) (m n : Nat) (R : List (List D)) (hc : d.plain = true ∧ (IsFld d → m ≠ n)) {Q : D → Prop} {E : Nat → Prop} (h2 : ∀ c, KX d c → E c) : (pre_generator_x [d, Mt m n R] ∧ (∀ r, post_generator_x [d, Mt m n R] r → Q r) ∧ ∀ c, exn_generator_x [d, Mt m n R] c → E c) := ⟨⟨d, m, n, R, rfl, hc⟩, fun r hr => hr.elim, fun c hr => by
  obtain ⟨d', r, e, h⟩ := hr
  cases e
  exact h2 c h⟩

def w_generator_x_2 : WSX := xNever
def w_generator_x_1 : WSX := xSeq (xDrop (xCall pre_need_square_x post_need_square_x exn_need_square_x (xA (wCons (wName 1) wNil)))) w_generator_x_2
def w_generator_x_0 : WSX := xSeq (xDrop (xCall pre_need_field_x post_need_field_x exn_need_field_x (xA (wCons (wName 0) wNil)))) w_generator_x_1

theorem body_generator_x : ∀ ds, pre_generator_x ds → w_generator_x_0 { nx := fun _ => post_generator_x ds .none, rt := post_generator_x ds } (fun c _ => exn_generator_x ds c) (env0 ["f", "a", "v", "g", "w", "h"] ds) := by
  intro ds h
  obtain ⟨d, m, n, R, rfl, hc⟩ := h
  unfold w_generator_x_0
  walk_at "dl"
  refine need_field_x_iff d hc.1 (fun hf r => ?_) fun hn => ⟨d, _, rfl, .inl ⟨rfl, hn⟩⟩
  unfold w_generator_x_1
  walk_at "dl"
  exact need_square_x_iff m n R (fun h => absurd h (hc.2 hf)) fun _ => ⟨d, _, rfl, .inr ⟨rfl, hf⟩⟩

theorem ok_generator_x {P : Program} {w : World} {K : Fg} {mg : Str → Option Value} {base : Heap} {fa : Nat → Addr} {fdd : Nat → FuncData} {ca : Nat → Addr} (T : Txt K mg fa fdd ca) : FnOk P w K mg base (L2.CX P w) 5 (fa 76) (fdd 76) ["f", "a"] (SpX K ca pre_generator_x post_generator_x exn_generator_x) := by
  have G24 : FnOk P w K mg base (L2.CX P w) 4 (fa 24) (fdd 24) ["f"] (SpX K ca pre_need_field_x post_need_field_x exn_need_field_x) := ok_need_field_x T
  have G60 : FnOk P w K mg base (L2.CX P w) 1 (fa 60) (fdd 60) ["a"] (SpX K ca pre_need_square_x post_need_square_x exn_need_square_x) := ok_need_square_x T
  exact fnx_ok T.F76 sc76 len_generator_x (fun cdv A outer s H E hr => ⟨_, w_generator_x_0, (dssx_cons (dsx_expr (dex_call G24 hr (by rfl) T.g24 T.F24.kp T.b24 (takes_of rfl rfl rfl rfl) (dax_of (da_cons (de_name 0) da_nil))))
      (dssx_cons (dsx_expr (dex_call G60 (hr.mono (by decide)) (by rfl) T.g60 T.F60.kp T.b60 (takes_of rfl rfl rfl rfl) (dax_of (da_cons (de_name 1) da_nil))))
      dssx_never)), body_generator_x⟩)
/-! ### companion, raising -/
def pre_companion_x : List D → Prop := fun ds => ∃ (d g : D), ds = [d, g] ∧ (d.plain = true ∧ ¬ IsFld d)
theorem len_companion_x (ds : List D) (h : pre_companion_x ds) : ds.length = ["f", "g"].length := by obtain ⟨_, _, rfl, _⟩ := h; rfl
def post_companion_x : List D → D → Prop := fun _ _ => False
def exn_companion_x : List D → Nat → Prop := fun ds c => ∃ d r, ds = d :: r ∧ KX d c
theorem companion_x_iff (d g : D) (hc : d.plain = true ∧ ¬ IsFld d) {Q : D → Prop} {E : Nat → Prop} (h2 : ∀ c, KX d c → E c) : (pre_companion_x [d, g] ∧ (∀ r, post_companion_x [d, g] r → Q r) ∧ ∀ c, exn_companion_x [d, g] c → E c) := ⟨⟨d, g, rfl, hc⟩, fun r hr => hr.elim, fun c hr => by
  obtain ⟨d', r, e, h⟩ := hr
  cases e
  exact h2 c h⟩

def w_companion_x_1 : WSX := xNever
def w_companion_x_0 : WSX := xSeq (xDrop (xCall pre_need_field_x post_need_field_x exn_need_field_x (xA (wCons (wName 0) wNil)))) w_companion_x_1

theorem body_companion_x : ∀ ds, pre_companion_x ds → w_companion_x_0 { nx := fun _ => post_companion_x ds .none, rt := post_companion_x ds } (fun c _ => exn_companion_x ds c) (env0 ["f", "g", "n", "rows", "k", "row"] ds) := by
  intro ds h
  obtain ⟨d, g, rfl, hc⟩ := h
  unfold w_companion_x_0
  walk_at "dl"
  refine need_field_x_iff d hc.1 (fun hf r => absurd hf hc.2) fun hn => ⟨d, _, rfl, .inl ⟨rfl, hn⟩⟩

theorem ok_companion_x {P : Program} {w : World} {K : Fg} {mg : Str → Option Value} {base : Heap} {fa : Nat → Addr} {fdd : Nat → FuncData} {ca : Nat → Addr} (T : Txt K mg fa fdd ca) : FnOk P w K mg base (L2.CX P w) 5 (fa 79) (fdd 79) ["f", "g"] (SpX K ca pre_companion_x post_companion_x exn_companion_x) := by
  have G24 : FnOk P w K mg base (L2.CX P w) 4 (fa 24) (fdd 24) ["f"] (SpX K ca pre_need_field_x post_need_field_x exn_need_field_x) := ok_need_field_x T
  exact fnx_ok T.F79 sc79 len_companion_x (fun cdv A outer s H E hr => ⟨_, w_companion_x_0, (dssx_cons (dsx_expr (dex_call G24 hr (by rfl) T.g24 T.F24.kp T.b24 (takes_of rfl rfl rfl rfl) (dax_of (da_cons (de_name 0) da_nil))))
      dssx_never), body_companion_x⟩)
/-! ### invariant_factors, raising -/
def pre_invariant_factors_x : List D → Prop := fun ds => ∃ (d : D) (m n : Nat) (R : List (List D)), ds = [d, Mt m n R] ∧ (d.plain = true ∧ (IsFld d → m ≠ n))
theorem len_invariant_factors_x (ds : List D) (h : pre_invariant_factors_x ds) : ds.length = ["f", "a"].length := by obtain ⟨_, _, _, _, rfl, _⟩ := h; rfl
def post_invariant_factors_x : List D → D → Prop := fun _ _ => False
def exn_invariant_factors_x : List D → Nat → Prop := fun ds c => ∃ d r, ds = d :: r ∧ KX d c
theorem invariant_factors_x_iff (d : D) (m n : Nat) (R : List (List D)) (hc : d.plain = true ∧ (IsFld d → m ≠ n)) {Q : D → Prop} {E : Nat → Prop} (h2 : ∀ c, KX d c → E c) : (pre_invariant_factors_x [d, Mt m n R] ∧ (∀ r, post_invariant_factors_x [d, Mt m n R] r → Q r) ∧ ∀ c, exn_invariant_factors_x [d, Mt m n R] c → E c) := ⟨⟨d, m, n, R, rfl, hc⟩, fun r hr => hr.elim, fun c hr => by
  obtain ⟨d', r, e, h⟩ := hr
  cases e
  exact h2 c h⟩

def w_invariant_factors_x_2 : WSX := xNever
def w_invariant_factors_x_1 : WSX := xSeq (xDrop (xCall pre_need_square_x post_need_square_x exn_need_square_x (xA (wCons (wName 1) wNil)))) w_invariant_factors_x_2
def w_invariant_factors_x_0 : WSX := xSeq (xDrop (xCall pre_need_field_x post_need_field_x exn_need_field_x (xA (wCons (wName 0) wNil)))) w_invariant_factors_x_1

theorem body_invariant_factors_x : ∀ ds, pre_invariant_factors_x ds → w_invariant_factors_x_0 { nx := fun _ => post_invariant_factors_x ds .none, rt := post_invariant_factors_x ds } (fun c _ => exn_invariant_factors_x ds c) (env0 ["f", "a", "g", "_"] ds) := by
  intro ds h
  obtain ⟨d, m, n, R, rfl, hc⟩ := h
  unfold w_invariant_factors_x_0
  walk_at "dl"
  refine need_field_x_iff d hc.1 (fun hf r => ?_) fun hn => ⟨d, _, rfl, .inl ⟨rfl, hn⟩⟩
  unfold w_invariant_factors_x_1
  walk_at "dl"
  exact need_square_x_iff m n R (fun h => absurd h (hc.2 hf)) fun _ => ⟨d, _, rfl, .inr ⟨rfl, hf⟩⟩

theorem ok_invariant_factors_x {P : Program} {w : World} {K : Fg} {mg : Str → Option Value} {base : Heap} {fa : Nat → Addr} {fdd : Nat → FuncData} {ca : Nat → Addr} (T : Txt K mg fa fdd ca) : FnOk P w K mg base (L2.CX P w) 5 (fa 88) (fdd 88) ["f", "a"] (SpX K ca pre_invariant_factors_x post_invariant_factors_x exn_invariant_factors_x) := by
  have G24 : FnOk P w K mg base (L2.CX P w) 4 (fa 24) (fdd 24) ["f"] (SpX K ca pre_need_field_x post_need_field_x exn_need_field_x) := ok_need_field_x T
  have G60 : FnOk P w K mg base (L2.CX P w) 1 (fa 60) (fdd 60) ["a"] (SpX K ca pre_need_square_x post_need_square_x exn_need_square_x) := ok_need_square_x T
  exact fnx_ok T.F88 sc88 len_invariant_factors_x (fun cdv A outer s H E hr => ⟨_, w_invariant_factors_x_0, (dssx_cons (dsx_expr (dex_call G24 hr (by rfl) T.g24 T.F24.kp T.b24 (takes_of rfl rfl rfl rfl) (dax_of (da_cons (de_name 0) da_nil))))
      (dssx_cons (dsx_expr (dex_call G60 (hr.mono (by decide)) (by rfl) T.g60 T.F60.kp T.b60 (takes_of rfl rfl rfl rfl) (dax_of (da_cons (de_name 1) da_nil))))
      dssx_never)), body_invariant_factors_x⟩)
/-! ### cyclic_form, raising -/
def pre_cyclic_form_x : List D → Prop := fun ds => ∃ (d : D) (m n : Nat) (R : List (List D)), ds = [d, Mt m n R] ∧ (d.plain = true ∧ (IsFld d → m ≠ n))
theorem len_cyclic_form_x (ds : List D) (h : pre_cyclic_form_x ds) : ds.length = ["f", "a"].length := by obtain ⟨_, _, _, _, rfl, _⟩ := h; rfl
def post_cyclic_form_x : List D → D → Prop := fun _ _ => False
def exn_cyclic_form_x : List D → Nat → Prop := fun ds c => ∃ d r, ds = d :: r ∧ KX d c
theorem cyclic_form_x_iff (d : D) (m n : Nat) (R : List (List D)) (hc : d.plain = true ∧ (IsFld d → m ≠ n)) {Q : D → Prop} {E : Nat → Prop} (h2 : ∀ c, KX d c → E c) : (pre_cyclic_form_x [d, Mt m n R] ∧ (∀ r, post_cyclic_form_x [d, Mt m n R] r → Q r) ∧ ∀ c, exn_cyclic_form_x [d, Mt m n R] c → E c) := ⟨⟨d, m, n, R, rfl, hc⟩, fun r hr => hr.elim, fun c hr => by
  obtain ⟨d', r, e, h⟩ := hr
  cases e
  exact h2 c h⟩

def w_cyclic_form_x_2 : WSX := xNever
def w_cyclic_form_x_1 : WSX := xSeq (xDrop (xCall pre_need_square_x post_need_square_x exn_need_square_x (xA (wCons (wName 1) wNil)))) w_cyclic_form_x_2
def w_cyclic_form_x_0 : WSX := xSeq (xDrop (xCall pre_need_field_x post_need_field_x exn_need_field_x (xA (wCons (wName 0) wNil)))) w_cyclic_form_x_1

theorem body_cyclic_form_x : ∀ ds, pre_cyclic_form_x ds → w_cyclic_form_x_0 { nx := fun _ => post_cyclic_form_x ds .none, rt := post_cyclic_form_x ds } (fun c _ => exn_cyclic_form_x ds c) (env0 ["f", "a", "parts", "t", "_", "k", "s", "g"] ds) := by
  intro ds h
  obtain ⟨d, m, n, R, rfl, hc⟩ := h
  unfold w_cyclic_form_x_0
  walk_at "dl"
  refine need_field_x_iff d hc.1 (fun hf r => ?_) fun hn => ⟨d, _, rfl, .inl ⟨rfl, hn⟩⟩
  unfold w_cyclic_form_x_1
  walk_at "dl"
  exact need_square_x_iff m n R (fun h => absurd h (hc.2 hf)) fun _ => ⟨d, _, rfl, .inr ⟨rfl, hf⟩⟩

theorem ok_cyclic_form_x {P : Program} {w : World} {K : Fg} {mg : Str → Option Value} {base : Heap} {fa : Nat → Addr} {fdd : Nat → FuncData} {ca : Nat → Addr} (T : Txt K mg fa fdd ca) : FnOk P w K mg base (L2.CX P w) 5 (fa 90) (fdd 90) ["f", "a"] (SpX K ca pre_cyclic_form_x post_cyclic_form_x exn_cyclic_form_x) := by
  have G24 : FnOk P w K mg base (L2.CX P w) 4 (fa 24) (fdd 24) ["f"] (SpX K ca pre_need_field_x post_need_field_x exn_need_field_x) := ok_need_field_x T
  have G60 : FnOk P w K mg base (L2.CX P w) 1 (fa 60) (fdd 60) ["a"] (SpX K ca pre_need_square_x post_need_square_x exn_need_square_x) := ok_need_square_x T
  exact fnx_ok T.F90 sc90 len_cyclic_form_x (fun cdv A outer s H E hr => ⟨_, w_cyclic_form_x_0, (dssx_cons (dsx_expr (dex_call G24 hr (by rfl) T.g24 T.F24.kp T.b24 (takes_of rfl rfl rfl rfl) (dax_of (da_cons (de_name 0) da_nil))))
      (dssx_cons (dsx_expr (dex_call G60 (hr.mono (by decide)) (by rfl) T.g60 T.F60.kp T.b60 (takes_of rfl rfl rfl rfl) (dax_of (da_cons (de_name 1) da_nil))))
      dssx_never)), body_cyclic_form_x⟩)
/-! ### need_equal_sizes, raising -/
def pre_need_equal_sizes_x : List D → Prop := fun ds => ∃ (d : D) (m n : Nat) (R : List (List D)) (p q : Nat) (S : List (List D)), ds = [d, Mt m n R, Mt p q S] ∧ (d.plain = true ∧ (IsFld d → m ≠ n ∨ p ≠ q ∨ m ≠ p))
theorem len_need_equal_sizes_x (ds : List D) (h : pre_need_equal_sizes_x ds) : ds.length = ["f", "a", "b"].length := by obtain ⟨_, _, _, _, _, _, _, rfl, _⟩ := h; rfl
def post_need_equal_sizes_x : List D → D → Prop := fun _ _ => False
def exn_need_equal_sizes_x : List D → Nat → Prop := fun ds c => ∃ d r, ds = d :: r ∧ KX d c
theorem need_equal_sizes_x_iff (d : D) (m n : Nat) (R : List (List D)) (p q : Nat) (S : List (List D)) (hc : d.plain = true ∧ (IsFld d → m ≠ n ∨ p ≠ q ∨ m ≠ p)) {Q : D → Prop} {E : Nat → Prop} (h2 : ∀ c, KX d c → E c) : (pre_need_equal_sizes_x [d, Mt m n R, Mt p q S] ∧ (∀ r, post_need_equal_sizes_x [d, Mt m n R, Mt p q S] r → Q r) ∧ ∀ c, exn_need_equal_sizes_x [d, Mt m n R, Mt p q S] c → E c) := ⟨⟨d, m, n, R, p, q, S, rfl, hc⟩, fun r hr => hr.elim, fun c hr => by
  obtain ⟨d', r, e, h⟩ := hr
  cases e
  exact h2 c h⟩

def w_need_equal_sizes_x_4 : WSX := xNever
def w_need_equal_sizes_x_3 : WSX := xSeq (xIf (wTest (wBin dNe (wBin dIx (wName 1) (wC (.int 0))) (wBin dIx (wName 2) (wC (.int 0))))) (xRaise 2) xNext) w_need_equal_sizes_x_4
def w_need_equal_sizes_x_2 : WSX := xSeq (xDrop (xCall pre_need_square_x post_need_square_x exn_need_square_x (xA (wCons (wName 2) wNil)))) w_need_equal_sizes_x_3
def w_need_equal_sizes_x_1 : WSX := xSeq (xDrop (xCall pre_need_square_x post_need_square_x exn_need_square_x (xA (wCons (wName 1) wNil)))) w_need_equal_sizes_x_2
def w_need_equal_sizes_x_0 : WSX := xSeq (xDrop (xCall pre_need_field_x post_need_field_x exn_need_field_x (xA (wCons (wName 0) wNil)))) w_need_equal_sizes_x_1

theorem body_need_equal_sizes_x : ∀ ds, pre_need_equal_sizes_x ds → w_need_equal_sizes_x_0 { nx := fun _ => post_need_equal_sizes_x ds .none, rt := post_need_equal_sizes_x ds } (fun c _ => exn_need_equal_sizes_x ds c) (env0 ["f", "a", "b"] ds) := by
  intro ds h
  obtain ⟨d, m, n, R, p, q, S, rfl, hc⟩ := h
  unfold w_need_equal_sizes_x_0
  walk_at "dl"
  refine need_field_x_iff d hc.1 (fun hf r => ?_) fun hn => ⟨d, _, rfl, .inl ⟨rfl, hn⟩⟩
  unfold w_need_equal_sizes_x_1
  walk_at "dl"
  refine need_square_x_iff m n R (fun e1 r => ?_) fun _ => ⟨d, _, rfl, .inr ⟨rfl, hf⟩⟩
  unfold w_need_equal_sizes_x_2
  walk_at "dl"
  refine need_square_x_iff p q S (fun e2 r => ?_) fun _ => ⟨d, _, rfl, .inr ⟨rfl, hf⟩⟩
  unfold w_need_equal_sizes_x_3
  simp only [Mt]
  walk_at "dl"
  rw [if_pos (by have := hc.2 hf; omega)]
  exact ⟨d, _, rfl, .inr ⟨rfl, hf⟩⟩

theorem ok_need_equal_sizes_x {P : Program} {w : World} {K : Fg} {mg : Str → Option Value} {base : Heap} {fa : Nat → Addr} {fdd : Nat → FuncData} {ca : Nat → Addr} (T : Txt K mg fa fdd ca) : FnOk P w K mg base (L2.CX P w) 5 (fa 91) (fdd 91) ["f", "a", "b"] (SpX K ca pre_need_equal_sizes_x post_need_equal_sizes_x exn_need_equal_sizes_x) := by
  have G24 : FnOk P w K mg base (L2.CX P w) 4 (fa 24) (fdd 24) ["f"] (SpX K ca pre_need_field_x post_need_field_x exn_need_field_x) := ok_need_field_x T
  have G60 : FnOk P w K mg base (L2.CX P w) 1 (fa 60) (fdd 60) ["a"] (SpX K ca pre_need_square_x post_need_square_x exn_need_square_x) := ok_need_square_x T
  exact fnx_ok T.F91 sc91 len_need_equal_sizes_x (fun cdv A outer s H E hr => ⟨_, w_need_equal_sizes_x_0, (dssx_cons (dsx_expr (dex_call G24 hr (by rfl) T.g24 T.F24.kp T.b24 (takes_of rfl rfl rfl rfl) (dax_of (da_cons (de_name 0) da_nil))))
      (dssx_cons (dsx_expr (dex_call G60 (hr.mono (by decide)) (by rfl) T.g60 T.F60.kp T.b60 (takes_of rfl rfl rfl rfl) (dax_of (da_cons (de_name 1) da_nil))))
      (dssx_cons (dsx_expr (dex_call G60 (hr.mono (by decide)) (by rfl) T.g60 T.F60.kp T.b60 (takes_of rfl rfl rfl rfl) (dax_of (da_cons (de_name 2) da_nil))))
      (dssx_cons (dsx_if (dt_cmp (op_neP hr.units) sn2_ne (de_ix ix_D sn2_ix (de_name 1) de_int) (de_ix ix_D sn2_ix (de_name 2) de_int)) (dssx_one (dsx_raise (n := 2) rfl (takes_of rfl rfl rfl rfl) T.xi2 T.x2 T.cf2.kp T.cf2.ec.hs T.cf2.ty (by rfl))) dssx_nil)
      dssx_never)))), body_need_equal_sizes_x⟩)
/-! ### jordan_block, raising -/
def pre_jordan_block_x : List D → Prop := fun ds => ∃ (d x k : D), ds = [d, x, k] ∧ (d.plain = true ∧ ¬ IsFld d)
theorem len_jordan_block_x (ds : List D) (h : pre_jordan_block_x ds) : ds.length = ["f", "x", "k"].length := by obtain ⟨_, _, _, rfl, _⟩ := h; rfl
def post_jordan_block_x : List D → D → Prop := fun _ _ => False
def exn_jordan_block_x : List D → Nat → Prop := fun ds c => ∃ d r, ds = d :: r ∧ KX d c
theorem jordan_block_x_iff (d x k : D) (hc : d.plain = true ∧ ¬ IsFld d) {Q : D → Prop} {E : Nat → Prop} (h2 : ∀ c, KX d c → E c) : (pre_jordan_block_x [d, x, k] ∧ (∀ r, post_jordan_block_x [d, x, k] r → Q r) ∧ ∀ c, exn_jordan_block_x [d, x, k] c → E c) := ⟨⟨d, x, k, rfl, hc⟩, fun r hr => hr.elim, fun c hr => by
  obtain ⟨d', r, e, h⟩ := hr
  cases e
  exact h2 c h⟩

def w_jordan_block_x_1 : WSX := xNever
def w_jordan_block_x_0 : WSX := xSeq (xDrop (xCall pre_need_field_x post_need_field_x exn_need_field_x (xA (wCons (wName 0) wNil)))) w_jordan_block_x_1

theorem body_jordan_block_x : ∀ ds, pre_jordan_block_x ds → w_jordan_block_x_0 { nx := fun _ => post_jordan_block_x ds .none, rt := post_jordan_block_x ds } (fun c _ => exn_jordan_block_x ds c) (env0 ["f", "x", "k", "rows", "i", "row"] ds) := by
  intro ds h
  obtain ⟨d, x, k, rfl, hc⟩ := h
  unfold w_jordan_block_x_0
  walk_at "dl"
  refine need_field_x_iff d hc.1 (fun hf r => absurd hf hc.2) fun hn => ⟨d, _, rfl, .inl ⟨rfl, hn⟩⟩

theorem ok_jordan_block_x {P : Program} {w : World} {K : Fg} {mg : Str → Option Value} {base : Heap} {fa : Nat → Addr} {fdd : Nat → FuncData} {ca : Nat → Addr} (T : Txt K mg fa fdd ca) : FnOk P w K mg base (L2.CX P w) 5 (fa 117) (fdd 117) ["f", "x", "k"] (SpX K ca pre_jordan_block_x post_jordan_block_x exn_jordan_block_x) := by
  have G24 : FnOk P w K mg base (L2.CX P w) 4 (fa 24) (fdd 24) ["f"] (SpX K ca pre_need_field_x post_need_field_x exn_need_field_x) := ok_need_field_x T
  exact fnx_ok T.F117 sc117 len_jordan_block_x (fun cdv A outer s H E hr => ⟨_, w_jordan_block_x_0, (dssx_cons (dsx_expr (dex_call G24 hr (by rfl) T.g24 T.F24.kp T.b24 (takes_of rfl rfl rfl rfl) (dax_of (da_cons (de_name 0) da_nil))))
      dssx_never), body_jordan_block_x⟩)
/-! ### _law_matrix -/
def pre_law_matrix : List D → Prop := fun ds => ∃ (d : Dom) (m n : Nat), ds = [.dict [], d.enc, .int m, .int n] ∧ m ≤ 100 ∧ n ≤ 100
theorem len_law_matrix (ds : List D) (h : pre_law_matrix ds) : ds.length = ["c", "d", "m", "n"].length := by obtain ⟨_, _, _, rfl, _⟩ := h; rfl
def post_law_matrix : List D → D → Prop := fun ds r => ∃ (d : Dom) (m n : Nat) (X : List (List d.C)), ds = [.dict [], d.enc, .int m, .int n] ∧ r = Mt m n (X.map fun x => x.map d.el) ∧ X.length = m ∧ ∀ x ∈ X, x.length = n ∧ ∀ y ∈ x, d.Sz 6 50 2 y
theorem lmatrix_iff (d : Dom) (m n : Nat) (hm : m ≤ 100) (hn : n ≤ 100) {Q : D → Prop} (h : ∀ X : List (List d.C), X.length = m → (∀ x ∈ X, x.length = n ∧ ∀ y ∈ x, d.Sz 6 50 2 y) → Q (Mt m n (X.map fun x => x.map d.el))) : (pre_law_matrix [.dict [], d.enc, .int m, .int n] ∧ ∀ r, post_law_matrix [.dict [], d.enc, .int m, .int n] r → Q r) := ⟨⟨d, m, n, rfl, hm, hn⟩, fun r hr => by
  obtain ⟨d', m', n', X, e, rfl, hX⟩ := hr
  simp only [List.cons.injEq, PyData.int.injEq, and_true, true_and] at e
  obtain rfl := Dom.enc_inj e.1
  obtain rfl : m = m' := by omega
  obtain rfl : n = n' := by omega
  exact h X hX.1 hX.2⟩
theorem dels_of (d : Dom) (Pp : d.C → Prop) : ∀ ys : List D, (∀ (j : Nat) (y : D), ys[j]? = some y → ∃ x : d.C, y = d.el x ∧ Pp x) → ∃ l : List d.C, ys = l.map d.el ∧ l.length = ys.length ∧ ∀ x ∈ l, Pp x
  | [], _ => ⟨[], rfl, rfl, fun x h => by cases h⟩
  | y :: ys, h => by
    obtain ⟨x, rfl, hx⟩ := h 0 y rfl
    obtain ⟨l, rfl, hl, hp⟩ := dels_of d Pp ys fun j y hy => h (j + 1) y (by simpa using hy)
    exact ⟨x :: l, rfl, by simp, fun z hz => by
      rcases List.mem_cons.mp hz with rfl | hz
      · exact hx
      · exact hp z hz⟩
theorem rows_of (d : Dom) (Pp : List d.C → Prop) : ∀ ys : List D, (∀ (j : Nat) (y : D), ys[j]? = some y → ∃ x : List d.C, y = .tuple (x.map d.el) ∧ Pp x) → ∃ X : List (List d.C), ys = (X.map fun x => x.map d.el).map .tuple ∧ X.length = ys.length ∧ ∀ x ∈ X, Pp x
  | [], _ => ⟨[], rfl, rfl, fun x h => by cases h⟩
  | y :: ys, h => by
    obtain ⟨x, rfl, hx⟩ := h 0 y rfl
    obtain ⟨l, rfl, hl, hp⟩ := rows_of d Pp ys fun j y hy => h (j + 1) y (by simpa using hy)
    exact ⟨x :: l, rfl, by simp, fun z hz => by
      rcases List.mem_cons.mp hz with rfl | hz
      · exact hx
      · exact hp z hz⟩

def w_law_matrix_0 : WS := (wRet (wTup (wCons (wName 2) (wCons (wName 3) (wCons (wB bTuple (wCons (wFree (wComp (wiUn 5 (wiR1 (wCons (wName 2) wNil))) 4 wYes (wB bTuple (wCons (wFree (wComp (wiR1 (wCons (wName 3) wNil)) 5 wYes (wCall pre_law_small post_law_small (wCons (wName 0) (wCons (wName 1) wNil))))) wNil)))) wNil)) wNil)))))

theorem body_law_matrix : ∀ ds, pre_law_matrix ds → w_law_matrix_0 { nx := fun _ => post_law_matrix ds .none, rt := post_law_matrix ds } (env0 ["c", "d", "m", "n", "i", "j"] ds) := by
  intro ds h
  obtain ⟨d, m, n, rfl, hm, hn⟩ := h
  unfold w_law_matrix_0
  walk_at "dl"
  refine ⟨⟨by omega, by omega⟩, ?_⟩
  refine wCompG_of (fun _ y => ∃ x : List d.C, y = .tuple (x.map d.el) ∧ (x.length = n ∧ ∀ y ∈ x, d.Sz 6 50 2 y)) (by omega) (fun j Q hj hQ => ?_) fun ys hl hy => ?_
  · walk_at "dl"
    refine ⟨⟨by omega, by omega⟩, ?_⟩
    refine wCompG_of (fun _ y => ∃ x : d.C, y = d.el x ∧ d.Sz 6 50 2 x) (by omega) (fun j2 Q2 hj2 hQ2 => ?_) fun ys hl hy => ?_
    · walk_at "dl"
      exact lsmall_iff d fun x hx => hQ2 _ ⟨x, rfl, hx⟩
    · obtain ⟨l, rfl, hll, hp⟩ := dels_of d _ ys hy
      walk_at "dl"
      exact hQ _ ⟨l, rfl, by omega, hp⟩
  · obtain ⟨X, rfl, hXl, hX⟩ := rows_of d _ ys hy
    walk_at "dl"
    exact ⟨d, m, n, X, rfl, rfl, by omega, hX⟩

theorem ok_law_matrix {P : Program} {w : World} {K : Fg} {mg : Str → Option Value} {base : Heap} {fa : Nat → Addr} {fdd : Nat → FuncData} {ca : Nat → Addr} (T : Txt K mg fa fdd ca) : FnOk P w K mg base CX0 5 (fa 145) (fdd 145) ["c", "d", "m", "n"] (SpD K pre_law_matrix post_law_matrix) := by
  have G144 : FnOk P w K mg base CX0 4 (fa 144) (fdd 144) ["c", "d"] (SpD K pre_law_small post_law_small) := ok_law_small T
  exact fn_ok T.F145 sc145 len_law_matrix (fun cdv A outer s H E hr => ⟨_, w_law_matrix_0, (dss_one (ds_ret (de_tup (da_cons (de_name 2) (da_cons (de_name 3) (da_cons (de_callTy call_tuple_of snc_tuple (by rfl) T.m_tuple (by decide +kernel) (da_cons (DF.de (df_comp (x := "i") (i := 4) rfl sc145.nd (di_un 5 (di_rng1 (by rfl) T.m_range (da_cons (de_name 2) da_nil))) (by first | exact (blkOk_by (own := [("i", 4)]) (N := ["c", "d", "m", "n", "i", "j"]) (sc := defScope s145) (by decide +kernel)) | (refine blkOk_by ?_; dsimp only [Cx.blk, Cx.nox, Cx.wish, Cx.tr, cxOf, envOfC, compEnvC, relab]; decide +kernel)) (fun _ _ _ _ _ => pg_name (i := 4) sc145.nd rfl (by first | exact Or.inl rfl | exact Or.inr rfl)) (fun _ _ _ _ _ => ⟨_, dts_nil, by first | (dsimp only [Cx.blk]; rfl) | dsimp only [Cx.blk] | rfl⟩) (fun _ _ _ _ _ => ⟨_, (de_callTy call_tuple_of snc_tuple (by rfl) T.m_tuple (by decide +kernel) (da_cons (DF.de (df_comp (x := "j") (i := 5) rfl sc145.nd (di_rng1 (by rfl) T.m_range (da_cons (de_name 3) da_nil)) (by first | exact (blkOk_by (own := [("j", 5)]) (N := ["c", "d", "m", "n", "i", "j"]) (sc := defScope s145) (by decide +kernel)) | (refine blkOk_by ?_; dsimp only [Cx.blk, Cx.nox, Cx.wish, Cx.tr, cxOf, envOfC, compEnvC, relab]; decide +kernel)) (fun _ _ _ _ _ => pg_name (i := 5) sc145.nd rfl (by first | exact Or.inl rfl | exact Or.inr rfl)) (fun _ _ _ _ _ => ⟨_, dts_nil, by first | (dsimp only [Cx.blk]; rfl) | dsimp only [Cx.blk] | rfl⟩) (fun _ _ _ _ _ => ⟨_, (de_call G144 hr (by rfl) T.g144 T.F144.kp T.b144 pass0 (da_cons (de_name 0) (da_cons (de_name 1) da_nil))), by first | (dsimp only [Cx.blk]; rfl) | dsimp only [Cx.blk] | rfl⟩))) da_nil)), by first | (dsimp only [Cx.blk]; rfl) | dsimp only [Cx.blk] | rfl⟩))) da_nil)) da_nil)))))), body_law_matrix⟩)
/-! ### krylov, raising -/
def pre_krylov_x : List D → Prop := fun ds => ∃ (d : D) (m n : Nat) (R : List (List D)) (l : List D), ds = [d, Mt m n R, .tuple l] ∧ (d.plain = true ∧ (IsFld d → m ≠ n ∨ l.length ≠ m))
theorem len_krylov_x (ds : List D) (h : pre_krylov_x ds) : ds.length = ["f", "a", "v"].length := by obtain ⟨_, _, _, _, _, rfl, _⟩ := h; rfl
def post_krylov_x : List D → D → Prop := fun _ _ => False
def exn_krylov_x : List D → Nat → Prop := fun ds c => ∃ d r, ds = d :: r ∧ KX d c
theorem krylov_x_iff (d : D) (m n : Nat) (R : List (List D)) (l : List D) (hc : d.plain = true ∧ (IsFld d → m ≠ n ∨ l.length ≠ m)) {Q : D → Prop} {E : Nat → Prop} (h2 : ∀ c, KX d c → E c) : (pre_krylov_x [d, Mt m n R, .tuple l] ∧ (∀ r, post_krylov_x [d, Mt m n R, .tuple l] r → Q r) ∧ ∀ c, exn_krylov_x [d, Mt m n R, .tuple l] c → E c) := ⟨⟨d, m, n, R, l, rfl, hc⟩, fun r hr => hr.elim, fun c hr => by
  obtain ⟨d', r, e, h⟩ := hr
  cases e
  exact h2 c h⟩

def w_krylov_x_3 : WSX := xNever
def w_krylov_x_2_b : WSX := xNever
def w_krylov_x_2 : WSX := xSeq (xForX (xiR1 (xCons (xBin dSub (xB bLen (xCons (xCall pre_annihilator_x post_annihilator_x exn_annihilator_x (xA (wCons (wName 0) (wCons (wName 1) (wCons (wName 2) wNil))))) (xA wNil))) (xE (wC (.int 1)))) (xA wNil))) (wgName 5) w_krylov_x_2_b) w_krylov_x_3
def w_krylov_x_1 : WSX := xSeq (xS (wAsg (wName 2) (wgName 4))) w_krylov_x_2
def w_krylov_x_0 : WSX := xSeq (xS (wAsg (wLst wNil) (wgName 3))) w_krylov_x_1

theorem body_krylov_x : ∀ ds, pre_krylov_x ds → w_krylov_x_0 { nx := fun _ => post_krylov_x ds .none, rt := post_krylov_x ds } (fun c _ => exn_krylov_x ds c) (env0 ["f", "a", "v", "columns", "moved", "_"] ds) := by
  intro ds h
  obtain ⟨d, m, n, R, l, rfl, hc⟩ := h
  unfold w_krylov_x_0
  walk_at "dl"
  unfold w_krylov_x_1
  walk_at "dl"
  unfold w_krylov_x_2
  walk_at "dl"
  simp only [xForX, xiR1, xB]
  walk_at "dl"
  exact annihilator_x_iff d m n R l hc fun c h => ⟨d, _, rfl, h⟩

theorem ok_krylov_x {P : Program} {w : World} {K : Fg} {mg : Str → Option Value} {base : Heap} {fa : Nat → Addr} {fdd : Nat → FuncData} {ca : Nat → Addr} (T : Txt K mg fa fdd ca) : FnOk P w K mg base (L2.CX P w) 6 (fa 73) (fdd 73) ["f", "a", "v"] (SpX K ca pre_krylov_x post_krylov_x exn_krylov_x) := by
  have G71 : FnOk P w K mg base (L2.CX P w) 5 (fa 71) (fdd 71) ["f", "a", "v"] (SpX K ca pre_annihilator_x post_annihilator_x exn_annihilator_x) := ok_annihilator_x T
  exact fnx_ok T.F73 sc73 len_krylov_x (fun cdv A outer s H E hr => ⟨_, w_krylov_x_0, (dssx_cons (dsx_of (ds_set (i := 3) sc73.nd (de_lst da_nil)))
      (dssx_cons (dsx_of (ds_set (i := 4) sc73.nd (de_name 2)))
      (dssx_cons (dsx_forX (passes_of rfl) rfl (dix_rng1 (by rfl) T.m_range (dax_cons (dex_op op_sub sn2_sub (dex_callB call_len_seq snc_len (by rfl) T.m_len (by decide +kernel) (dax_cons (dex_call G71 hr (by rfl) T.g71 T.F71.kp T.b71 (takes_of rfl rfl rfl rfl) (dax_of (da_cons (de_name 0) (da_cons (de_name 1) (da_cons (de_name 2) da_nil))))) (dax_of da_nil))) (dex_of de_int)) (dax_of da_nil))) (dg_name (i := 5) sc73.nd) dssx_never)
      dssx_never))), body_krylov_x⟩)
/-! ### minimal, raising -/
def pre_minimal_x : List D → Prop := fun ds => ∃ (d : D) (m n : Nat) (R : List (List D)), ds = [d, Mt m n R] ∧ (d.plain = true ∧ (IsFld d → m ≠ n))
theorem len_minimal_x (ds : List D) (h : pre_minimal_x ds) : ds.length = ["f", "a"].length := by obtain ⟨_, _, _, _, rfl, _⟩ := h; rfl
def post_minimal_x : List D → D → Prop := fun _ _ => False
def exn_minimal_x : List D → Nat → Prop := fun ds c => ∃ d r, ds = d :: r ∧ KX d c
theorem minimal_x_iff (d : D) (m n : Nat) (R : List (List D)) (hc : d.plain = true ∧ (IsFld d → m ≠ n)) {Q : D → Prop} {E : Nat → Prop} (h2 : ∀ c, KX d c → E c) : (pre_minimal_x [d, Mt m n R] ∧ (∀ r, post_minimal_x [d, Mt m n R] r → Q r) ∧ ∀ c, exn_minimal_x [d, Mt m n R] c → E c) := ⟨⟨d, m, n, R, rfl, hc⟩, fun r hr => hr.elim, fun c hr => by
  obtain ⟨d', r, e, h⟩ := hr
  cases e
  exact h2 c h⟩

def w_minimal_x_1 : WSX := xNever
def w_minimal_x_0 : WSX := xSeq (xRet (xBin dIx (xCall pre_generator_x post_generator_x exn_generator_x (xA (wCons (wName 0) (wCons (wName 1) wNil)))) (xE (wC (.int 1))))) w_minimal_x_1

theorem body_minimal_x : ∀ ds, pre_minimal_x ds → w_minimal_x_0 { nx := fun _ => post_minimal_x ds .none, rt := post_minimal_x ds } (fun c _ => exn_minimal_x ds c) (env0 ["f", "a"] ds) := by
  intro ds h
  obtain ⟨d, m, n, R, rfl, hc⟩ := h
  unfold w_minimal_x_0
  walk_at "dl"
  exact generator_x_iff d m n R hc fun c h => ⟨d, _, rfl, h⟩

theorem ok_minimal_x {P : Program} {w : World} {K : Fg} {mg : Str → Option Value} {base : Heap} {fa : Nat → Addr} {fdd : Nat → FuncData} {ca : Nat → Addr} (T : Txt K mg fa fdd ca) : FnOk P w K mg base (L2.CX P w) 6 (fa 74) (fdd 74) ["f", "a"] (SpX K ca pre_minimal_x post_minimal_x exn_minimal_x) := by
  have G76 : FnOk P w K mg base (L2.CX P w) 5 (fa 76) (fdd 76) ["f", "a"] (SpX K ca pre_generator_x post_generator_x exn_generator_x) := ok_generator_x T
  exact fnx_ok T.F74 sc74 len_minimal_x (fun cdv A outer s H E hr => ⟨_, w_minimal_x_0, (dssx_cons (dsx_ret (dex_ix ix_D sn2_ix (dex_call G76 hr (by rfl) T.g76 T.F76.kp T.b76 (takes_of rfl rfl rfl rfl) (dax_of (da_cons (de_name 0) (da_cons (de_name 1) da_nil)))) (dex_of de_int)))
      dssx_never), body_minimal_x⟩)
/-! ### cyclic_vector, raising -/
def pre_cyclic_vector_x : List D → Prop := fun ds => ∃ (d : D) (m n : Nat) (R : List (List D)), ds = [d, Mt m n R] ∧ (d.plain = true ∧ (IsFld d → m ≠ n))
theorem len_cyclic_vector_x (ds : List D) (h : pre_cyclic_vector_x ds) : ds.length = ["f", "a"].length := by obtain ⟨_, _, _, _, rfl, _⟩ := h; rfl
def post_cyclic_vector_x : List D → D → Prop := fun _ _ => False
def exn_cyclic_vector_x : List D → Nat → Prop := fun ds c => ∃ d r, ds = d :: r ∧ KX d c
theorem cyclic_vector_x_iff (d : D) (m n : Nat) (R : List (List D)) (hc : d.plain = true ∧ (IsFld d → m ≠ n)) {Q : D → Prop} {E : Nat → Prop} (h2 : ∀ c, KX d c → E c) : (pre_cyclic_vector_x [d, Mt m n R] ∧ (∀ r, post_cyclic_vector_x [d, Mt m n R] r → Q r) ∧ ∀ c, exn_cyclic_vector_x [d, Mt m n R] c → E c) := ⟨⟨d, m, n, R, rfl, hc⟩, fun r hr => hr.elim, fun c hr => by
  obtain ⟨d', r, e, h⟩ := hr
  cases e
  exact h2 c h⟩

def w_cyclic_vector_x_1 : WSX := xNever
def w_cyclic_vector_x_0 : WSX := xSeq (xRet (xBin dIx (xCall pre_generator_x post_generator_x exn_generator_x (xA (wCons (wName 0) (wCons (wName 1) wNil)))) (xE (wC (.int 0))))) w_cyclic_vector_x_1

theorem body_cyclic_vector_x : ∀ ds, pre_cyclic_vector_x ds → w_cyclic_vector_x_0 { nx := fun _ => post_cyclic_vector_x ds .none, rt := post_cyclic_vector_x ds } (fun c _ => exn_cyclic_vector_x ds c) (env0 ["f", "a"] ds) := by
  intro ds h
  obtain ⟨d, m, n, R, rfl, hc⟩ := h
  unfold w_cyclic_vector_x_0
  walk_at "dl"
  exact generator_x_iff d m n R hc fun c h => ⟨d, _, rfl, h⟩

theorem ok_cyclic_vector_x {P : Program} {w : World} {K : Fg} {mg : Str → Option Value} {base : Heap} {fa : Nat → Addr} {fdd : Nat → FuncData} {ca : Nat → Addr} (T : Txt K mg fa fdd ca) : FnOk P w K mg base (L2.CX P w) 6 (fa 75) (fdd 75) ["f", "a"] (SpX K ca pre_cyclic_vector_x post_cyclic_vector_x exn_cyclic_vector_x) := by
  have G76 : FnOk P w K mg base (L2.CX P w) 5 (fa 76) (fdd 76) ["f", "a"] (SpX K ca pre_generator_x post_generator_x exn_generator_x) := ok_generator_x T
  exact fnx_ok T.F75 sc75 len_cyclic_vector_x (fun cdv A outer s H E hr => ⟨_, w_cyclic_vector_x_0, (dssx_cons (dsx_ret (dex_ix ix_D sn2_ix (dex_call G76 hr (by rfl) T.g76 T.F76.kp T.b76 (takes_of rfl rfl rfl rfl) (dax_of (da_cons (de_name 0) (da_cons (de_name 1) da_nil)))) (dex_of de_int)))
      dssx_never), body_cyclic_vector_x⟩)
/-! ### frobenius, raising -/
def pre_frobenius_x : List D → Prop := fun ds => ∃ (d : D) (m n : Nat) (R : List (List D)), ds = [d, Mt m n R] ∧ (d.plain = true ∧ (IsFld d → m ≠ n))
theorem len_frobenius_x (ds : List D) (h : pre_frobenius_x ds) : ds.length = ["f", "a"].length := by obtain ⟨_, _, _, _, rfl, _⟩ := h; rfl
def post_frobenius_x : List D → D → Prop := fun _ _ => False
def exn_frobenius_x : List D → Nat → Prop := fun ds c => ∃ d r, ds = d :: r ∧ KX d c
theorem frobenius_x_iff (d : D) (m n : Nat) (R : List (List D)) (hc : d.plain = true ∧ (IsFld d → m ≠ n)) {Q : D → Prop} {E : Nat → Prop} (h2 : ∀ c, KX d c → E c) : (pre_frobenius_x [d, Mt m n R] ∧ (∀ r, post_frobenius_x [d, Mt m n R] r → Q r) ∧ ∀ c, exn_frobenius_x [d, Mt m n R] c → E c) := ⟨⟨d, m, n, R, rfl, hc⟩, fun r hr => hr.elim, fun c hr => by
  obtain ⟨d', r, e, h⟩ := hr
  cases e
  exact h2 c h⟩

def w_frobenius_x_1 : WSX := xNever
def w_frobenius_x_0 : WSX := xSeq (xAsg (xCall pre_cyclic_form_x post_cyclic_form_x exn_cyclic_form_x (xA (wCons (wName 0) (wCons (wName 1) wNil)))) (wgTup 3 (wgCons (wgName 2) (wgCons (wgName 3) (wgCons (wgName 4) wgNil))))) w_frobenius_x_1

theorem body_frobenius_x : ∀ ds, pre_frobenius_x ds → w_frobenius_x_0 { nx := fun _ => post_frobenius_x ds .none, rt := post_frobenius_x ds } (fun c _ => exn_frobenius_x ds c) (env0 ["f", "a", "polynomials", "t", "s", "g"] ds) := by
  intro ds h
  obtain ⟨d, m, n, R, rfl, hc⟩ := h
  unfold w_frobenius_x_0
  walk_at "dl"
  exact cyclic_form_x_iff d m n R hc fun c h => ⟨d, _, rfl, h⟩

theorem ok_frobenius_x {P : Program} {w : World} {K : Fg} {mg : Str → Option Value} {base : Heap} {fa : Nat → Addr} {fdd : Nat → FuncData} {ca : Nat → Addr} (T : Txt K mg fa fdd ca) : FnOk P w K mg base (L2.CX P w) 6 (fa 89) (fdd 89) ["f", "a"] (SpX K ca pre_frobenius_x post_frobenius_x exn_frobenius_x) := by
  have G90 : FnOk P w K mg base (L2.CX P w) 5 (fa 90) (fdd 90) ["f", "a"] (SpX K ca pre_cyclic_form_x post_cyclic_form_x exn_cyclic_form_x) := ok_cyclic_form_x T
  exact fnx_ok T.F89 sc89 len_frobenius_x (fun cdv A outer s H E hr => ⟨_, w_frobenius_x_0, (dssx_cons (dsx_asg (dex_call G90 hr (by rfl) T.g90 T.F90.kp T.b90 (takes_of rfl rfl rfl rfl) (dax_of (da_cons (de_name 0) (da_cons (de_name 1) da_nil)))) (dg_tup rfl (dgs_cons (dg_name (i := 2) sc89.nd) (dgs_cons (dg_name (i := 3) sc89.nd) (dgs_cons (dg_name (i := 4) sc89.nd) dgs_nil)))))
      dssx_never), body_frobenius_x⟩)
/-! ### similarity, raising -/
def pre_similarity_x : List D → Prop := fun ds => ∃ (d : D) (m n : Nat) (R : List (List D)) (p q : Nat) (S : List (List D)), ds = [d, Mt m n R, Mt p q S] ∧ (d.plain = true ∧ (IsFld d → m ≠ n ∨ p ≠ q ∨ m ≠ p))
theorem len_similarity_x (ds : List D) (h : pre_similarity_x ds) : ds.length = ["f", "a", "b"].length := by obtain ⟨_, _, _, _, _, _, _, rfl, _⟩ := h; rfl
def post_similarity_x : List D → D → Prop := fun _ _ => False
def exn_similarity_x : List D → Nat → Prop := fun ds c => ∃ d r, ds = d :: r ∧ KX d c
theorem similarity_x_iff (d : D) (m n : Nat) (R : List (List D)) (p q : Nat) (S : List (List D)) (hc : d.plain = true ∧ (IsFld d → m ≠ n ∨ p ≠ q ∨ m ≠ p)) {Q : D → Prop} {E : Nat → Prop} (h2 : ∀ c, KX d c → E c) : (pre_similarity_x [d, Mt m n R, Mt p q S] ∧ (∀ r, post_similarity_x [d, Mt m n R, Mt p q S] r → Q r) ∧ ∀ c, exn_similarity_x [d, Mt m n R, Mt p q S] c → E c) := ⟨⟨d, m, n, R, p, q, S, rfl, hc⟩, fun r hr => hr.elim, fun c hr => by
  obtain ⟨d', r, e, h⟩ := hr
  cases e
  exact h2 c h⟩

def w_similarity_x_1 : WSX := xNever
def w_similarity_x_0 : WSX := xSeq (xDrop (xCall pre_need_equal_sizes_x post_need_equal_sizes_x exn_need_equal_sizes_x (xA (wCons (wName 0) (wCons (wName 1) (wCons (wName 2) wNil)))))) w_similarity_x_1

theorem body_similarity_x : ∀ ds, pre_similarity_x ds → w_similarity_x_0 { nx := fun _ => post_similarity_x ds .none, rt := post_similarity_x ds } (fun c _ => exn_similarity_x ds c) (env0 ["f", "a", "b"] ds) := by
  intro ds h
  obtain ⟨d, m, n, R, p, q, S, rfl, hc⟩ := h
  unfold w_similarity_x_0
  walk_at "dl"
  exact need_equal_sizes_x_iff d m n R p q S hc fun c h => ⟨d, _, rfl, h⟩

theorem ok_similarity_x {P : Program} {w : World} {K : Fg} {mg : Str → Option Value} {base : Heap} {fa : Nat → Addr} {fdd : Nat → FuncData} {ca : Nat → Addr} (T : Txt K mg fa fdd ca) : FnOk P w K mg base (L2.CX P w) 6 (fa 92) (fdd 92) ["f", "a", "b"] (SpX K ca pre_similarity_x post_similarity_x exn_similarity_x) := by
  have G91 : FnOk P w K mg base (L2.CX P w) 5 (fa 91) (fdd 91) ["f", "a", "b"] (SpX K ca pre_need_equal_sizes_x post_need_equal_sizes_x exn_need_equal_sizes_x) := ok_need_equal_sizes_x T
  exact fnx_ok T.F92 sc92 len_similarity_x (fun cdv A outer s H E hr => ⟨_, w_similarity_x_0, (dssx_cons (dsx_expr (dex_call G91 hr (by rfl) T.g91 T.F91.kp T.b91 (takes_of rfl rfl rfl rfl) (dax_of (da_cons (de_name 0) (da_cons (de_name 1) (da_cons (de_name 2) da_nil))))))
      dssx_never), body_similarity_x⟩)
/-! ### difference, raising -/
def pre_difference_x : List D → Prop := fun ds => ∃ (d : D) (m n : Nat) (R : List (List D)) (p q : Nat) (S : List (List D)), ds = [d, Mt m n R, Mt p q S] ∧ (d.plain = true ∧ (IsFld d → m ≠ n ∨ p ≠ q ∨ m ≠ p))
theorem len_difference_x (ds : List D) (h : pre_difference_x ds) : ds.length = ["f", "a", "b"].length := by obtain ⟨_, _, _, _, _, _, _, rfl, _⟩ := h; rfl
def post_difference_x : List D → D → Prop := fun _ _ => False
def exn_difference_x : List D → Nat → Prop := fun ds c => ∃ d r, ds = d :: r ∧ KX d c
theorem difference_x_iff (d : D) (m n : Nat) (R : List (List D)) (p q : Nat) (S : List (List D)) (hc : d.plain = true ∧ (IsFld d → m ≠ n ∨ p ≠ q ∨ m ≠ p)) {Q : D → Prop} {E : Nat → Prop} (h2 : ∀ c, KX d c → E c) : (pre_difference_x [d, Mt m n R, Mt p q S] ∧ (∀ r, post_difference_x [d, Mt m n R, Mt p q S] r → Q r) ∧ ∀ c, exn_difference_x [d, Mt m n R, Mt p q S] c → E c) := ⟨⟨d, m, n, R, p, q, S, rfl, hc⟩, fun r hr => hr.elim, fun c hr => by
  obtain ⟨d', r, e, h⟩ := hr
  cases e
  exact h2 c h⟩

def w_difference_x_1 : WSX := xNever
def w_difference_x_0 : WSX := xSeq (xDrop (xCall pre_need_equal_sizes_x post_need_equal_sizes_x exn_need_equal_sizes_x (xA (wCons (wName 0) (wCons (wName 1) (wCons (wName 2) wNil)))))) w_difference_x_1

theorem body_difference_x : ∀ ds, pre_difference_x ds → w_difference_x_0 { nx := fun _ => post_difference_x ds .none, rt := post_difference_x ds } (fun c _ => exn_difference_x ds c) (env0 ["f", "a", "b", "first", "second", "g", "h"] ds) := by
  intro ds h
  obtain ⟨d, m, n, R, p, q, S, rfl, hc⟩ := h
  unfold w_difference_x_0
  walk_at "dl"
  exact need_equal_sizes_x_iff d m n R p q S hc fun c h => ⟨d, _, rfl, h⟩

theorem ok_difference_x {P : Program} {w : World} {K : Fg} {mg : Str → Option Value} {base : Heap} {fa : Nat → Addr} {fdd : Nat → FuncData} {ca : Nat → Addr} (T : Txt K mg fa fdd ca) : FnOk P w K mg base (L2.CX P w) 6 (fa 94) (fdd 94) ["f", "a", "b"] (SpX K ca pre_difference_x post_difference_x exn_difference_x) := by
  have G91 : FnOk P w K mg base (L2.CX P w) 5 (fa 91) (fdd 91) ["f", "a", "b"] (SpX K ca pre_need_equal_sizes_x post_need_equal_sizes_x exn_need_equal_sizes_x) := ok_need_equal_sizes_x T
  exact fnx_ok T.F94 sc94 len_difference_x (fun cdv A outer s H E hr => ⟨_, w_difference_x_0, (dssx_cons (dsx_expr (dex_call G91 hr (by rfl) T.g91 T.F91.kp T.b91 (takes_of rfl rfl rfl rfl) (dax_of (da_cons (de_name 0) (da_cons (de_name 1) (da_cons (de_name 2) da_nil))))))
      dssx_never), body_difference_x⟩)
/-! ### eigenvalues, raising -/
def pre_eigenvalues_x : List D → Prop := fun ds => ∃ (d : D) (m n : Nat) (R : List (List D)), ds = [d, Mt m n R] ∧ (d.plain = true ∧ (IsFld d → m ≠ n))
theorem len_eigenvalues_x (ds : List D) (h : pre_eigenvalues_x ds) : ds.length = ["f", "a"].length := by obtain ⟨_, _, _, _, rfl, _⟩ := h; rfl
def post_eigenvalues_x : List D → D → Prop := fun _ _ => False
def exn_eigenvalues_x : List D → Nat → Prop := fun ds c => ∃ d r, ds = d :: r ∧ KX d c
theorem eigenvalues_x_iff (d : D) (m n : Nat) (R : List (List D)) (hc : d.plain = true ∧ (IsFld d → m ≠ n)) {Q : D → Prop} {E : Nat → Prop} (h2 : ∀ c, KX d c → E c) : (pre_eigenvalues_x [d, Mt m n R] ∧ (∀ r, post_eigenvalues_x [d, Mt m n R] r → Q r) ∧ ∀ c, exn_eigenvalues_x [d, Mt m n R] c → E c) := ⟨⟨d, m, n, R, rfl, hc⟩, fun r hr => hr.elim, fun c hr => by
  obtain ⟨d', r, e, h⟩ := hr
  cases e
  exact h2 c h⟩

def w_eigenvalues_x_1 : WSX := xNever
def w_eigenvalues_x_0 : WSX := xSeq (xRet (xCallD pre_never post_never (xCons (xE (wName 0)) (xCons (xCall pre_characteristic_x post_characteristic_x exn_characteristic_x (xA (wCons (wName 0) (wCons (wName 1) wNil)))) (xA wNil))))) w_eigenvalues_x_1

theorem body_eigenvalues_x : ∀ ds, pre_eigenvalues_x ds → w_eigenvalues_x_0 { nx := fun _ => post_eigenvalues_x ds .none, rt := post_eigenvalues_x ds } (fun c _ => exn_eigenvalues_x ds c) (env0 ["f", "a"] ds) := by
  intro ds h
  obtain ⟨d, m, n, R, rfl, hc⟩ := h
  unfold w_eigenvalues_x_0
  walk_at "dl"
  exact characteristic_x_iff d m n R hc fun c h => ⟨d, _, rfl, h⟩

theorem ok_eigenvalues_x {P : Program} {w : World} {K : Fg} {mg : Str → Option Value} {base : Heap} {fa : Nat → Addr} {fdd : Nat → FuncData} {ca : Nat → Addr} (T : Txt K mg fa fdd ca) : FnOk P w K mg base (L2.CX P w) 6 (fa 116) (fdd 116) ["f", "a"] (SpX K ca pre_eigenvalues_x post_eigenvalues_x exn_eigenvalues_x) := by
  have G112 : FnOk P w K mg base CX0 0 (fa 112) (fdd 112) ["f", "a"] (SpD K pre_never post_never) := fn_never
  have G68 : FnOk P w K mg base (L2.CX P w) 5 (fa 68) (fdd 68) ["f", "a"] (SpX K ca pre_characteristic_x post_characteristic_x exn_characteristic_x) := ok_characteristic_x T
  exact fnx_ok T.F116 sc116 len_eigenvalues_x (fun cdv A outer s H E hr => ⟨_, w_eigenvalues_x_0, (dssx_cons (dsx_ret (dex_callD G112 (hr.mono (by decide)) (by rfl) T.g112 T.F112.kp T.b112 pass0 (dax_cons (dex_of (de_name 0)) (dax_cons (dex_call G68 hr (by rfl) T.g68 T.F68.kp T.b68 (takes_of rfl rfl rfl rfl) (dax_of (da_cons (de_name 0) (da_cons (de_name 1) da_nil)))) (dax_of da_nil)))))
      dssx_never), body_eigenvalues_x⟩)
/-! ### jordan, raising -/
def pre_jordan_x : List D → Prop := fun ds => ∃ (d : D) (m n : Nat) (R : List (List D)), ds = [d, Mt m n R] ∧ (d.plain = true ∧ (IsFld d → m ≠ n))
theorem len_jordan_x (ds : List D) (h : pre_jordan_x ds) : ds.length = ["f", "a"].length := by obtain ⟨_, _, _, _, rfl, _⟩ := h; rfl
def post_jordan_x : List D → D → Prop := fun _ _ => False
def exn_jordan_x : List D → Nat → Prop := fun ds c => ∃ d r, ds = d :: r ∧ KX d c
theorem jordan_x_iff (d : D) (m n : Nat) (R : List (List D)) (hc : d.plain = true ∧ (IsFld d → m ≠ n)) {Q : D → Prop} {E : Nat → Prop} (h2 : ∀ c, KX d c → E c) : (pre_jordan_x [d, Mt m n R] ∧ (∀ r, post_jordan_x [d, Mt m n R] r → Q r) ∧ ∀ c, exn_jordan_x [d, Mt m n R] c → E c) := ⟨⟨d, m, n, R, rfl, hc⟩, fun r hr => hr.elim, fun c hr => by
  obtain ⟨d', r, e, h⟩ := hr
  cases e
  exact h2 c h⟩

def w_jordan_x_1 : WSX := xNever
def w_jordan_x_0 : WSX := xSeq (xAsg (xCall pre_characteristic_x post_characteristic_x exn_characteristic_x (xA (wCons (wName 0) (wCons (wName 1) wNil)))) (wgName 2)) w_jordan_x_1

theorem body_jordan_x : ∀ ds, pre_jordan_x ds → w_jordan_x_0 { nx := fun _ => post_jordan_x ds .none, rt := post_jordan_x ds } (fun c _ => exn_jordan_x ds c) (env0 ["f", "a", "g", "pairs", "parts", "blocks", "columns", "x", "_", "factor", "k", "rest", "many", "v", "j", "turned", "row"] ds) := by
  intro ds h
  obtain ⟨d, m, n, R, rfl, hc⟩ := h
  unfold w_jordan_x_0
  walk_at "dl"
  exact characteristic_x_iff d m n R hc fun c h => ⟨d, _, rfl, h⟩

theorem ok_jordan_x {P : Program} {w : World} {K : Fg} {mg : Str → Option Value} {base : Heap} {fa : Nat → Addr} {fdd : Nat → FuncData} {ca : Nat → Addr} (T : Txt K mg fa fdd ca) : FnOk P w K mg base (L2.CX P w) 6 (fa 120) (fdd 120) ["f", "a"] (SpX K ca pre_jordan_x post_jordan_x exn_jordan_x) := by
  have G68 : FnOk P w K mg base (L2.CX P w) 5 (fa 68) (fdd 68) ["f", "a"] (SpX K ca pre_characteristic_x post_characteristic_x exn_characteristic_x) := ok_characteristic_x T
  exact fnx_ok T.F120 sc120 len_jordan_x (fun cdv A outer s H E hr => ⟨_, w_jordan_x_0, (dssx_cons (dsx_set (i := 2) sc120.nd (dex_call G68 hr (by rfl) T.g68 T.F68.kp T.b68 (takes_of rfl rfl rfl rfl) (dax_of (da_cons (de_name 0) (da_cons (de_name 1) da_nil)))))
      dssx_never), body_jordan_x⟩)
/-! ### unsplit, raising -/
def pre_unsplit_x : List D → Prop := fun ds => ∃ (d : D) (m n : Nat) (R : List (List D)), ds = [d, Mt m n R] ∧ (d.plain = true ∧ (IsFld d → m ≠ n))
theorem len_unsplit_x (ds : List D) (h : pre_unsplit_x ds) : ds.length = ["f", "a"].length := by obtain ⟨_, _, _, _, rfl, _⟩ := h; rfl
def post_unsplit_x : List D → D → Prop := fun _ _ => False
def exn_unsplit_x : List D → Nat → Prop := fun ds c => ∃ d r, ds = d :: r ∧ KX d c
theorem unsplit_x_iff (d : D) (m n : Nat) (R : List (List D)) (hc : d.plain = true ∧ (IsFld d → m ≠ n)) {Q : D → Prop} {E : Nat → Prop} (h2 : ∀ c, KX d c → E c) : (pre_unsplit_x [d, Mt m n R] ∧ (∀ r, post_unsplit_x [d, Mt m n R] r → Q r) ∧ ∀ c, exn_unsplit_x [d, Mt m n R] c → E c) := ⟨⟨d, m, n, R, rfl, hc⟩, fun r hr => hr.elim, fun c hr => by
  obtain ⟨d', r, e, h⟩ := hr
  cases e
  exact h2 c h⟩

def w_unsplit_x_1 : WSX := xNever
def w_unsplit_x_0 : WSX := xSeq (xAsg (xCall pre_characteristic_x post_characteristic_x exn_characteristic_x (xA (wCons (wName 0) (wCons (wName 1) wNil)))) (wgName 2)) w_unsplit_x_1

theorem body_unsplit_x : ∀ ds, pre_unsplit_x ds → w_unsplit_x_0 { nx := fun _ => post_unsplit_x ds .none, rt := post_unsplit_x ds } (fun c _ => exn_unsplit_x ds c) (env0 ["f", "a", "g", "x", "_"] ds) := by
  intro ds h
  obtain ⟨d, m, n, R, rfl, hc⟩ := h
  unfold w_unsplit_x_0
  walk_at "dl"
  exact characteristic_x_iff d m n R hc fun c h => ⟨d, _, rfl, h⟩

theorem ok_unsplit_x {P : Program} {w : World} {K : Fg} {mg : Str → Option Value} {base : Heap} {fa : Nat → Addr} {fdd : Nat → FuncData} {ca : Nat → Addr} (T : Txt K mg fa fdd ca) : FnOk P w K mg base (L2.CX P w) 6 (fa 122) (fdd 122) ["f", "a"] (SpX K ca pre_unsplit_x post_unsplit_x exn_unsplit_x) := by
  have G68 : FnOk P w K mg base (L2.CX P w) 5 (fa 68) (fdd 68) ["f", "a"] (SpX K ca pre_characteristic_x post_characteristic_x exn_characteristic_x) := ok_characteristic_x T
  exact fnx_ok T.F122 sc122 len_unsplit_x (fun cdv A outer s H E hr => ⟨_, w_unsplit_x_0, (dssx_cons (dsx_set (i := 2) sc122.nd (dex_call G68 hr (by rfl) T.g68 T.F68.kp T.b68 (takes_of rfl rfl rfl rfl) (dax_of (da_cons (de_name 0) (da_cons (de_name 1) da_nil)))))
      dssx_never), body_unsplit_x⟩)
/-! ### is_diagonal, raising -/
def pre_is_diagonal_x : List D → Prop := fun ds => ∃ (d : D) (m n : Nat) (R : List (List D)), ds = [d, Mt m n R] ∧ (d.plain = true ∧ (IsFld d → m ≠ n))
theorem len_is_diagonal_x (ds : List D) (h : pre_is_diagonal_x ds) : ds.length = ["f", "a"].length := by obtain ⟨_, _, _, _, rfl, _⟩ := h; rfl
def post_is_diagonal_x : List D → D → Prop := fun _ _ => False
def exn_is_diagonal_x : List D → Nat → Prop := fun ds c => ∃ d r, ds = d :: r ∧ KX d c
theorem is_diagonal_x_iff (d : D) (m n : Nat) (R : List (List D)) (hc : d.plain = true ∧ (IsFld d → m ≠ n)) {Q : D → Prop} {E : Nat → Prop} (h2 : ∀ c, KX d c → E c) : (pre_is_diagonal_x [d, Mt m n R] ∧ (∀ r, post_is_diagonal_x [d, Mt m n R] r → Q r) ∧ ∀ c, exn_is_diagonal_x [d, Mt m n R] c → E c) := ⟨⟨d, m, n, R, rfl, hc⟩, fun r hr => hr.elim, fun c hr => by
  obtain ⟨d', r, e, h⟩ := hr
  cases e
  exact h2 c h⟩

def w_is_diagonal_x_1 : WSX := xNever
def w_is_diagonal_x_0 : WSX := xSeq (xAsg (xCall pre_characteristic_x post_characteristic_x exn_characteristic_x (xA (wCons (wName 0) (wCons (wName 1) wNil)))) (wgName 2)) w_is_diagonal_x_1

theorem body_is_diagonal_x : ∀ ds, pre_is_diagonal_x ds → w_is_diagonal_x_0 { nx := fun _ => post_is_diagonal_x ds .none, rt := post_is_diagonal_x ds } (fun c _ => exn_is_diagonal_x ds c) (env0 ["f", "a", "g"] ds) := by
  intro ds h
  obtain ⟨d, m, n, R, rfl, hc⟩ := h
  unfold w_is_diagonal_x_0
  walk_at "dl"
  exact characteristic_x_iff d m n R hc fun c h => ⟨d, _, rfl, h⟩

theorem ok_is_diagonal_x {P : Program} {w : World} {K : Fg} {mg : Str → Option Value} {base : Heap} {fa : Nat → Addr} {fdd : Nat → FuncData} {ca : Nat → Addr} (T : Txt K mg fa fdd ca) : FnOk P w K mg base (L2.CX P w) 6 (fa 123) (fdd 123) ["f", "a"] (SpX K ca pre_is_diagonal_x post_is_diagonal_x exn_is_diagonal_x) := by
  have G68 : FnOk P w K mg base (L2.CX P w) 5 (fa 68) (fdd 68) ["f", "a"] (SpX K ca pre_characteristic_x post_characteristic_x exn_characteristic_x) := ok_characteristic_x T
  exact fnx_ok T.F123 sc123 len_is_diagonal_x (fun cdv A outer s H E hr => ⟨_, w_is_diagonal_x_0, (dssx_cons (dsx_set (i := 2) sc123.nd (dex_call G68 hr (by rfl) T.g68 T.F68.kp T.b68 (takes_of rfl rfl rfl rfl) (dax_of (da_cons (de_name 0) (da_cons (de_name 1) da_nil)))))
      dssx_never), body_is_diagonal_x⟩)
def fspec : Str → Option FS := tabC "characteristic" ⟨pre_characteristic_x, post_characteristic_x, exn_characteristic_x⟩ (tabC "minimal" ⟨pre_minimal_x, post_minimal_x, exn_minimal_x⟩ (tabC "cyclic_vector" ⟨pre_cyclic_vector_x, post_cyclic_vector_x, exn_cyclic_vector_x⟩ (tabC "invariant_factors" ⟨pre_invariant_factors_x, post_invariant_factors_x, exn_invariant_factors_x⟩ (tabC "frobenius" ⟨pre_frobenius_x, post_frobenius_x, exn_frobenius_x⟩ (tabC "eigenvalues" ⟨pre_eigenvalues_x, post_eigenvalues_x, exn_eigenvalues_x⟩ (tabC "jordan" ⟨pre_jordan_x, post_jordan_x, exn_jordan_x⟩ (tabC "unsplit" ⟨pre_unsplit_x, post_unsplit_x, exn_unsplit_x⟩ (tabC "is_diagonal" ⟨pre_is_diagonal_x, post_is_diagonal_x, exn_is_diagonal_x⟩ (tabC "annihilator" ⟨pre_annihilator_x, post_annihilator_x, exn_annihilator_x⟩ (tabC "krylov" ⟨pre_krylov_x, post_krylov_x, exn_krylov_x⟩ (tabC "similarity" ⟨pre_similarity_x, post_similarity_x, exn_similarity_x⟩ (tabC "difference" ⟨pre_difference_x, post_difference_x, exn_difference_x⟩ (tabC "companion" ⟨pre_companion_x, post_companion_x, exn_companion_x⟩ (tabC "jordan_block" ⟨pre_jordan_block_x, post_jordan_block_x, exn_jordan_block_x⟩ (tabN)))))))))))))))
def ftab : Str → FS → Prop := fun x s => fspec x = some s
theorem ft_characteristic : ftab "characteristic" ⟨pre_characteristic_x, post_characteristic_x, exn_characteristic_x⟩ := tabC_hit
theorem ft_minimal : ftab "minimal" ⟨pre_minimal_x, post_minimal_x, exn_minimal_x⟩ := tabC_skip (by decide +kernel) (tabC_hit)
theorem ft_cyclic_vector : ftab "cyclic_vector" ⟨pre_cyclic_vector_x, post_cyclic_vector_x, exn_cyclic_vector_x⟩ := tabC_skip (by decide +kernel) (tabC_skip (by decide +kernel) (tabC_hit))
theorem ft_invariant_factors : ftab "invariant_factors" ⟨pre_invariant_factors_x, post_invariant_factors_x, exn_invariant_factors_x⟩ := tabC_skip (by decide +kernel) (tabC_skip (by decide +kernel) (tabC_skip (by decide +kernel) (tabC_hit)))
theorem ft_frobenius : ftab "frobenius" ⟨pre_frobenius_x, post_frobenius_x, exn_frobenius_x⟩ := tabC_skip (by decide +kernel) (tabC_skip (by decide +kernel) (tabC_skip (by decide +kernel) (tabC_skip (by decide +kernel) (tabC_hit))))
theorem ft_eigenvalues : ftab "eigenvalues" ⟨pre_eigenvalues_x, post_eigenvalues_x, exn_eigenvalues_x⟩ := tabC_skip (by decide +kernel) (tabC_skip (by decide +kernel) (tabC_skip (by decide +kernel) (tabC_skip (by decide +kernel) (tabC_skip (by decide +kernel) (tabC_hit)))))
theorem ft_jordan : ftab "jordan" ⟨pre_jordan_x, post_jordan_x, exn_jordan_x⟩ := tabC_skip (by decide +kernel) (tabC_skip (by decide +kernel) (tabC_skip (by decide +kernel) (tabC_skip (by decide +kernel) (tabC_skip (by decide +kernel) (tabC_skip (by decide +kernel) (tabC_hit))))))
theorem ft_unsplit : ftab "unsplit" ⟨pre_unsplit_x, post_unsplit_x, exn_unsplit_x⟩ := tabC_skip (by decide +kernel) (tabC_skip (by decide +kernel) (tabC_skip (by decide +kernel) (tabC_skip (by decide +kernel) (tabC_skip (by decide +kernel) (tabC_skip (by decide +kernel) (tabC_skip (by decide +kernel) (tabC_hit)))))))
theorem ft_is_diagonal : ftab "is_diagonal" ⟨pre_is_diagonal_x, post_is_diagonal_x, exn_is_diagonal_x⟩ := tabC_skip (by decide +kernel) (tabC_skip (by decide +kernel) (tabC_skip (by decide +kernel) (tabC_skip (by decide +kernel) (tabC_skip (by decide +kernel) (tabC_skip (by decide +kernel) (tabC_skip (by decide +kernel) (tabC_skip (by decide +kernel) (tabC_hit))))))))
theorem ft_annihilator : ftab "annihilator" ⟨pre_annihilator_x, post_annihilator_x, exn_annihilator_x⟩ := tabC_skip (by decide +kernel) (tabC_skip (by decide +kernel) (tabC_skip (by decide +kernel) (tabC_skip (by decide +kernel) (tabC_skip (by decide +kernel) (tabC_skip (by decide +kernel) (tabC_skip (by decide +kernel) (tabC_skip (by decide +kernel) (tabC_skip (by decide +kernel) (tabC_hit)))))))))
theorem ft_krylov : ftab "krylov" ⟨pre_krylov_x, post_krylov_x, exn_krylov_x⟩ := tabC_skip (by decide +kernel) (tabC_skip (by decide +kernel) (tabC_skip (by decide +kernel) (tabC_skip (by decide +kernel) (tabC_skip (by decide +kernel) (tabC_skip (by decide +kernel) (tabC_skip (by decide +kernel) (tabC_skip (by decide +kernel) (tabC_skip (by decide +kernel) (tabC_skip (by decide +kernel) (tabC_hit))))))))))
theorem ft_similarity : ftab "similarity" ⟨pre_similarity_x, post_similarity_x, exn_similarity_x⟩ := tabC_skip (by decide +kernel) (tabC_skip (by decide +kernel) (tabC_skip (by decide +kernel) (tabC_skip (by decide +kernel) (tabC_skip (by decide +kernel) (tabC_skip (by decide +kernel) (tabC_skip (by decide +kernel) (tabC_skip (by decide +kernel) (tabC_skip (by decide +kernel) (tabC_skip (by decide +kernel) (tabC_skip (by decide +kernel) (tabC_hit)))))))))))
theorem ft_difference : ftab "difference" ⟨pre_difference_x, post_difference_x, exn_difference_x⟩ := tabC_skip (by decide +kernel) (tabC_skip (by decide +kernel) (tabC_skip (by decide +kernel) (tabC_skip (by decide +kernel) (tabC_skip (by decide +kernel) (tabC_skip (by decide +kernel) (tabC_skip (by decide +kernel) (tabC_skip (by decide +kernel) (tabC_skip (by decide +kernel) (tabC_skip (by decide +kernel) (tabC_skip (by decide +kernel) (tabC_skip (by decide +kernel) (tabC_hit))))))))))))
theorem ft_companion : ftab "companion" ⟨pre_companion_x, post_companion_x, exn_companion_x⟩ := tabC_skip (by decide +kernel) (tabC_skip (by decide +kernel) (tabC_skip (by decide +kernel) (tabC_skip (by decide +kernel) (tabC_skip (by decide +kernel) (tabC_skip (by decide +kernel) (tabC_skip (by decide +kernel) (tabC_skip (by decide +kernel) (tabC_skip (by decide +kernel) (tabC_skip (by decide +kernel) (tabC_skip (by decide +kernel) (tabC_skip (by decide +kernel) (tabC_skip (by decide +kernel) (tabC_hit)))))))))))))
theorem ft_jordan_block : ftab "jordan_block" ⟨pre_jordan_block_x, post_jordan_block_x, exn_jordan_block_x⟩ := tabC_skip (by decide +kernel) (tabC_skip (by decide +kernel) (tabC_skip (by decide +kernel) (tabC_skip (by decide +kernel) (tabC_skip (by decide +kernel) (tabC_skip (by decide +kernel) (tabC_skip (by decide +kernel) (tabC_skip (by decide +kernel) (tabC_skip (by decide +kernel) (tabC_skip (by decide +kernel) (tabC_skip (by decide +kernel) (tabC_skip (by decide +kernel) (tabC_skip (by decide +kernel) (tabC_skip (by decide +kernel) (tabC_hit))))))))))))))
/-! ### _law_called: a def that is given as a value -/
/-- the call raises the class c and nothing else -/
def RC (y : Str) (args : List D) (c : Nat) : Prop := ∃ s, ftab y s ∧ s.pre args ∧ (∀ r, ¬ s.post args r) ∧ ∀ c', s.exn args c' → c' = c
theorem RC.of {y : Str} {pre : List D → Prop} {post : List D → D → Prop} {exn : List D → Nat → Prop} {args : List D} {c : Nat} (h : ftab y ⟨pre, post, exn⟩) (k : pre args ∧ (∀ r, post args r → False) ∧ ∀ c', exn args c' → c' = c) : RC y args c := ⟨_, h, k.1, k.2.1, k.2.2⟩
def pre_law_called_x : List D → Prop := fun ds => ∃ (y : Str) (args : List D) (s : FS), ds = [fnD y, .tuple args] ∧ ftab y s ∧ s.pre args ∧ (∀ r, ¬ s.post args r) ∧ 1 ≤ args.length ∧ args.length ≤ 4
theorem len_law_called_x (ds : List D) (h : pre_law_called_x ds) : ds.length = ["f", "args"].length := by obtain ⟨_, _, _, rfl, _⟩ := h; rfl
def post_law_called_x : List D → D → Prop := fun _ _ => False
def exn_law_called_x : List D → Nat → Prop := fun ds c => ∃ (y : Str) (args : List D) (s : FS), ds = [fnD y, .tuple args] ∧ ftab y s ∧ s.exn args c
theorem lcalled_x_iff (y : Str) (args : List D) (c : Nat) (h : RC y args c) (h1 : 1 ≤ args.length) (h4 : args.length ≤ 4) {Q : D → Prop} {E : Nat → Prop} (h2 : ∀ c1, (∀ c, RC y args c → c1 = c) → E c1) : (pre_law_called_x [fnD y, .tuple args] ∧ (∀ r, post_law_called_x [fnD y, .tuple args] r → Q r) ∧ ∀ c, exn_law_called_x [fnD y, .tuple args] c → E c) := by
  obtain ⟨s, hs, p1, p2, p3⟩ := h
  refine ⟨⟨y, args, s, rfl, hs, p1, p2, h1, h4⟩, fun r hr => hr.elim, fun c1 hc => h2 c1 fun c2 hc2 => ?_⟩
  obtain ⟨y', args', s', e, hs', he⟩ := hc
  obtain ⟨s2, hs2, _, _, q3⟩ := hc2
  simp only [List.cons.injEq, fnD, PyData.dict.injEq, PyData.tuple.injEq, Prod.mk.injEq, PyData.str.injEq, and_true] at e
  obtain ⟨rfl, rfl⟩ := e
  have u := hs'.symm.trans hs2
  cases u
  exact q3 c1 he

def w_law_called_x_3 : WSX := (xRet (xCallF ftab 0 (xA (wCons (wBin dIx (wName 1) (wC (.int 0))) (wCons (wBin dIx (wName 1) (wC (.int 1))) (wCons (wBin dIx (wName 1) (wC (.int 2))) (wCons (wBin dIx (wName 1) (wC (.int 3))) wNil)))))))
def w_law_called_x_2 : WSX := xSeq (xIf (wTest (wBin dEq (wB bLen (wCons (wName 1) wNil)) (wC (.int 3)))) (xRet (xCallF ftab 0 (xA (wCons (wBin dIx (wName 1) (wC (.int 0))) (wCons (wBin dIx (wName 1) (wC (.int 1))) (wCons (wBin dIx (wName 1) (wC (.int 2))) wNil)))))) xNext) w_law_called_x_3
def w_law_called_x_1 : WSX := xSeq (xIf (wTest (wBin dEq (wB bLen (wCons (wName 1) wNil)) (wC (.int 2)))) (xRet (xCallF ftab 0 (xA (wCons (wBin dIx (wName 1) (wC (.int 0))) (wCons (wBin dIx (wName 1) (wC (.int 1))) wNil))))) xNext) w_law_called_x_2
def w_law_called_x_0 : WSX := xSeq (xIf (wTest (wBin dEq (wB bLen (wCons (wName 1) wNil)) (wC (.int 1)))) (xRet (xCallF ftab 0 (xA (wCons (wBin dIx (wName 1) (wC (.int 0))) wNil)))) xNext) w_law_called_x_1

theorem body_law_called_x : ∀ ds, pre_law_called_x ds → w_law_called_x_0 { nx := fun _ => post_law_called_x ds .none, rt := post_law_called_x ds } (fun c _ => exn_law_called_x ds c) (env0 ["f", "args"] ds) := by
  intro ds h
  obtain ⟨y, args, s, rfl, hs, p1, p2, h1, h4⟩ := h
  have fin : ∀ as, as = args → s.pre as ∧ (∀ d, s.post as d → post_law_called_x [fnD y, .tuple args] d) ∧ ∀ c, s.exn as c → exn_law_called_x [fnD y, .tuple args] c := fun as e => by
    subst e
    exact ⟨p1, fun d hd => p2 d hd, fun c hc => ⟨y, as, s, rfl, hs, hc⟩⟩
  generalize post_law_called_x [fnD y, .tuple args] = PP at fin
  generalize exn_law_called_x [fnD y, .tuple args] = EE at fin
  match args, h1, h4, fin with
  | [a], _, _, fin =>
    unfold w_law_called_x_0
    walk_at "dl"
    refine ⟨y, s, rfl, hs, ?_⟩
    walk_at "dl"
    exact fin _ rfl
  | [a, b], _, _, fin =>
    unfold w_law_called_x_0
    walk_at "dl"
    unfold w_law_called_x_1
    walk_at "dl"
    refine ⟨y, s, rfl, hs, ?_⟩
    walk_at "dl"
    exact fin _ rfl
  | [a, b, c], _, _, fin =>
    unfold w_law_called_x_0
    walk_at "dl"
    unfold w_law_called_x_1
    walk_at "dl"
    unfold w_law_called_x_2
    walk_at "dl"
    refine ⟨y, s, rfl, hs, ?_⟩
    walk_at "dl"
    exact fin _ rfl
  | [a, b, c, d], _, _, fin =>
    unfold w_law_called_x_0
    walk_at "dl"
    unfold w_law_called_x_1
    walk_at "dl"
    unfold w_law_called_x_2
    walk_at "dl"
    unfold w_law_called_x_3
    walk_at "dl"
    refine ⟨y, s, rfl, hs, ?_⟩
    walk_at "dl"
    refine dIx_tup (x := d) (by decide) rfl ?_
    exact fin _ rfl
  | _ :: _ :: _ :: _ :: _ :: _, _, h, _ => exact absurd h (by simp)

theorem ok_law_called_x {P : Program} {w : World} {K : Fg} {mg : Str → Option Value} {base : Heap} {fa : Nat → Addr} {fdd : Nat → FuncData} {ca : Nat → Addr} (T : Txt K mg fa fdd ca) : FnOk P w K mg base (L2.CX P w) 7 (fa 152) (fdd 152) ["f", "args"] (SpX K ca pre_law_called_x post_law_called_x exn_law_called_x) := by
  have G68 : FnOk P w K mg base (L2.CX P w) 5 (fa 68) (fdd 68) ["f", "a"] (SpX K ca pre_characteristic_x post_characteristic_x exn_characteristic_x) := ok_characteristic_x T
  have G74 : FnOk P w K mg base (L2.CX P w) 6 (fa 74) (fdd 74) ["f", "a"] (SpX K ca pre_minimal_x post_minimal_x exn_minimal_x) := ok_minimal_x T
  have G75 : FnOk P w K mg base (L2.CX P w) 6 (fa 75) (fdd 75) ["f", "a"] (SpX K ca pre_cyclic_vector_x post_cyclic_vector_x exn_cyclic_vector_x) := ok_cyclic_vector_x T
  have G88 : FnOk P w K mg base (L2.CX P w) 5 (fa 88) (fdd 88) ["f", "a"] (SpX K ca pre_invariant_factors_x post_invariant_factors_x exn_invariant_factors_x) := ok_invariant_factors_x T
  have G89 : FnOk P w K mg base (L2.CX P w) 6 (fa 89) (fdd 89) ["f", "a"] (SpX K ca pre_frobenius_x post_frobenius_x exn_frobenius_x) := ok_frobenius_x T
  have G116 : FnOk P w K mg base (L2.CX P w) 6 (fa 116) (fdd 116) ["f", "a"] (SpX K ca pre_eigenvalues_x post_eigenvalues_x exn_eigenvalues_x) := ok_eigenvalues_x T
  have G120 : FnOk P w K mg base (L2.CX P w) 6 (fa 120) (fdd 120) ["f", "a"] (SpX K ca pre_jordan_x post_jordan_x exn_jordan_x) := ok_jordan_x T
  have G122 : FnOk P w K mg base (L2.CX P w) 6 (fa 122) (fdd 122) ["f", "a"] (SpX K ca pre_unsplit_x post_unsplit_x exn_unsplit_x) := ok_unsplit_x T
  have G123 : FnOk P w K mg base (L2.CX P w) 6 (fa 123) (fdd 123) ["f", "a"] (SpX K ca pre_is_diagonal_x post_is_diagonal_x exn_is_diagonal_x) := ok_is_diagonal_x T
  have G71 : FnOk P w K mg base (L2.CX P w) 5 (fa 71) (fdd 71) ["f", "a", "v"] (SpX K ca pre_annihilator_x post_annihilator_x exn_annihilator_x) := ok_annihilator_x T
  have G73 : FnOk P w K mg base (L2.CX P w) 6 (fa 73) (fdd 73) ["f", "a", "v"] (SpX K ca pre_krylov_x post_krylov_x exn_krylov_x) := ok_krylov_x T
  have G92 : FnOk P w K mg base (L2.CX P w) 6 (fa 92) (fdd 92) ["f", "a", "b"] (SpX K ca pre_similarity_x post_similarity_x exn_similarity_x) := ok_similarity_x T
  have G94 : FnOk P w K mg base (L2.CX P w) 6 (fa 94) (fdd 94) ["f", "a", "b"] (SpX K ca pre_difference_x post_difference_x exn_difference_x) := ok_difference_x T
  have G79 : FnOk P w K mg base (L2.CX P w) 5 (fa 79) (fdd 79) ["f", "g"] (SpX K ca pre_companion_x post_companion_x exn_companion_x) := ok_companion_x T
  have G117 : FnOk P w K mg base (L2.CX P w) 5 (fa 117) (fdd 117) ["f", "x", "k"] (SpX K ca pre_jordan_block_x post_jordan_block_x exn_jordan_block_x) := ok_jordan_block_x T
  have TB : TabOk P w K mg base ca 6 ftab := tabOk_cons T.n68 (HeldF.of G68 (by decide) T.F68.kp T.b68) (tabOk_cons T.n74 (HeldF.of G74 (by decide) T.F74.kp T.b74) (tabOk_cons T.n75 (HeldF.of G75 (by decide) T.F75.kp T.b75) (tabOk_cons T.n88 (HeldF.of G88 (by decide) T.F88.kp T.b88) (tabOk_cons T.n89 (HeldF.of G89 (by decide) T.F89.kp T.b89) (tabOk_cons T.n116 (HeldF.of G116 (by decide) T.F116.kp T.b116) (tabOk_cons T.n120 (HeldF.of G120 (by decide) T.F120.kp T.b120) (tabOk_cons T.n122 (HeldF.of G122 (by decide) T.F122.kp T.b122) (tabOk_cons T.n123 (HeldF.of G123 (by decide) T.F123.kp T.b123) (tabOk_cons T.n71 (HeldF.of G71 (by decide) T.F71.kp T.b71) (tabOk_cons T.n73 (HeldF.of G73 (by decide) T.F73.kp T.b73) (tabOk_cons T.n92 (HeldF.of G92 (by decide) T.F92.kp T.b92) (tabOk_cons T.n94 (HeldF.of G94 (by decide) T.F94.kp T.b94) (tabOk_cons T.n79 (HeldF.of G79 (by decide) T.F79.kp T.b79) (tabOk_cons T.n117 (HeldF.of G117 (by decide) T.F117.kp T.b117) (tabOk_nil)))))))))))))))
  exact fnx_ok T.F152 sc152 len_law_called_x (fun cdv A outer s H E hr => ⟨_, w_law_called_x_0, (dssx_cons (dsx_if (dt_cmp (op_eqP hr.units) sn2_eq (de_callB call_len_seq snc_len (by rfl) T.m_len (by decide +kernel) (da_cons (de_name 1) da_nil)) de_int) (dssx_one (dsx_ret (dex_callF (i := 0) TB (hr.mono (by decide)) (takes_of rfl rfl rfl rfl) (dax_of (da_cons (de_ix ix_D sn2_ix (de_name 1) de_int) da_nil))))) dssx_nil)
      (dssx_cons (dsx_if (dt_cmp (op_eqP hr.units) sn2_eq (de_callB call_len_seq snc_len (by rfl) T.m_len (by decide +kernel) (da_cons (de_name 1) da_nil)) de_int) (dssx_one (dsx_ret (dex_callF (i := 0) TB (hr.mono (by decide)) (takes_of rfl rfl rfl rfl) (dax_of (da_cons (de_ix ix_D sn2_ix (de_name 1) de_int) (da_cons (de_ix ix_D sn2_ix (de_name 1) de_int) da_nil)))))) dssx_nil)
      (dssx_cons (dsx_if (dt_cmp (op_eqP hr.units) sn2_eq (de_callB call_len_seq snc_len (by rfl) T.m_len (by decide +kernel) (da_cons (de_name 1) da_nil)) de_int) (dssx_one (dsx_ret (dex_callF (i := 0) TB (hr.mono (by decide)) (takes_of rfl rfl rfl rfl) (dax_of (da_cons (de_ix ix_D sn2_ix (de_name 1) de_int) (da_cons (de_ix ix_D sn2_ix (de_name 1) de_int) (da_cons (de_ix ix_D sn2_ix (de_name 1) de_int) da_nil))))))) dssx_nil)
      (dssx_one (dsx_ret (dex_callF (i := 0) TB (hr.mono (by decide)) (takes_of rfl rfl rfl rfl) (dax_of (da_cons (de_ix ix_D sn2_ix (de_name 1) de_int) (da_cons (de_ix ix_D sn2_ix (de_name 1) de_int) (da_cons (de_ix ix_D sn2_ix (de_name 1) de_int) (da_cons (de_ix ix_D sn2_ix (de_name 1) de_int) da_nil))))))))))), body_law_called_x⟩)
/-! ### _law_class -/
def dueS : Nat → Str
  | 1 => Str.ofString "domain"
  | 2 => Str.ofString "shape"
  | _ => Str.ofString "singular"
def clsR (c : Nat) : D := .list [.str (dueS c), .bool true]
def pre_law_class : List D → Prop := fun ds => ∃ (y : Str) (args : List D) (c : Nat), ds = [fnD y, .tuple args] ∧ RC y args c ∧ 1 ≤ args.length ∧ args.length ≤ 4 ∧ 1 ≤ c ∧ c ≤ 3
theorem len_law_class (ds : List D) (h : pre_law_class ds) : ds.length = ["f", "args"].length := by obtain ⟨_, _, _, rfl, _⟩ := h; rfl
def post_law_class : List D → D → Prop := fun ds r => ∀ (y : Str) (args : List D) (c : Nat), ds = [fnD y, .tuple args] → RC y args c → r = clsR c
theorem lclass_iff (y : Str) (args : List D) (c : Nat) (h : RC y args c) (h1 : 1 ≤ args.length) (h4 : args.length ≤ 4) (c1 : 1 ≤ c) (c3 : c ≤ 3) {Q : D → Prop} (hQ : Q (clsR c)) : (pre_law_class [fnD y, .tuple args] ∧ ∀ r, post_law_class [fnD y, .tuple args] r → Q r) := ⟨⟨y, args, c, rfl, h, h1, h4, c1, c3⟩, fun r hr => by
  rw [hr y args c rfl h]; exact hQ⟩

def w_law_class_1 : WS := (wRet (wLst (wCons (wC (.str (Str.ofString "none"))) (wCons (wC (.bool true)) wNil))))
def w_law_class_0 : WS := wSeq (wTry (xDrop (xCall pre_law_called_x post_law_called_x exn_law_called_x (xA (wCons (wName 0) (wCons (wName 1) wNil))))) 4 subT [(1, fun c DD ρ => 2 < ρ.length ∧ 3 < ρ.length ∧ DD.rt (.list [(.str (Str.ofString "domain")), (.bool (((subT c 0) && true) && ((!(subT c 2)) && (!(subT c 3)))))])), (2, fun c DD ρ => 2 < ρ.length ∧ DD.rt (.list [(.str (Str.ofString "shape")), (.bool ((subT c 0) && (true && (!(subT c 3)))))])), (3, fun c DD ρ => 2 < ρ.length ∧ DD.rt (.list [(.str (Str.ofString "singular")), (.bool ((subT c 0) && true))]))]) w_law_class_1

theorem body_law_class : ∀ ds, pre_law_class ds → w_law_class_0 { nx := fun _ => post_law_class ds .none, rt := post_law_class ds } (env0 ["f", "args", "e", "good"] ds) := by
  intro ds h
  obtain ⟨y, args, c0, rfl, h, h1, h4, c1, c3⟩ := h
  have fin : ∀ c, (∀ c', RC y args c' → c = c') → post_law_class [fnD y, .tuple args] (clsR c) := fun c hc y' args' c' e hr => by
    simp only [List.cons.injEq, fnD, PyData.dict.injEq, PyData.tuple.injEq, Prod.mk.injEq, PyData.str.injEq, and_true] at e
    obtain ⟨rfl, rfl⟩ := e
    rw [hc c' hr]
  generalize post_law_class [fnD y, .tuple args] = PP at fin
  unfold w_law_class_0
  walk_at "dl"
  refine lcalled_x_iff y args c0 h h1 h4 fun c hc => ?_
  have f := fin c hc
  obtain rfl := hc c0 h
  clear hc fin h
  have cs : c = 1 ∨ c = 2 ∨ c = 3 := by omega
  rcases cs with rfl | rfl | rfl
  · exact ⟨by decide, by decide, by decide, f⟩
  · exact ⟨by decide, by decide, f⟩
  · exact ⟨by decide, by decide, f⟩

theorem ok_law_class {P : Program} {w : World} {K : Fg} {mg : Str → Option Value} {base : Heap} {fa : Nat → Addr} {fdd : Nat → FuncData} {ca : Nat → Addr} (T : Txt K mg fa fdd ca) : FnOk P w K mg base CX0 8 (fa 153) (fdd 153) ["f", "args"] (SpD K pre_law_class post_law_class) := by
  have G152 : FnOk P w K mg base (L2.CX P w) 7 (fa 152) (fdd 152) ["f", "args"] (SpX K ca pre_law_called_x post_law_called_x exn_law_called_x) := ok_law_called_x T
  exact fn_ok T.F153 sc153 len_law_class (fun cdv A outer s H E hr => ⟨_, w_law_class_0, (dss_cons (ds_try (sub := subT) (subOk T) (List.forall_mem_cons.mpr ⟨by decide, (List.forall_mem_cons.mpr ⟨by decide, (List.forall_mem_cons.mpr ⟨by decide, (fun _ h => nomatch h)⟩)⟩)⟩) rfl rfl (fun V pn E tk po => (dssx_one (dsx_expr (dex_call G152 hr (by rfl) T.g152 T.F152.kp T.b152 tk (dax_of (da_cons (de_name 0) (da_cons (de_name 1) da_nil))))))) (.asSet (i := 2) (j := 3) (k := fun c => ((subT c 0) && true)) (f := fun c => (.list [(.str (Str.ofString "domain")), (.bool (((subT c 0) && true) && ((!(subT c 2)) && (!(subT c 3)))))])) ⟨by rfl, by decide, .inl T.x1⟩ sc153.nd rfl rfl (by decide) (fun a o c pn hc z f => ⟨_, (ce_andB (ce_isE (cfs T c hc).ec z f (by rfl) T.m_isinstance (pv 2) (clsE_own (by rfl) T.x0) (kitR T c 0 hc (by decide))) (ce_one (ce_isE (cfs T c hc).ec z f (by rfl) T.m_isinstance (pv 2) (clsE_ty (by rfl) T.m_ValueError (by decide +kernel)) (kitV T c hc)))), by first | (dsimp only [Cx.suite]; rfl) | dsimp only [Cx.suite] | rfl⟩) (fun a o c pn pe => ps_set sc153.nd rfl (by first | exact .inl rfl | exact .inr rfl) pe) (fun a o c pn hc z f => ⟨_, (cs_lst (csa_cons (cs_ce (fun _ h => h.1) (ce_c de_str)) (csa_cons (cs_andB (cs_name (fun _ h => h.2) (pv 3)) (cs_andB (cs_ce (fun _ h => h.1) (ce_not (ce_isE (cfs T c hc).ec z f (by rfl) T.m_isinstance (pv 2) (clsE_own (by rfl) T.x2) (kitR T c 2 hc (by decide))))) (cs_one (cs_ce (fun _ h => h.1) (ce_not (ce_isE (cfs T c hc).ec z f (by rfl) T.m_isinstance (pv 2) (clsE_own (by rfl) T.x3) (kitR T c 3 hc (by decide)))))))) csa_nil))), by first | (dsimp only [Cx.suite]; rfl) | dsimp only [Cx.suite] | rfl⟩) (.asRet (i := 2) (f := fun c => (.list [(.str (Str.ofString "shape")), (.bool ((subT c 0) && (true && (!(subT c 3)))))])) ⟨by rfl, by decide, .inl T.x2⟩ sc153.nd rfl rfl (fun a o c pn hc z f => ⟨_, (ce_lst (ca_cons (ce_c de_str) (ca_cons (ce_andB (ce_isE (cfs T c hc).ec z f (by rfl) T.m_isinstance (pv 2) (clsE_own (by rfl) T.x0) (kitR T c 0 hc (by decide))) (ce_andB (ce_isE (cfs T c hc).ec z f (by rfl) T.m_isinstance (pv 2) (clsE_ty (by rfl) T.m_ValueError (by decide +kernel)) (kitV T c hc)) (ce_one (ce_not (ce_isE (cfs T c hc).ec z f (by rfl) T.m_isinstance (pv 2) (clsE_own (by rfl) T.x3) (kitR T c 3 hc (by decide))))))) ca_nil))), by first | (dsimp only [Cx.suite]; rfl) | dsimp only [Cx.suite] | rfl⟩) (.asRet (i := 2) (f := fun c => (.list [(.str (Str.ofString "singular")), (.bool ((subT c 0) && true))])) ⟨by rfl, by decide, .inl T.x3⟩ sc153.nd rfl rfl (fun a o c pn hc z f => ⟨_, (ce_lst (ca_cons (ce_c de_str) (ca_cons (ce_andB (ce_isE (cfs T c hc).ec z f (by rfl) T.m_isinstance (pv 2) (clsE_own (by rfl) T.x0) (kitR T c 0 hc (by decide))) (ce_one (ce_isE (cfs T c hc).ec z f (by rfl) T.m_isinstance (pv 2) (clsE_ty (by rfl) T.m_ValueError (by decide +kernel)) (kitV T c hc)))) ca_nil))), by first | (dsimp only [Cx.suite]; rfl) | dsimp only [Cx.suite] | rfl⟩) .nil))))
      (dss_one (ds_ret (de_lst (da_cons de_str (da_cons de_bl da_nil)))))), body_law_class⟩)
/-! ### _law_all -/
def RcI (c : Nat) (x : D) : Prop := ∃ (y : Str) (args : List D), x = .tuple [fnD y, .tuple args] ∧ RC y args c ∧ 1 ≤ args.length ∧ args.length ≤ 4
def RcL (c : Nat) (l : List D) : Prop := ∀ x ∈ l, RcI c x
theorem RcL.nil (c : Nat) : RcL c [] := fun x h => by cases h
theorem RcL.cons {c : Nat} {y : Str} {args : List D} {l : List D} (h : RC y args c) (k : RcL c l) (h1 : 1 ≤ args.length := by simp) (h4 : args.length ≤ 4 := by simp) : RcL c (.tuple [fnD y, .tuple args] :: l) := fun x hx => by
  rcases List.mem_cons.mp hx with rfl | hx
  · exact ⟨y, args, rfl, h, h1, h4⟩
  · exact k x hx
theorem RcL.app {c : Nat} {l k : List D} (h : RcL c l) (h' : RcL c k) : RcL c (l ++ k) := fun x hx => by
  rcases List.mem_append.mp hx with hx | hx
  · exact h x hx
  · exact h' x hx
def pre_law_all : List D → Prop := fun ds => ∃ (l : List D) (c : Nat), ds = [.list l, .str (dueS c)] ∧ l.length ≤ 1000 ∧ RcL c l ∧ 1 ≤ c ∧ c ≤ 3
theorem len_law_all (ds : List D) (h : pre_law_all ds) : ds.length = ["rows", "due"].length := by obtain ⟨_, _, rfl, _⟩ := h; rfl
def post_law_all : List D → D → Prop := fun _ r => r = .bool true
theorem lall_iff (l : List D) (c : Nat) (hl : l.length ≤ 1000) (h : RcL c l) (c1 : 1 ≤ c) (c3 : c ≤ 3) {Q : D → Prop} (hQ : Q (.bool true)) : (pre_law_all [.list l, .str (dueS c)] ∧ ∀ r, post_law_all [.list l, .str (dueS c)] r → Q r) := ⟨⟨l, c, rfl, hl, h, c1, c3⟩, fun r hr => by
  rw [show r = .bool true from hr]; exact hQ⟩
theorem bools_rep36 : ∀ n : Nat, bools (List.replicate n (.bool true)) = some (List.replicate n true)
  | 0 => rfl
  | n + 1 => by rw [List.replicate_succ, List.replicate_succ, bools, bools_rep36 n]; rfl

def w_law_all_0 : WS := (wRet (wB bAll (wCons (wFree (wComp (wiLst (wName 0)) 2 wYes (wBin dEq (wCall pre_law_class post_law_class (wCons (wBin dIx (wName 2) (wC (.int 0))) (wCons (wBin dIx (wName 2) (wC (.int 1))) wNil))) (wLst (wCons (wName 1) (wCons (wC (.bool true)) wNil)))))) wNil)))

theorem body_law_all : ∀ ds, pre_law_all ds → w_law_all_0 { nx := fun _ => post_law_all ds .none, rt := post_law_all ds } (env0 ["rows", "due", "row"] ds) := by
  intro ds h
  obtain ⟨l, c, rfl, hl, h, c1, c3⟩ := h
  unfold w_law_all_0
  walk_at "dl"
  refine wCompL_of (es := List.replicate l.length (.bool true)) (by simp) (by omega) (fun j y z Q hy hz hQ => ?_) ?_
  · obtain ⟨f, args, rfl, hr, h1, h4⟩ := h y (List.mem_of_getElem? hy)
    have hz2 : z = .bool true := by
      rw [List.getElem?_replicate] at hz
      split at hz
      · exact (Option.some.inj hz).symm
      · cases hz
    subst hz2
    walk_at "dl"
    refine lclass_iff f args c hr h1 h4 c1 c3 ?_
    refine dEq_refl' rfl ?_ hQ
    simp [clsR, PyData.depth, PyData.depthAll]
  · walk_at "dl"
    unfold bAll
    refine ⟨_, bools_rep36 _, ?_⟩
    show PyData.bool _ = .bool true
    congr 1
    rw [List.all_eq_true]
    intro x hx
    exact List.eq_of_mem_replicate hx

theorem ok_law_all {P : Program} {w : World} {K : Fg} {mg : Str → Option Value} {base : Heap} {fa : Nat → Addr} {fdd : Nat → FuncData} {ca : Nat → Addr} (T : Txt K mg fa fdd ca) : FnOk P w K mg base CX0 9 (fa 154) (fdd 154) ["rows", "due"] (SpD K pre_law_all post_law_all) := by
  have G153 : FnOk P w K mg base CX0 8 (fa 153) (fdd 153) ["f", "args"] (SpD K pre_law_class post_law_class) := ok_law_class T
  exact fn_ok T.F154 sc154 len_law_all (fun cdv A outer s H E hr => ⟨_, w_law_all_0, (dss_one (ds_ret (de_callB (cr_all rfl) snc_all (by rfl) T.m_all (by decide +kernel) (da_cons (DF.de (df_comp (x := "row") (i := 2) rfl sc154.nd (di_lst (de_name 0)) (by first | exact (blkOk_by (own := [("row", 2)]) (N := ["rows", "due", "row"]) (sc := defScope s154) (by decide +kernel)) | (refine blkOk_by ?_; dsimp only [Cx.blk, Cx.nox, Cx.wish, Cx.tr, cxOf, envOfC, compEnvC, relab]; decide +kernel)) (fun _ _ _ _ _ => pg_name (i := 2) sc154.nd rfl (by first | exact Or.inl rfl | exact Or.inr rfl)) (fun _ _ _ _ _ => ⟨_, dts_nil, by first | (dsimp only [Cx.blk]; rfl) | dsimp only [Cx.blk] | rfl⟩) (fun _ _ _ _ _ => ⟨_, (de_cmp (op_eqP hr.units) sn2_eq (de_call G153 hr (by rfl) T.g153 T.F153.kp T.b153 pass0 (da_cons (de_ix ix_D sn2_ix (de_name 2) de_int) (da_cons (de_ix ix_D sn2_ix (de_name 2) de_int) da_nil))) (de_lst (da_cons (de_name 1) (da_cons de_bl da_nil)))), by first | (dsimp only [Cx.blk]; rfl) | dsimp only [Cx.blk] | rfl⟩))) da_nil)))), body_law_all⟩)
def w_law_11 : WS := (wRet (wCall pre_law_all post_law_all (wCons (wBin dAdd (wName 10) (wLst (wCons (wTup (wCons (wC (fnD "difference")) (wCons (wTup (wCons (wName 2) (wCons (wName 11) (wCons (wName 12) wNil)))) wNil))) (wCons (wTup (wCons (wC (fnD "similarity")) (wCons (wTup (wCons (wName 2) (wCons (wName 12) (wCons (wName 11) wNil)))) wNil))) wNil)))) (wCons (wC (.str (Str.ofString "shape"))) wNil))))
def w_law_10 : WS := wSeq (wAsg (wBin dAdd (wName 10) (wLst (wCons (wTup (wCons (wC (fnD "annihilator")) (wCons (wTup (wCons (wName 2) (wCons (wName 11) (wCons (wName 13) wNil)))) wNil))) (wCons (wTup (wCons (wC (fnD "krylov")) (wCons (wTup (wCons (wName 2) (wCons (wName 11) (wCons (wName 13) wNil)))) wNil))) (wCons (wTup (wCons (wC (fnD "similarity")) (wCons (wTup (wCons (wName 2) (wCons (wName 11) (wCons (wName 12) wNil)))) wNil))) wNil))))) (wgName 10)) w_law_11
def w_law_9 : WS := wSeq (wAsg (wB bTuple (wCons (wFree (wComp (wiR1 (wCons (wName 4) wNil)) 14 wYes (wCall pre_law_small post_law_small (wCons (wName 1) (wCons (wName 2) wNil))))) wNil)) (wgName 13)) w_law_10
def w_law_8 : WS := wSeq (wAsg (wBin dAdd (wCall pre_law_single post_law_single (wCons (wName 2) (wCons (wName 6) wNil))) (wCall pre_law_double post_law_double (wCons (wName 2) (wCons (wName 6) (wCons (wName 6) (wCons (wName 8) wNil)))))) (wgName 10)) w_law_9
def w_law_7 : WS := wSeq (wAsg (wB bTuple (wCons (wFree (wComp (wiR1 (wCons (wName 3) wNil)) 14 wYes (wCall pre_law_small post_law_small (wCons (wName 1) (wCons (wName 2) wNil))))) wNil)) (wgName 8)) w_law_8
def w_law_6 : WS := wSeq (wAsg (wCall pre_law_matrix post_law_matrix (wCons (wName 1) (wCons (wName 2) (wCons (wName 4) (wCons (wName 4) wNil))))) (wgName 12)) w_law_7
def w_law_5 : WS := wSeq (wAsg (wCall pre_law_matrix post_law_matrix (wCons (wName 1) (wCons (wName 2) (wCons (wName 3) (wCons (wName 3) wNil))))) (wgName 11)) w_law_6
def w_law_4 : WS := wSeq (wAsg (wCall pre_law_matrix post_law_matrix (wCons (wName 1) (wCons (wName 2) (wCons (wName 3) (wCons (wName 4) wNil))))) (wgName 6)) w_law_5
def w_law_3_c7 : WS := (wRet (wCall pre_law_all post_law_all (wCons (wName 10) (wCons (wC (.str (Str.ofString "domain"))) wNil))))
def w_law_3_c6 : WS := wSeq (wAsg (wBin dAdd (wBin dAdd (wCall pre_law_single post_law_single (wCons (wName 5) (wCons (wName 6) wNil))) (wCall pre_law_double post_law_double (wCons (wName 5) (wCons (wName 6) (wCons (wName 6) (wCons (wName 8) wNil)))))) (wLst (wCons (wTup (wCons (wC (fnD "companion")) (wCons (wTup (wCons (wName 5) (wCons (wTup (wCons (wName 7) (wCons (wName 9) wNil))) wNil))) wNil))) (wCons (wTup (wCons (wC (fnD "jordan_block")) (wCons (wTup (wCons (wName 5) (wCons (wName 7) (wCons (wC (.int 2)) wNil)))) wNil))) wNil)))) (wgName 10)) w_law_3_c7
def w_law_3_c5 : WS := wSeq (wIfS (wTest (wBin dEq (wCall pre_law_take post_law_take (wCons (wName 1) (wCons (wC (.int 2)) wNil))) (wC (.int 0)))) (wAsg (wCall pre_law_no_domain post_law_no_domain (wCons (wName 1) wNil)) (wgName 5)) wNext) w_law_3_c6
def w_law_3_c4 : WS := wSeq (wAsg (wCall pre_law_number post_law_number (wCons (wName 5) (wCons (wC (.int 1)) wNil))) (wgName 9)) w_law_3_c5
def w_law_3_c3 : WS := wSeq (wAsg (wB bTuple (wCons (wFree (wComp (wiR1 (wCons (wName 3) wNil)) 14 wYes (wCall pre_law_small post_law_small (wCons (wName 1) (wCons (wName 5) wNil))))) wNil)) (wgName 8)) w_law_3_c4
def w_law_3_c2 : WS := wSeq (wAsg (wCall pre_law_small post_law_small (wCons (wName 1) (wCons (wName 5) wNil))) (wgName 7)) w_law_3_c3
def w_law_3_c1 : WS := wSeq (wAsg (wCall pre_law_matrix post_law_matrix (wCons (wName 1) (wCons (wName 5) (wCons (wName 3) (wCons (wBin dIx (wLst (wCons (wName 3) (wCons (wName 4) wNil))) (wCall pre_law_take post_law_take (wCons (wName 1) (wCons (wC (.int 2)) wNil)))) wNil))))) (wgName 6)) w_law_3_c2
def w_law_3_c0 : WS := wSeq (wAsg (wBin dIx (wLst (wCons (wTup (wCons (wC (.str (Str.ofString "Z"))) wNil)) (wCons (wTup (wCons (wC (.str (Str.ofString "P"))) (wCons (wName 2) wNil))) wNil))) (wCall pre_law_take post_law_take (wCons (wName 1) (wCons (wC (.int 2)) wNil)))) (wgName 5)) w_law_3_c1
def w_law_3 : WS := wSeq (wIfS (wTest (wBin dEq (wCall pre_law_take post_law_take (wCons (wName 1) (wCons (wC (.int 2)) wNil))) (wC (.int 0)))) w_law_3_c0 wNext) w_law_4
def w_law_2 : WS := wSeq (wAsg (wBin dIx (wLst (wCons (wBin dSub (wName 3) (wC (.int 1))) (wCons (wBin dAdd (wName 3) (wC (.int 1))) wNil))) (wCall pre_law_take post_law_take (wCons (wName 1) (wCons (wC (.int 2)) wNil)))) (wgName 4)) w_law_3
def w_law_1 : WS := wSeq (wAsg (wBin dAdd (wC (.int 1)) (wCall pre_law_take post_law_take (wCons (wName 1) (wCons (wC (.int 3)) wNil)))) (wgName 3)) w_law_2
def w_law_0 : WS := wSeq (wAsg (wCall pre_law_field post_law_field (wCons (wName 1) wNil)) (wgName 2)) w_law_1
/-! ### the law -/
def DDL : DEnds := { nx := fun _ => False, rt := fun d => d = .bool true }
theorem sgl_rc {d : D} {m n c : Nat} {R : List (List D)} (hc : d.plain = true ∧ (IsFld d → m ≠ n)) (hk : ∀ c', KX d c' → c' = c) : RcL c (sgl d (Mt m n R)) :=
  .cons (.of ft_characteristic (characteristic_x_iff d m n R hc hk)) (.cons (.of ft_minimal (minimal_x_iff d m n R hc hk)) (.cons (.of ft_cyclic_vector (cyclic_vector_x_iff d m n R hc hk)) (.cons (.of ft_invariant_factors (invariant_factors_x_iff d m n R hc hk)) (.cons (.of ft_frobenius (frobenius_x_iff d m n R hc hk))
    (.cons (.of ft_eigenvalues (eigenvalues_x_iff d m n R hc hk)) (.cons (.of ft_jordan (jordan_x_iff d m n R hc hk)) (.cons (.of ft_unsplit (unsplit_x_iff d m n R hc hk)) (.cons (.of ft_is_diagonal (is_diagonal_x_iff d m n R hc hk)) (.nil _)))))))))
theorem dbl_rc {d : D} {m n c : Nat} {R : List (List D)} {l : List D} (hc : d.plain = true ∧ (IsFld d → m ≠ n)) (hk : ∀ c', KX d c' → c' = c) : RcL c (dbl d (Mt m n R) (Mt m n R) (.tuple l)) :=
  .cons (.of ft_annihilator (annihilator_x_iff d m n R l ⟨hc.1, fun h => .inl (hc.2 h)⟩ hk)) (.cons (.of ft_krylov (krylov_x_iff d m n R l ⟨hc.1, fun h => .inl (hc.2 h)⟩ hk)) (.cons (.of ft_similarity (similarity_x_iff d m n R m n R ⟨hc.1, fun h => .inl (hc.2 h)⟩ hk)) (.cons (.of ft_difference (difference_x_iff d m n R m n R ⟨hc.1, fun h => .inl (hc.2 h)⟩ hk)) (.nil _))))
theorem law67_4 (f : Fld) (hf : f.Ok) (n k : Nat) (hn : 1 ≤ n) (hn3 : n ≤ 3) (hk : k ≤ 4) (hkn : k ≠ n) :
    w_law_4 DDL [.un, .val (.dict []), .val (Dom.K f).enc, .val (.int n), .val (.int k), .un, .un, .un, .un, .un, .un, .un, .un, .un, .un] := by
  have hp := (Dom.K f).enc_plain.1
  have hF : IsFld (Dom.K f).enc := ⟨f, hf, rfl⟩
  have kx : ∀ c', KX (Dom.K f).enc c' → c' = 2 := fun c' => KX.yes hF
  unfold w_law_4
  walk_at "dl"
  refine lmatrix_iff (.K f) n k (by omega) (by omega) fun A _ _ => ?_
  generalize (A.map fun x => x.map (Dom.K f).el) = A
  unfold w_law_5
  walk_at "dl"
  refine lmatrix_iff (.K f) n n (by omega) (by omega) fun S _ _ => ?_
  generalize (S.map fun x => x.map (Dom.K f).el) = S
  unfold w_law_6
  walk_at "dl"
  refine lmatrix_iff (.K f) k k (by omega) (by omega) fun T _ _ => ?_
  generalize (T.map fun x => x.map (Dom.K f).el) = T
  unfold w_law_7
  walk_at "dl"
  refine ⟨⟨by omega, by omega⟩, ?_⟩
  refine wCompG_of (fun _ _ => True) (by omega) (fun j Q hj hQ => ?_) fun v hv _ => ?_
  · walk_at "dl"
    exact lsmall_iff (.K f) fun x hx => hQ _ trivial
  walk_at "dl"
  unfold w_law_8
  walk_at "dl"
  refine lsingle_iff _ _ ?_
  refine ldouble_iff _ _ _ _ ?_
  refine ⟨by simp [sgl, dbl], ?_⟩
  obtain ⟨l1, e1, h1, L1⟩ : ∃ l1, sgl (Dom.K f).enc (Mt n k A) ++ dbl (Dom.K f).enc (Mt n k A) (Mt n k A) (.tuple v) = l1 ∧ RcL 2 l1 ∧ l1.length ≤ 13 := ⟨_, rfl, (sgl_rc ⟨hp, fun _ => by omega⟩ kx).app (dbl_rc ⟨hp, fun _ => by omega⟩ kx), by simp [sgl, dbl]⟩
  rw [e1]
  unfold w_law_9
  walk_at "dl"
  refine ⟨⟨by omega, by omega⟩, ?_⟩
  refine wCompG_of (fun _ _ => True) (by omega) (fun j Q hj hQ => ?_) fun u hu _ => ?_
  · walk_at "dl"
    exact lsmall_iff (.K f) fun x hx => hQ _ trivial
  walk_at "dl"
  unfold w_law_10
  walk_at "dl"
  refine ⟨by omega, ?_⟩
  have hu : u.length ≠ n := by omega
  obtain ⟨l2, e2, h2, L2⟩ : ∃ l2, l1 ++ [.tuple [fnD "annihilator", .tuple [(Dom.K f).enc, Mt n n S, .tuple u]], .tuple [fnD "krylov", .tuple [(Dom.K f).enc, Mt n n S, .tuple u]], .tuple [fnD "similarity", .tuple [(Dom.K f).enc, Mt n n S, Mt k k T]]] = l2 ∧ RcL 2 l2 ∧ l2.length ≤ 16 := ⟨_, rfl,
    h1.app (.cons (.of ft_annihilator (annihilator_x_iff _ n n S u ⟨hp, fun _ => .inr hu⟩ kx)) (.cons (.of ft_krylov (krylov_x_iff _ n n S u ⟨hp, fun _ => .inr hu⟩ kx)) (.cons (.of ft_similarity (similarity_x_iff _ n n S k k T ⟨hp, fun _ => .inr (.inr (by omega))⟩ kx)) (.nil _)))), by simp; omega⟩
  rw [e2]
  unfold w_law_11
  walk_at "dl"
  refine ⟨by omega, ?_⟩
  obtain ⟨l3, e3, h3, L3⟩ : ∃ l3, l2 ++ [.tuple [fnD "difference", .tuple [(Dom.K f).enc, Mt n n S, Mt k k T]], .tuple [fnD "similarity", .tuple [(Dom.K f).enc, Mt k k T, Mt n n S]]] = l3 ∧ RcL 2 l3 ∧ l3.length ≤ 18 := ⟨_, rfl,
    h2.app (.cons (.of ft_difference (difference_x_iff _ n n S k k T ⟨hp, fun _ => .inr (.inr (by omega))⟩ kx)) (.cons (.of ft_similarity (similarity_x_iff _ k k T n n S ⟨hp, fun _ => .inr (.inr (by omega))⟩ kx)) (.nil _))), by simp; omega⟩
  rw [e3]
  exact lall_iff l3 2 (by omega) h3 (by decide) (by decide) rfl
theorem law67_dom (d : Dom) (hk : ¬ d.isK) (n p : Nat) (hn : n ≤ 3) (hp : p ≤ 4) (s0 s1 s2 s3 s4 s5 s6 s7 : Slot) (A : List (List D)) (x one : D) (v : List D) (d' : D) (pl : d'.plain = true) (nf : ¬ IsFld d') {Q : D → Prop} (hQ : Q (.bool true)) :
    (pre_law_all [.list (sgl d' (Mt n p A) ++ dbl d' (Mt n p A) (Mt n p A) (.tuple v) ++ [.tuple [fnD "companion", .tuple [d', .tuple [x, one]]], .tuple [fnD "jordan_block", .tuple [d', x, .int 2]]]), .str (Str.ofString "domain")] ∧ ∀ r, post_law_all [.list (sgl d' (Mt n p A) ++ dbl d' (Mt n p A) (Mt n p A) (.tuple v) ++ [.tuple [fnD "companion", .tuple [d', .tuple [x, one]]], .tuple [fnD "jordan_block", .tuple [d', x, .int 2]]]), .str (Str.ofString "domain")] r → Q r) :=
  lall_iff _ 1 (by simp [sgl, dbl]) (((sgl_rc ⟨pl, fun h => absurd h nf⟩ fun c' => KX.no nf).app (dbl_rc ⟨pl, fun h => absurd h nf⟩ fun c' => KX.no nf)).app (.cons (.of ft_companion (companion_x_iff d' _ ⟨pl, nf⟩ fun c' => KX.no nf)) (.cons (.of ft_jordan_block (jordan_block_x_iff d' _ _ ⟨pl, nf⟩ fun c' => KX.no nf)) (.nil _)))) (by decide) (by decide) hQ
theorem law67_3 (f : Fld) (hf : f.Ok) (n k : Nat) (hn : 1 ≤ n) (hn3 : n ≤ 3) (hk : k ≤ 4) (hkn : k ≠ n) :
    w_law_3 DDL [.un, .val (.dict []), .val (Dom.K f).enc, .val (.int n), .val (.int k), .un, .un, .un, .un, .un, .un, .un, .un, .un, .un] := by
  unfold w_law_3
  walk_at "dl"
  rw [take_iff]
  refine ⟨by decide, fun t0 t00 t02 => ?_⟩
  walk_at "dl"
  split
  · unfold w_law_3_c0
    walk_at "dl"
    rw [take_iff]
    refine ⟨by decide, fun t1 t10 t12 => ?_⟩
    obtain ⟨d, hd, ho, ed⟩ : ∃ d : Dom, ¬ d.isK ∧ d.Ok ∧ ∀ P : D → Prop, P d.enc → dIx (.list [.tuple [.str (Str.ofString "Z")], .tuple [.str (Str.ofString "P"), (Dom.K f).enc]]) (.int t1) P := by
      have c : t1 = 0 ∨ t1 = 1 := by omega
      rcases c with rfl | rfl
      · exact ⟨.Z, fun h => h, trivial, fun P h => dIx_lst (x := Dom.Z.enc) (by decide) rfl h⟩
      · exact ⟨.P f, fun h => h, hf, fun P h => dIx_lst (x := (Dom.P f).enc) (by decide) rfl h⟩
    refine ed _ ?_
    unfold w_law_3_c1
    walk_at "dl"
    rw [take_iff]
    refine ⟨by decide, fun t2 t20 t22 => ?_⟩
    obtain ⟨p, hp, ep⟩ : ∃ p : Nat, p ≤ 4 ∧ ∀ P : D → Prop, P (.int p) → dIx (.list [.int n, .int k]) (.int t2) P := by
      have c : t2 = 0 ∨ t2 = 1 := by omega
      rcases c with rfl | rfl
      · exact ⟨n, by omega, fun P h => dIx_lst (x := .int n) (by decide) rfl h⟩
      · exact ⟨k, by omega, fun P h => dIx_lst (x := .int k) (by decide) rfl h⟩
    refine ep _ ?_
    refine lmatrix_iff d n p (by omega) (by omega) fun A _ _ => ?_
    generalize (A.map fun x => x.map d.el) = A
    unfold w_law_3_c2
    walk_at "dl"
    refine lsmall_iff d fun x _ => ?_
    generalize d.el x = x
    unfold w_law_3_c3
    walk_at "dl"
    refine ⟨⟨by omega, by omega⟩, ?_⟩
    refine wCompG_of (fun _ _ => True) (by omega) (fun j Q hj hQ => ?_) fun v hv _ => ?_
    · walk_at "dl"
      exact lsmall_iff d fun x hx => hQ _ trivial
    walk_at "dl"
    unfold w_law_3_c4
    walk_at "dl"
    refine lnumber_iff d 1 ?_
    generalize d.el _ = one
    have fin : ∀ d' : D, d'.plain = true → ¬ IsFld d' → w_law_3_c6 DDL [.un, .val (.dict []), .val (Dom.K f).enc, .val (.int n), .val (.int k), .val d', .val (Mt n p A), .val x, .val (.tuple v), .val one, .un, .un, .un, .un, .un] := fun d' pl nf => by
      unfold w_law_3_c6
      walk_at "dl"
      refine lsingle_iff _ _ (ldouble_iff _ _ _ _ ?_)
      refine ⟨by simp [sgl, dbl], by simp [sgl, dbl], ?_⟩
      unfold w_law_3_c7
      walk_at "dl"
      exact law67_dom d hd n p hn3 hp .un .un .un .un .un .un .un .un A x one v d' pl nf rfl
    unfold w_law_3_c5
    walk_at "dl"
    rw [take_iff]
    refine ⟨by decide, fun t3 t30 t32 => ?_⟩
    walk_at "dl"
    split
    · exact lno_domain_iff fun d' pl nd => fin d' pl (not_fld nd)
    · exact fin d.enc d.enc_plain.1 (dom_not_fld hd)
  · exact law67_4 f hf n k hn hn3 hk hkn
theorem body_law : w_law_0 { nx := fun _ => False, rt := fun d => d = .bool true } (put (List.replicate 15 .un) 1 (.val (.dict []))) := by
  unfold w_law_0
  walk_at "dl"
  refine lfield_iff fun f hf => ?_
  have hf := hf.ok
  unfold w_law_1
  walk_at "dl"
  rw [take_iff]
  refine ⟨by decide, fun n0 n00 n03 => ?_⟩
  obtain ⟨n, hn, rfl⟩ : ∃ n : Nat, (1 ≤ n ∧ n ≤ 3) ∧ n0 = (n : Int) - 1 := ⟨(n0 + 1).toNat, by omega, by omega⟩
  have en : (1 : Int) + ((n : Int) - 1) = (n : Nat) := by omega
  walk_at "dl"
  rw [en]
  unfold w_law_2
  walk_at "dl"
  rw [take_iff]
  refine ⟨by decide, fun k k0 k2 => ?_⟩
  have c : k = 0 ∨ k = 1 := by omega
  rcases c with rfl | rfl
  · refine dIx_lst (x := .int ((n - 1 : Nat) : Int)) (by decide) (by rw [show ((n : Int) - 1) = ((n - 1 : Nat) : Int) by omega]; rfl) ?_
    exact law67_3 f hf n (n - 1) hn.1 hn.2 (by omega) (by omega)
  · refine dIx_lst (x := .int ((n + 1 : Nat) : Int)) (by decide) rfl ?_
    exact law67_3 f hf n (n + 1) hn.1 hn.2 (by omega) (by omega)

theorem ok_law {P : Program} {w : World} {K : Fg} {mg : Str → Option Value} {base : Heap} {fa : Nat → Addr} {fdd : Nat → FuncData} {ca : Nat → Addr} (T : Txt K mg fa fdd ca) : FnOk P w K mg base CX0 10 (fa 158) (fdd 158) ["script"] (spLaw K) := by
  have GS : FnOk P w K mg base CX0 1 (fa 124) (fdd 124) ["script"] (spStart K) := ok_law_start T
  have G140 : FnOk P w K mg base CX0 4 (fa 140) (fdd 140) ["c"] (SpD K pre_law_field post_law_field) := ok_law_field T
  have G145 : FnOk P w K mg base CX0 5 (fa 145) (fdd 145) ["c", "d", "m", "n"] (SpD K pre_law_matrix post_law_matrix) := ok_law_matrix T
  have G154 : FnOk P w K mg base CX0 9 (fa 154) (fdd 154) ["rows", "due"] (SpD K pre_law_all post_law_all) := ok_law_all T
  have G126 : FnOk P w K mg base CX0 2 (fa 126) (fdd 126) ["c", "many"] (SpD K pre_law_take post_law_take) := ok_law_take T
  have G144 : FnOk P w K mg base CX0 4 (fa 144) (fdd 144) ["c", "d"] (SpD K pre_law_small post_law_small) := ok_law_small T
  have G132 : FnOk P w K mg base CX0 4 (fa 132) (fdd 132) ["d", "n"] (SpD K pre_law_number post_law_number) := ok_law_number T
  have G156 : FnOk P w K mg base CX0 1 (fa 156) (fdd 156) ["d", "a"] (SpD K pre_law_single post_law_single) := ok_law_single T
  have G157 : FnOk P w K mg base CX0 1 (fa 157) (fdd 157) ["d", "a", "b", "v"] (SpD K pre_law_double post_law_double) := ok_law_double T
  have G155 : FnOk P w K mg base CX0 3 (fa 155) (fdd 155) ["c"] (SpD K pre_law_no_domain post_law_no_domain) := ok_law_no_domain T
  refine T.F158.ok sc158 (fun vs H Q E h => ?_) (fun cdv A outer s H vs Q E hr h => ?_)
  · obtain ⟨a, ns, rfl, _⟩ := h
    rfl
  · obtain ⟨a, ns, rfl, hS, hlen, q⟩ := h
    have rest : DSs (cxOf CX0 P w K mg base ["script", "c", "f", "n", "k", "d", "a", "x", "v", "one_v", "rows", "square", "other", "short", "j"] "law" (defScope s158) (fa 158) cdv A outer s H E).nox ((defBody s158).drop 1) _ w_law_0 := (dss_cons (ds_set (i := 2) sc158.nd (de_call G140 (hr.mono (by decide)) (by rfl) T.g140 T.F140.kp T.b140 pass0 (da_cons (de_name 1) da_nil)))
      (dss_cons (ds_set (i := 3) sc158.nd (de_op op_addD sn2_add de_int (de_call G126 (hr.mono (by decide)) (by rfl) T.g126 T.F126.kp T.b126 pass0 (da_cons (de_name 1) (da_cons de_int da_nil)))))
      (dss_cons (ds_set (i := 4) sc158.nd (de_ix ix_D sn2_ix (de_lst (da_cons (de_op op_sub sn2_sub (de_name 3) de_int) (da_cons (de_op op_addD sn2_add (de_name 3) de_int) da_nil))) (de_call G126 (hr.mono (by decide)) (by rfl) T.g126 T.F126.kp T.b126 pass0 (da_cons (de_name 1) (da_cons de_int da_nil)))))
      (dss_cons (ds_if (dt_cmp (op_eqP hr.units) sn2_eq (de_call G126 (hr.mono (by decide)) (by rfl) T.g126 T.F126.kp T.b126 pass0 (da_cons (de_name 1) (da_cons de_int da_nil))) de_int) (dss_cons (ds_set (i := 5) sc158.nd (de_ix ix_D sn2_ix (de_lst (da_cons (de_tup (da_cons de_str da_nil)) (da_cons (de_tup (da_cons de_str (da_cons (de_name 2) da_nil))) da_nil))) (de_call G126 (hr.mono (by decide)) (by rfl) T.g126 T.F126.kp T.b126 pass0 (da_cons (de_name 1) (da_cons de_int da_nil)))))
      (dss_cons (ds_set (i := 6) sc158.nd (de_call G145 (hr.mono (by decide)) (by rfl) T.g145 T.F145.kp T.b145 pass0 (da_cons (de_name 1) (da_cons (de_name 5) (da_cons (de_name 3) (da_cons (de_ix ix_D sn2_ix (de_lst (da_cons (de_name 3) (da_cons (de_name 4) da_nil))) (de_call G126 (hr.mono (by decide)) (by rfl) T.g126 T.F126.kp T.b126 pass0 (da_cons (de_name 1) (da_cons de_int da_nil)))) da_nil))))))
      (dss_cons (ds_set (i := 7) sc158.nd (de_call G144 (hr.mono (by decide)) (by rfl) T.g144 T.F144.kp T.b144 pass0 (da_cons (de_name 1) (da_cons (de_name 5) da_nil))))
      (dss_cons (ds_set (i := 8) sc158.nd (de_callTy call_tuple_of snc_tuple (by rfl) T.m_tuple (by decide +kernel) (da_cons (DF.de (df_comp (x := "j") (i := 14) rfl sc158.nd (di_rng1 (by rfl) T.m_range (da_cons (de_name 3) da_nil)) (by first | exact (blkOk_by (own := [("j", 14)]) (N := ["script", "c", "f", "n", "k", "d", "a", "x", "v", "one_v", "rows", "square", "other", "short", "j"]) (sc := defScope s158) (by decide +kernel)) | (refine blkOk_by ?_; dsimp only [Cx.blk, Cx.nox, Cx.wish, Cx.tr, cxOf, envOfC, compEnvC, relab]; decide +kernel)) (fun _ _ _ _ _ => pg_name (i := 14) sc158.nd rfl (by first | exact Or.inl rfl | exact Or.inr rfl)) (fun _ _ _ _ _ => ⟨_, dts_nil, by first | (dsimp only [Cx.blk]; rfl) | dsimp only [Cx.blk] | rfl⟩) (fun _ _ _ _ _ => ⟨_, (de_call G144 (hr.mono (by decide)) (by rfl) T.g144 T.F144.kp T.b144 pass0 (da_cons (de_name 1) (da_cons (de_name 5) da_nil))), by first | (dsimp only [Cx.blk]; rfl) | dsimp only [Cx.blk] | rfl⟩))) da_nil)))
      (dss_cons (ds_set (i := 9) sc158.nd (de_call G132 (hr.mono (by decide)) (by rfl) T.g132 T.F132.kp T.b132 pass0 (da_cons (de_name 5) (da_cons de_int da_nil))))
      (dss_cons (ds_if (dt_cmp (op_eqP hr.units) sn2_eq (de_call G126 (hr.mono (by decide)) (by rfl) T.g126 T.F126.kp T.b126 pass0 (da_cons (de_name 1) (da_cons de_int da_nil))) de_int) (dss_one (ds_set (i := 5) sc158.nd (de_call G155 (hr.mono (by decide)) (by rfl) T.g155 T.F155.kp T.b155 pass0 (da_cons (de_name 1) da_nil)))) dss_nil)
      (dss_cons (ds_set (i := 10) sc158.nd (de_op op_addD sn2_add (de_op op_addD sn2_add (de_call G156 (hr.mono (by decide)) (by rfl) T.g156 T.F156.kp T.b156 pass0 (da_cons (de_name 5) (da_cons (de_name 6) da_nil))) (de_call G157 (hr.mono (by decide)) (by rfl) T.g157 T.F157.kp T.b157 pass0 (da_cons (de_name 5) (da_cons (de_name 6) (da_cons (de_name 6) (da_cons (de_name 8) da_nil)))))) (de_lst (da_cons (de_tup (da_cons (de_fn (by rfl) T.g79 T.n79) (da_cons (de_tup (da_cons (de_name 5) (da_cons (de_tup (da_cons (de_name 7) (da_cons (de_name 9) da_nil))) da_nil))) da_nil))) (da_cons (de_tup (da_cons (de_fn (by rfl) T.g117 T.n117) (da_cons (de_tup (da_cons (de_name 5) (da_cons (de_name 7) (da_cons de_int da_nil)))) da_nil))) da_nil)))))
      (dss_one (ds_ret (de_call G154 hr (by rfl) T.g154 T.F154.kp T.b154 pass0 (da_cons (de_name 10) (da_cons de_str da_nil)))))))))))) dss_nil)
      (dss_cons (ds_set (i := 6) sc158.nd (de_call G145 (hr.mono (by decide)) (by rfl) T.g145 T.F145.kp T.b145 pass0 (da_cons (de_name 1) (da_cons (de_name 2) (da_cons (de_name 3) (da_cons (de_name 4) da_nil))))))
      (dss_cons (ds_set (i := 11) sc158.nd (de_call G145 (hr.mono (by decide)) (by rfl) T.g145 T.F145.kp T.b145 pass0 (da_cons (de_name 1) (da_cons (de_name 2) (da_cons (de_name 3) (da_cons (de_name 3) da_nil))))))
      (dss_cons (ds_set (i := 12) sc158.nd (de_call G145 (hr.mono (by decide)) (by rfl) T.g145 T.F145.kp T.b145 pass0 (da_cons (de_name 1) (da_cons (de_name 2) (da_cons (de_name 4) (da_cons (de_name 4) da_nil))))))
      (dss_cons (ds_set (i := 8) sc158.nd (de_callTy call_tuple_of snc_tuple (by rfl) T.m_tuple (by decide +kernel) (da_cons (DF.de (df_comp (x := "j") (i := 14) rfl sc158.nd (di_rng1 (by rfl) T.m_range (da_cons (de_name 3) da_nil)) (by first | exact (blkOk_by (own := [("j", 14)]) (N := ["script", "c", "f", "n", "k", "d", "a", "x", "v", "one_v", "rows", "square", "other", "short", "j"]) (sc := defScope s158) (by decide +kernel)) | (refine blkOk_by ?_; dsimp only [Cx.blk, Cx.nox, Cx.wish, Cx.tr, cxOf, envOfC, compEnvC, relab]; decide +kernel)) (fun _ _ _ _ _ => pg_name (i := 14) sc158.nd rfl (by first | exact Or.inl rfl | exact Or.inr rfl)) (fun _ _ _ _ _ => ⟨_, dts_nil, by first | (dsimp only [Cx.blk]; rfl) | dsimp only [Cx.blk] | rfl⟩) (fun _ _ _ _ _ => ⟨_, (de_call G144 (hr.mono (by decide)) (by rfl) T.g144 T.F144.kp T.b144 pass0 (da_cons (de_name 1) (da_cons (de_name 2) da_nil))), by first | (dsimp only [Cx.blk]; rfl) | dsimp only [Cx.blk] | rfl⟩))) da_nil)))
      (dss_cons (ds_set (i := 10) sc158.nd (de_op op_addD sn2_add (de_call G156 (hr.mono (by decide)) (by rfl) T.g156 T.F156.kp T.b156 pass0 (da_cons (de_name 2) (da_cons (de_name 6) da_nil))) (de_call G157 (hr.mono (by decide)) (by rfl) T.g157 T.F157.kp T.b157 pass0 (da_cons (de_name 2) (da_cons (de_name 6) (da_cons (de_name 6) (da_cons (de_name 8) da_nil)))))))
      (dss_cons (ds_set (i := 13) sc158.nd (de_callTy call_tuple_of snc_tuple (by rfl) T.m_tuple (by decide +kernel) (da_cons (DF.de (df_comp (x := "j") (i := 14) rfl sc158.nd (di_rng1 (by rfl) T.m_range (da_cons (de_name 4) da_nil)) (by first | exact (blkOk_by (own := [("j", 14)]) (N := ["script", "c", "f", "n", "k", "d", "a", "x", "v", "one_v", "rows", "square", "other", "short", "j"]) (sc := defScope s158) (by decide +kernel)) | (refine blkOk_by ?_; dsimp only [Cx.blk, Cx.nox, Cx.wish, Cx.tr, cxOf, envOfC, compEnvC, relab]; decide +kernel)) (fun _ _ _ _ _ => pg_name (i := 14) sc158.nd rfl (by first | exact Or.inl rfl | exact Or.inr rfl)) (fun _ _ _ _ _ => ⟨_, dts_nil, by first | (dsimp only [Cx.blk]; rfl) | dsimp only [Cx.blk] | rfl⟩) (fun _ _ _ _ _ => ⟨_, (de_call G144 (hr.mono (by decide)) (by rfl) T.g144 T.F144.kp T.b144 pass0 (da_cons (de_name 1) (da_cons (de_name 2) da_nil))), by first | (dsimp only [Cx.blk]; rfl) | dsimp only [Cx.blk] | rfl⟩))) da_nil)))
      (dss_cons (ds_set (i := 10) sc158.nd (de_op op_addD sn2_add (de_name 10) (de_lst (da_cons (de_tup (da_cons (de_fn (by rfl) T.g71 T.n71) (da_cons (de_tup (da_cons (de_name 2) (da_cons (de_name 11) (da_cons (de_name 13) da_nil)))) da_nil))) (da_cons (de_tup (da_cons (de_fn (by rfl) T.g73 T.n73) (da_cons (de_tup (da_cons (de_name 2) (da_cons (de_name 11) (da_cons (de_name 13) da_nil)))) da_nil))) (da_cons (de_tup (da_cons (de_fn (by rfl) T.g92 T.n92) (da_cons (de_tup (da_cons (de_name 2) (da_cons (de_name 11) (da_cons (de_name 12) da_nil)))) da_nil))) da_nil))))))
      (dss_one (ds_ret (de_call G154 hr (by rfl) T.g154 T.F154.kp T.b154 pass0 (da_cons (de_op op_addD sn2_add (de_name 10) (de_lst (da_cons (de_tup (da_cons (de_fn (by rfl) T.g94 T.n94) (da_cons (de_tup (da_cons (de_name 2) (da_cons (de_name 11) (da_cons (de_name 12) da_nil)))) da_nil))) (da_cons (de_tup (da_cons (de_fn (by rfl) T.g92 T.n92) (da_cons (de_tup (da_cons (de_name 2) (da_cons (de_name 12) (da_cons (de_name 11) da_nil)))) da_nil))) da_nil)))) (da_cons de_str da_nil))))))))))))))))
    refine ⟨_, pss_cons (ps_set (i := 1) sc158.nd rfl (by first | exact .inl rfl | exact .inr rfl) (pe_call GS (hr.mono (by decide)) (by rfl) T.g124 T.F124.kp T.b124 .nil pass0 (pa_cons (pv 0) pa_nil))) rest.ps, ?_⟩
    refine ⟨.ref a, rfl, a, ns, rfl, hS, hlen, fun H' b p ms _ npb hb hp hl => ?_⟩
    refine rest.sd _ _ H' _ [] [] { nx := fun _ => False, rt := fun d => d = .bool true } _ (at_law (σ := (L2.start ["script", "c", "f", "n", "k", "d", "a", "x", "v", "one_v", "rows", "square", "other", "short", "j"] [V.ref a]).set 1 (some (.ref b))) rfl npb hb hp hl) body_law ⟨fun _ _ _ _ h => h.elim, fun v d H2 _ _ g e => ?_, fun _ _ _ _ h => h.elim, fun _ _ _ _ h => h.elim⟩
    subst e
    cases g
    exact q H2

theorem all_mk {l : PySem.W.OpenLaw} {w : World} {K : PySem.W.Frag} {h : Heap} {mg : Str → Option Value} {fa f1 f4 f19 f20 f24 f60 f61 f68 f71 f73 f74 f75 f76 f79 f88 f89 f90 f91 f92 f94 f112 f116 f117 f120 f122 f123 f124 f125 f126 f128 f129 f130 f131 f132 f139 f140 f144 f145 f152 f153 f154 f155 f156 f157 f158 : Addr} (X : K.In h) (G : h.Ns mainGlobals mg) (hfa : mg "law" = some (.ref fa))
    {od1 an1 : Option Addr} {sl1 : Array (Option Value)} {oc1 kV1 dc1 pm1 cd1 ct1 : Value}
    {od4 an4 : Option Addr} {sl4 : Array (Option Value)} {oc4 kV4 dc4 pm4 cd4 ct4 : Value}
    {od19 an19 : Option Addr} {sl19 : Array (Option Value)} {oc19 kV19 dc19 pm19 cd19 ct19 : Value}
    {od20 an20 : Option Addr} {sl20 : Array (Option Value)} {oc20 kV20 dc20 pm20 cd20 ct20 : Value}
    {od24 an24 : Option Addr} {sl24 : Array (Option Value)} {oc24 kV24 dc24 pm24 cd24 ct24 : Value}
    {od60 an60 : Option Addr} {sl60 : Array (Option Value)} {oc60 kV60 dc60 pm60 cd60 ct60 : Value}
    {od61 an61 : Option Addr} {sl61 : Array (Option Value)} {oc61 kV61 dc61 pm61 cd61 ct61 : Value}
    {od68 an68 : Option Addr} {sl68 : Array (Option Value)} {oc68 kV68 dc68 pm68 cd68 ct68 : Value}
    {od71 an71 : Option Addr} {sl71 : Array (Option Value)} {oc71 kV71 dc71 pm71 cd71 ct71 : Value}
    {od73 an73 : Option Addr} {sl73 : Array (Option Value)} {oc73 kV73 dc73 pm73 cd73 ct73 : Value}
    {od74 an74 : Option Addr} {sl74 : Array (Option Value)} {oc74 kV74 dc74 pm74 cd74 ct74 : Value}
    {od75 an75 : Option Addr} {sl75 : Array (Option Value)} {oc75 kV75 dc75 pm75 cd75 ct75 : Value}
    {od76 an76 : Option Addr} {sl76 : Array (Option Value)} {oc76 kV76 dc76 pm76 cd76 ct76 : Value}
    {od79 an79 : Option Addr} {sl79 : Array (Option Value)} {oc79 kV79 dc79 pm79 cd79 ct79 : Value}
    {od88 an88 : Option Addr} {sl88 : Array (Option Value)} {oc88 kV88 dc88 pm88 cd88 ct88 : Value}
    {od89 an89 : Option Addr} {sl89 : Array (Option Value)} {oc89 kV89 dc89 pm89 cd89 ct89 : Value}
    {od90 an90 : Option Addr} {sl90 : Array (Option Value)} {oc90 kV90 dc90 pm90 cd90 ct90 : Value}
    {od91 an91 : Option Addr} {sl91 : Array (Option Value)} {oc91 kV91 dc91 pm91 cd91 ct91 : Value}
    {od92 an92 : Option Addr} {sl92 : Array (Option Value)} {oc92 kV92 dc92 pm92 cd92 ct92 : Value}
    {od94 an94 : Option Addr} {sl94 : Array (Option Value)} {oc94 kV94 dc94 pm94 cd94 ct94 : Value}
    {od112 an112 : Option Addr} {sl112 : Array (Option Value)} {oc112 kV112 dc112 pm112 cd112 ct112 : Value}
    {od116 an116 : Option Addr} {sl116 : Array (Option Value)} {oc116 kV116 dc116 pm116 cd116 ct116 : Value}
    {od117 an117 : Option Addr} {sl117 : Array (Option Value)} {oc117 kV117 dc117 pm117 cd117 ct117 : Value}
    {od120 an120 : Option Addr} {sl120 : Array (Option Value)} {oc120 kV120 dc120 pm120 cd120 ct120 : Value}
    {od122 an122 : Option Addr} {sl122 : Array (Option Value)} {oc122 kV122 dc122 pm122 cd122 ct122 : Value}
    {od123 an123 : Option Addr} {sl123 : Array (Option Value)} {oc123 kV123 dc123 pm123 cd123 ct123 : Value}
    {od124 an124 : Option Addr} {sl124 : Array (Option Value)} {oc124 kV124 dc124 pm124 cd124 ct124 : Value}
    {od125 an125 : Option Addr} {sl125 : Array (Option Value)} {oc125 kV125 dc125 pm125 cd125 ct125 : Value}
    {od126 an126 : Option Addr} {sl126 : Array (Option Value)} {oc126 kV126 dc126 pm126 cd126 ct126 : Value}
    {od128 an128 : Option Addr} {sl128 : Array (Option Value)} {oc128 kV128 dc128 pm128 cd128 ct128 : Value}
    {od129 an129 : Option Addr} {sl129 : Array (Option Value)} {oc129 kV129 dc129 pm129 cd129 ct129 : Value}
    {od130 an130 : Option Addr} {sl130 : Array (Option Value)} {oc130 kV130 dc130 pm130 cd130 ct130 : Value}
    {od131 an131 : Option Addr} {sl131 : Array (Option Value)} {oc131 kV131 dc131 pm131 cd131 ct131 : Value}
    {od132 an132 : Option Addr} {sl132 : Array (Option Value)} {oc132 kV132 dc132 pm132 cd132 ct132 : Value}
    {od139 an139 : Option Addr} {sl139 : Array (Option Value)} {oc139 kV139 dc139 pm139 cd139 ct139 : Value}
    {od140 an140 : Option Addr} {sl140 : Array (Option Value)} {oc140 kV140 dc140 pm140 cd140 ct140 : Value}
    {od144 an144 : Option Addr} {sl144 : Array (Option Value)} {oc144 kV144 dc144 pm144 cd144 ct144 : Value}
    {od145 an145 : Option Addr} {sl145 : Array (Option Value)} {oc145 kV145 dc145 pm145 cd145 ct145 : Value}
    {od152 an152 : Option Addr} {sl152 : Array (Option Value)} {oc152 kV152 dc152 pm152 cd152 ct152 : Value}
    {od153 an153 : Option Addr} {sl153 : Array (Option Value)} {oc153 kV153 dc153 pm153 cd153 ct153 : Value}
    {od154 an154 : Option Addr} {sl154 : Array (Option Value)} {oc154 kV154 dc154 pm154 cd154 ct154 : Value}
    {od155 an155 : Option Addr} {sl155 : Array (Option Value)} {oc155 kV155 dc155 pm155 cd155 ct155 : Value}
    {od156 an156 : Option Addr} {sl156 : Array (Option Value)} {oc156 kV156 dc156 pm156 cd156 ct156 : Value}
    {od157 an157 : Option Addr} {sl157 : Array (Option Value)} {oc157 kV157 dc157 pm157 cd157 ct157 : Value}
    {od158 an158 : Option Addr} {sl158 : Array (Option Value)} {oc158 kV158 dc158 pm158 cd158 ct158 : Value}
    (a1 : PySem.W.nsIn K mainGlobals "is_prime" = some (some (.ref f1))) (l1 : K.lookup f1 = some ⟨oc1, od1, .func (PySem.W.fnOf "is_prime" "is_prime" (defArgs s1) (defBody s1) (defScope s1) .none kV1 dc1 pm1 an1 cd1 ct1), sl1⟩) (c1 : PySem.W.codeIn K cd1 "is_prime" = true) (k1 : PySem.W.keepIn K (.ref f1) = true)
    (a4 : PySem.W.nsIn K mainGlobals "root" = some (some (.ref f4))) (l4 : K.lookup f4 = some ⟨oc4, od4, .func (PySem.W.fnOf "root" "root" (defArgs s4) (defBody s4) (defScope s4) .none kV4 dc4 pm4 an4 cd4 ct4), sl4⟩) (c4 : PySem.W.codeIn K cd4 "root" = true) (k4 : PySem.W.keepIn K (.ref f4) = true)
    (a19 : PySem.W.nsIn K mainGlobals "is_whole" = some (some (.ref f19))) (l19 : K.lookup f19 = some ⟨oc19, od19, .func (PySem.W.fnOf "is_whole" "is_whole" (defArgs s19) (defBody s19) (defScope s19) .none kV19 dc19 pm19 an19 cd19 ct19), sl19⟩) (c19 : PySem.W.codeIn K cd19 "is_whole" = true) (k19 : PySem.W.keepIn K (.ref f19) = true)
    (a20 : PySem.W.nsIn K mainGlobals "is_field" = some (some (.ref f20))) (l20 : K.lookup f20 = some ⟨oc20, od20, .func (PySem.W.fnOf "is_field" "is_field" (defArgs s20) (defBody s20) (defScope s20) .none kV20 dc20 pm20 an20 cd20 ct20), sl20⟩) (c20 : PySem.W.codeIn K cd20 "is_field" = true) (k20 : PySem.W.keepIn K (.ref f20) = true)
    (a24 : PySem.W.nsIn K mainGlobals "need_field" = some (some (.ref f24))) (l24 : K.lookup f24 = some ⟨oc24, od24, .func (PySem.W.fnOf "need_field" "need_field" (defArgs s24) (defBody s24) (defScope s24) .none kV24 dc24 pm24 an24 cd24 ct24), sl24⟩) (c24 : PySem.W.codeIn K cd24 "need_field" = true) (k24 : PySem.W.keepIn K (.ref f24) = true)
    (a60 : PySem.W.nsIn K mainGlobals "need_square" = some (some (.ref f60))) (l60 : K.lookup f60 = some ⟨oc60, od60, .func (PySem.W.fnOf "need_square" "need_square" (defArgs s60) (defBody s60) (defScope s60) .none kV60 dc60 pm60 an60 cd60 ct60), sl60⟩) (c60 : PySem.W.codeIn K cd60 "need_square" = true) (k60 : PySem.W.keepIn K (.ref f60) = true)
    (a61 : PySem.W.nsIn K mainGlobals "need_length" = some (some (.ref f61))) (l61 : K.lookup f61 = some ⟨oc61, od61, .func (PySem.W.fnOf "need_length" "need_length" (defArgs s61) (defBody s61) (defScope s61) .none kV61 dc61 pm61 an61 cd61 ct61), sl61⟩) (c61 : PySem.W.codeIn K cd61 "need_length" = true) (k61 : PySem.W.keepIn K (.ref f61) = true)
    (a68 : PySem.W.nsIn K mainGlobals "characteristic" = some (some (.ref f68))) (l68 : K.lookup f68 = some ⟨oc68, od68, .func (PySem.W.fnOf "characteristic" "characteristic" (defArgs s68) (defBody s68) (defScope s68) .none kV68 dc68 pm68 an68 cd68 ct68), sl68⟩) (c68 : PySem.W.codeIn K cd68 "characteristic" = true) (k68 : PySem.W.keepIn K (.ref f68) = true)
    (a71 : PySem.W.nsIn K mainGlobals "annihilator" = some (some (.ref f71))) (l71 : K.lookup f71 = some ⟨oc71, od71, .func (PySem.W.fnOf "annihilator" "annihilator" (defArgs s71) (defBody s71) (defScope s71) .none kV71 dc71 pm71 an71 cd71 ct71), sl71⟩) (c71 : PySem.W.codeIn K cd71 "annihilator" = true) (k71 : PySem.W.keepIn K (.ref f71) = true)
    (a73 : PySem.W.nsIn K mainGlobals "krylov" = some (some (.ref f73))) (l73 : K.lookup f73 = some ⟨oc73, od73, .func (PySem.W.fnOf "krylov" "krylov" (defArgs s73) (defBody s73) (defScope s73) .none kV73 dc73 pm73 an73 cd73 ct73), sl73⟩) (c73 : PySem.W.codeIn K cd73 "krylov" = true) (k73 : PySem.W.keepIn K (.ref f73) = true)
    (a74 : PySem.W.nsIn K mainGlobals "minimal" = some (some (.ref f74))) (l74 : K.lookup f74 = some ⟨oc74, od74, .func (PySem.W.fnOf "minimal" "minimal" (defArgs s74) (defBody s74) (defScope s74) .none kV74 dc74 pm74 an74 cd74 ct74), sl74⟩) (c74 : PySem.W.codeIn K cd74 "minimal" = true) (k74 : PySem.W.keepIn K (.ref f74) = true)
    (a75 : PySem.W.nsIn K mainGlobals "cyclic_vector" = some (some (.ref f75))) (l75 : K.lookup f75 = some ⟨oc75, od75, .func (PySem.W.fnOf "cyclic_vector" "cyclic_vector" (defArgs s75) (defBody s75) (defScope s75) .none kV75 dc75 pm75 an75 cd75 ct75), sl75⟩) (c75 : PySem.W.codeIn K cd75 "cyclic_vector" = true) (k75 : PySem.W.keepIn K (.ref f75) = true)
    (a76 : PySem.W.nsIn K mainGlobals "generator" = some (some (.ref f76))) (l76 : K.lookup f76 = some ⟨oc76, od76, .func (PySem.W.fnOf "generator" "generator" (defArgs s76) (defBody s76) (defScope s76) .none kV76 dc76 pm76 an76 cd76 ct76), sl76⟩) (c76 : PySem.W.codeIn K cd76 "generator" = true) (k76 : PySem.W.keepIn K (.ref f76) = true)
    (a79 : PySem.W.nsIn K mainGlobals "companion" = some (some (.ref f79))) (l79 : K.lookup f79 = some ⟨oc79, od79, .func (PySem.W.fnOf "companion" "companion" (defArgs s79) (defBody s79) (defScope s79) .none kV79 dc79 pm79 an79 cd79 ct79), sl79⟩) (c79 : PySem.W.codeIn K cd79 "companion" = true) (k79 : PySem.W.keepIn K (.ref f79) = true)
    (a88 : PySem.W.nsIn K mainGlobals "invariant_factors" = some (some (.ref f88))) (l88 : K.lookup f88 = some ⟨oc88, od88, .func (PySem.W.fnOf "invariant_factors" "invariant_factors" (defArgs s88) (defBody s88) (defScope s88) .none kV88 dc88 pm88 an88 cd88 ct88), sl88⟩) (c88 : PySem.W.codeIn K cd88 "invariant_factors" = true) (k88 : PySem.W.keepIn K (.ref f88) = true)
    (a89 : PySem.W.nsIn K mainGlobals "frobenius" = some (some (.ref f89))) (l89 : K.lookup f89 = some ⟨oc89, od89, .func (PySem.W.fnOf "frobenius" "frobenius" (defArgs s89) (defBody s89) (defScope s89) .none kV89 dc89 pm89 an89 cd89 ct89), sl89⟩) (c89 : PySem.W.codeIn K cd89 "frobenius" = true) (k89 : PySem.W.keepIn K (.ref f89) = true)
    (a90 : PySem.W.nsIn K mainGlobals "cyclic_form" = some (some (.ref f90))) (l90 : K.lookup f90 = some ⟨oc90, od90, .func (PySem.W.fnOf "cyclic_form" "cyclic_form" (defArgs s90) (defBody s90) (defScope s90) .none kV90 dc90 pm90 an90 cd90 ct90), sl90⟩) (c90 : PySem.W.codeIn K cd90 "cyclic_form" = true) (k90 : PySem.W.keepIn K (.ref f90) = true)
    (a91 : PySem.W.nsIn K mainGlobals "need_equal_sizes" = some (some (.ref f91))) (l91 : K.lookup f91 = some ⟨oc91, od91, .func (PySem.W.fnOf "need_equal_sizes" "need_equal_sizes" (defArgs s91) (defBody s91) (defScope s91) .none kV91 dc91 pm91 an91 cd91 ct91), sl91⟩) (c91 : PySem.W.codeIn K cd91 "need_equal_sizes" = true) (k91 : PySem.W.keepIn K (.ref f91) = true)
    (a92 : PySem.W.nsIn K mainGlobals "similarity" = some (some (.ref f92))) (l92 : K.lookup f92 = some ⟨oc92, od92, .func (PySem.W.fnOf "similarity" "similarity" (defArgs s92) (defBody s92) (defScope s92) .none kV92 dc92 pm92 an92 cd92 ct92), sl92⟩) (c92 : PySem.W.codeIn K cd92 "similarity" = true) (k92 : PySem.W.keepIn K (.ref f92) = true)
    (a94 : PySem.W.nsIn K mainGlobals "difference" = some (some (.ref f94))) (l94 : K.lookup f94 = some ⟨oc94, od94, .func (PySem.W.fnOf "difference" "difference" (defArgs s94) (defBody s94) (defScope s94) .none kV94 dc94 pm94 an94 cd94 ct94), sl94⟩) (c94 : PySem.W.codeIn K cd94 "difference" = true) (k94 : PySem.W.keepIn K (.ref f94) = true)
    (a112 : PySem.W.nsIn K mainGlobals "roots" = some (some (.ref f112))) (l112 : K.lookup f112 = some ⟨oc112, od112, .func (PySem.W.fnOf "roots" "roots" (defArgs s112) (defBody s112) (defScope s112) .none kV112 dc112 pm112 an112 cd112 ct112), sl112⟩) (c112 : PySem.W.codeIn K cd112 "roots" = true) (k112 : PySem.W.keepIn K (.ref f112) = true)
    (a116 : PySem.W.nsIn K mainGlobals "eigenvalues" = some (some (.ref f116))) (l116 : K.lookup f116 = some ⟨oc116, od116, .func (PySem.W.fnOf "eigenvalues" "eigenvalues" (defArgs s116) (defBody s116) (defScope s116) .none kV116 dc116 pm116 an116 cd116 ct116), sl116⟩) (c116 : PySem.W.codeIn K cd116 "eigenvalues" = true) (k116 : PySem.W.keepIn K (.ref f116) = true)
    (a117 : PySem.W.nsIn K mainGlobals "jordan_block" = some (some (.ref f117))) (l117 : K.lookup f117 = some ⟨oc117, od117, .func (PySem.W.fnOf "jordan_block" "jordan_block" (defArgs s117) (defBody s117) (defScope s117) .none kV117 dc117 pm117 an117 cd117 ct117), sl117⟩) (c117 : PySem.W.codeIn K cd117 "jordan_block" = true) (k117 : PySem.W.keepIn K (.ref f117) = true)
    (a120 : PySem.W.nsIn K mainGlobals "jordan" = some (some (.ref f120))) (l120 : K.lookup f120 = some ⟨oc120, od120, .func (PySem.W.fnOf "jordan" "jordan" (defArgs s120) (defBody s120) (defScope s120) .none kV120 dc120 pm120 an120 cd120 ct120), sl120⟩) (c120 : PySem.W.codeIn K cd120 "jordan" = true) (k120 : PySem.W.keepIn K (.ref f120) = true)
    (a122 : PySem.W.nsIn K mainGlobals "unsplit" = some (some (.ref f122))) (l122 : K.lookup f122 = some ⟨oc122, od122, .func (PySem.W.fnOf "unsplit" "unsplit" (defArgs s122) (defBody s122) (defScope s122) .none kV122 dc122 pm122 an122 cd122 ct122), sl122⟩) (c122 : PySem.W.codeIn K cd122 "unsplit" = true) (k122 : PySem.W.keepIn K (.ref f122) = true)
    (a123 : PySem.W.nsIn K mainGlobals "is_diagonal" = some (some (.ref f123))) (l123 : K.lookup f123 = some ⟨oc123, od123, .func (PySem.W.fnOf "is_diagonal" "is_diagonal" (defArgs s123) (defBody s123) (defScope s123) .none kV123 dc123 pm123 an123 cd123 ct123), sl123⟩) (c123 : PySem.W.codeIn K cd123 "is_diagonal" = true) (k123 : PySem.W.keepIn K (.ref f123) = true)
    (a124 : PySem.W.nsIn K mainGlobals "_law_start" = some (some (.ref f124))) (l124 : K.lookup f124 = some ⟨oc124, od124, .func (PySem.W.fnOf "_law_start" "_law_start" (defArgs s124) (defBody s124) (defScope s124) .none kV124 dc124 pm124 an124 cd124 ct124), sl124⟩) (c124 : PySem.W.codeIn K cd124 "_law_start" = true) (k124 : PySem.W.keepIn K (.ref f124) = true)
    (a125 : PySem.W.nsIn K mainGlobals "_law_fill" = some (some (.ref f125))) (l125 : K.lookup f125 = some ⟨oc125, od125, .func (PySem.W.fnOf "_law_fill" "_law_fill" (defArgs s125) (defBody s125) (defScope s125) .none kV125 dc125 pm125 an125 cd125 ct125), sl125⟩) (c125 : PySem.W.codeIn K cd125 "_law_fill" = true) (k125 : PySem.W.keepIn K (.ref f125) = true)
    (a126 : PySem.W.nsIn K mainGlobals "_law_take" = some (some (.ref f126))) (l126 : K.lookup f126 = some ⟨oc126, od126, .func (PySem.W.fnOf "_law_take" "_law_take" (defArgs s126) (defBody s126) (defScope s126) .none kV126 dc126 pm126 an126 cd126 ct126), sl126⟩) (c126 : PySem.W.codeIn K cd126 "_law_take" = true) (k126 : PySem.W.keepIn K (.ref f126) = true)
    (a128 : PySem.W.nsIn K mainGlobals "_law_common" = some (some (.ref f128))) (l128 : K.lookup f128 = some ⟨oc128, od128, .func (PySem.W.fnOf "_law_common" "_law_common" (defArgs s128) (defBody s128) (defScope s128) .none kV128 dc128 pm128 an128 cd128 ct128), sl128⟩) (c128 : PySem.W.codeIn K cd128 "_law_common" = true) (k128 : PySem.W.keepIn K (.ref f128) = true)
    (a129 : PySem.W.nsIn K mainGlobals "_law_fraction" = some (some (.ref f129))) (l129 : K.lookup f129 = some ⟨oc129, od129, .func (PySem.W.fnOf "_law_fraction" "_law_fraction" (defArgs s129) (defBody s129) (defScope s129) .none kV129 dc129 pm129 an129 cd129 ct129), sl129⟩) (c129 : PySem.W.codeIn K cd129 "_law_fraction" = true) (k129 : PySem.W.keepIn K (.ref f129) = true)
    (a130 : PySem.W.nsIn K mainGlobals "_law_zero" = some (some (.ref f130))) (l130 : K.lookup f130 = some ⟨oc130, od130, .func (PySem.W.fnOf "_law_zero" "_law_zero" (defArgs s130) (defBody s130) (defScope s130) .none kV130 dc130 pm130 an130 cd130 ct130), sl130⟩) (c130 : PySem.W.codeIn K cd130 "_law_zero" = true) (k130 : PySem.W.keepIn K (.ref f130) = true)
    (a131 : PySem.W.nsIn K mainGlobals "_law_strip" = some (some (.ref f131))) (l131 : K.lookup f131 = some ⟨oc131, od131, .func (PySem.W.fnOf "_law_strip" "_law_strip" (defArgs s131) (defBody s131) (defScope s131) .none kV131 dc131 pm131 an131 cd131 ct131), sl131⟩) (c131 : PySem.W.codeIn K cd131 "_law_strip" = true) (k131 : PySem.W.keepIn K (.ref f131) = true)
    (a132 : PySem.W.nsIn K mainGlobals "_law_number" = some (some (.ref f132))) (l132 : K.lookup f132 = some ⟨oc132, od132, .func (PySem.W.fnOf "_law_number" "_law_number" (defArgs s132) (defBody s132) (defScope s132) .none kV132 dc132 pm132 an132 cd132 ct132), sl132⟩) (c132 : PySem.W.codeIn K cd132 "_law_number" = true) (k132 : PySem.W.keepIn K (.ref f132) = true)
    (a139 : PySem.W.nsIn K mainGlobals "_law_some_prime" = some (some (.ref f139))) (l139 : K.lookup f139 = some ⟨oc139, od139, .func (PySem.W.fnOf "_law_some_prime" "_law_some_prime" (defArgs s139) (defBody s139) (defScope s139) .none kV139 dc139 pm139 an139 cd139 ct139), sl139⟩) (c139 : PySem.W.codeIn K cd139 "_law_some_prime" = true) (k139 : PySem.W.keepIn K (.ref f139) = true)
    (a140 : PySem.W.nsIn K mainGlobals "_law_field" = some (some (.ref f140))) (l140 : K.lookup f140 = some ⟨oc140, od140, .func (PySem.W.fnOf "_law_field" "_law_field" (defArgs s140) (defBody s140) (defScope s140) .none kV140 dc140 pm140 an140 cd140 ct140), sl140⟩) (c140 : PySem.W.codeIn K cd140 "_law_field" = true) (k140 : PySem.W.keepIn K (.ref f140) = true)
    (a144 : PySem.W.nsIn K mainGlobals "_law_small" = some (some (.ref f144))) (l144 : K.lookup f144 = some ⟨oc144, od144, .func (PySem.W.fnOf "_law_small" "_law_small" (defArgs s144) (defBody s144) (defScope s144) .none kV144 dc144 pm144 an144 cd144 ct144), sl144⟩) (c144 : PySem.W.codeIn K cd144 "_law_small" = true) (k144 : PySem.W.keepIn K (.ref f144) = true)
    (a145 : PySem.W.nsIn K mainGlobals "_law_matrix" = some (some (.ref f145))) (l145 : K.lookup f145 = some ⟨oc145, od145, .func (PySem.W.fnOf "_law_matrix" "_law_matrix" (defArgs s145) (defBody s145) (defScope s145) .none kV145 dc145 pm145 an145 cd145 ct145), sl145⟩) (c145 : PySem.W.codeIn K cd145 "_law_matrix" = true) (k145 : PySem.W.keepIn K (.ref f145) = true)
    (a152 : PySem.W.nsIn K mainGlobals "_law_called" = some (some (.ref f152))) (l152 : K.lookup f152 = some ⟨oc152, od152, .func (PySem.W.fnOf "_law_called" "_law_called" (defArgs s152) (defBody s152) (defScope s152) .none kV152 dc152 pm152 an152 cd152 ct152), sl152⟩) (c152 : PySem.W.codeIn K cd152 "_law_called" = true) (k152 : PySem.W.keepIn K (.ref f152) = true)
    (a153 : PySem.W.nsIn K mainGlobals "_law_class" = some (some (.ref f153))) (l153 : K.lookup f153 = some ⟨oc153, od153, .func (PySem.W.fnOf "_law_class" "_law_class" (defArgs s153) (defBody s153) (defScope s153) .none kV153 dc153 pm153 an153 cd153 ct153), sl153⟩) (c153 : PySem.W.codeIn K cd153 "_law_class" = true) (k153 : PySem.W.keepIn K (.ref f153) = true)
    (a154 : PySem.W.nsIn K mainGlobals "_law_all" = some (some (.ref f154))) (l154 : K.lookup f154 = some ⟨oc154, od154, .func (PySem.W.fnOf "_law_all" "_law_all" (defArgs s154) (defBody s154) (defScope s154) .none kV154 dc154 pm154 an154 cd154 ct154), sl154⟩) (c154 : PySem.W.codeIn K cd154 "_law_all" = true) (k154 : PySem.W.keepIn K (.ref f154) = true)
    (a155 : PySem.W.nsIn K mainGlobals "_law_no_domain" = some (some (.ref f155))) (l155 : K.lookup f155 = some ⟨oc155, od155, .func (PySem.W.fnOf "_law_no_domain" "_law_no_domain" (defArgs s155) (defBody s155) (defScope s155) .none kV155 dc155 pm155 an155 cd155 ct155), sl155⟩) (c155 : PySem.W.codeIn K cd155 "_law_no_domain" = true) (k155 : PySem.W.keepIn K (.ref f155) = true)
    (a156 : PySem.W.nsIn K mainGlobals "_law_single" = some (some (.ref f156))) (l156 : K.lookup f156 = some ⟨oc156, od156, .func (PySem.W.fnOf "_law_single" "_law_single" (defArgs s156) (defBody s156) (defScope s156) .none kV156 dc156 pm156 an156 cd156 ct156), sl156⟩) (c156 : PySem.W.codeIn K cd156 "_law_single" = true) (k156 : PySem.W.keepIn K (.ref f156) = true)
    (a157 : PySem.W.nsIn K mainGlobals "_law_double" = some (some (.ref f157))) (l157 : K.lookup f157 = some ⟨oc157, od157, .func (PySem.W.fnOf "_law_double" "_law_double" (defArgs s157) (defBody s157) (defScope s157) .none kV157 dc157 pm157 an157 cd157 ct157), sl157⟩) (c157 : PySem.W.codeIn K cd157 "_law_double" = true) (k157 : PySem.W.keepIn K (.ref f157) = true)
    (a158 : PySem.W.nsIn K mainGlobals "law" = some (some (.ref f158))) (l158 : K.lookup f158 = some ⟨oc158, od158, .func (PySem.W.fnOf "law" "law" (defArgs s158) (defBody s158) (defScope s158) .none kV158 dc158 pm158 an158 cd158 ct158), sl158⟩) (c158 : PySem.W.codeIn K cd158 "law" = true) (k158 : PySem.W.keepIn K (.ref f158) = true)
    (z_ValueError : PySem.W.nsIn K mainGlobals "ValueError" = some none)
    (z_abs : PySem.W.nsIn K mainGlobals "abs" = some none)
    (z_all : PySem.W.nsIn K mainGlobals "all" = some none)
    (z_any : PySem.W.nsIn K mainGlobals "any" = some none)
    (z_bool : PySem.W.nsIn K mainGlobals "bool" = some none)
    (z_int : PySem.W.nsIn K mainGlobals "int" = some none)
    (z_isinstance : PySem.W.nsIn K mainGlobals "isinstance" = some none)
    (z_isqrt : PySem.W.nsIn K mainGlobals "isqrt" = some (some (.builtin "math.isqrt")))
    (z_len : PySem.W.nsIn K mainGlobals "len" = some none)
    (z_range : PySem.W.nsIn K mainGlobals "range" = some none)
    (z_tuple : PySem.W.nsIn K mainGlobals "tuple" = some none)
    (yn : PySem.W.specialIn K (.builtin "object.__class__") "__get__" = some (some (.builtin "getset_descriptor.__get__"))) (yt : PySem.W.takesIn K (.builtin "object.__class__") = some true)
    {e0 : Addr} (ya0 : PySem.W.nsIn K mainGlobals "EchelonError" = some (some (.ref e0))) (yb0 : PySem.W.findIn K (.ref e0) "__getattribute__" = some (some (.builtin "BaseException.__getattribute__"))) (yc0 : PySem.W.findIn K (.ref e0) "__getattr__" = some none) (yd0 : PySem.W.subIn K (.ref e0) (.type "BaseException") = some true) (ye0 : PySem.W.hasDictIn K e0 = true) (yf0 : PySem.W.findIn K (.ref e0) "__class__" = some (some (.builtin "object.__class__"))) (yg0 : PySem.W.mroIn K e0 (.type "object") = some true) (yh0 : PySem.W.typeIn K (.ref e0) = some (.type "type")) (yi0 : PySem.W.keepIn K (.ref e0) = true) (yv0 : PySem.W.subIn K (.ref e0) (.type "ValueError") = some true)
    {e1 : Addr} (ya1 : PySem.W.nsIn K mainGlobals "DomainError" = some (some (.ref e1))) (yb1 : PySem.W.findIn K (.ref e1) "__getattribute__" = some (some (.builtin "BaseException.__getattribute__"))) (yc1 : PySem.W.findIn K (.ref e1) "__getattr__" = some none) (yd1 : PySem.W.subIn K (.ref e1) (.type "BaseException") = some true) (ye1 : PySem.W.hasDictIn K e1 = true) (yf1 : PySem.W.findIn K (.ref e1) "__class__" = some (some (.builtin "object.__class__"))) (yg1 : PySem.W.mroIn K e1 (.type "object") = some true) (yh1 : PySem.W.typeIn K (.ref e1) = some (.type "type")) (yi1 : PySem.W.keepIn K (.ref e1) = true) (yv1 : PySem.W.subIn K (.ref e1) (.type "ValueError") = some true) (yx1 : PySem.W.excIn K e1 [.type "ValueError", .type "Exception", .type "BaseException", .type "object"] "ValueError.__new__" = true)
    {e2 : Addr} (ya2 : PySem.W.nsIn K mainGlobals "ShapeError" = some (some (.ref e2))) (yb2 : PySem.W.findIn K (.ref e2) "__getattribute__" = some (some (.builtin "BaseException.__getattribute__"))) (yc2 : PySem.W.findIn K (.ref e2) "__getattr__" = some none) (yd2 : PySem.W.subIn K (.ref e2) (.type "BaseException") = some true) (ye2 : PySem.W.hasDictIn K e2 = true) (yf2 : PySem.W.findIn K (.ref e2) "__class__" = some (some (.builtin "object.__class__"))) (yg2 : PySem.W.mroIn K e2 (.type "object") = some true) (yh2 : PySem.W.typeIn K (.ref e2) = some (.type "type")) (yi2 : PySem.W.keepIn K (.ref e2) = true) (yv2 : PySem.W.subIn K (.ref e2) (.type "ValueError") = some true) (yx2 : PySem.W.excIn K e2 [.type "ValueError", .type "Exception", .type "BaseException", .type "object"] "ValueError.__new__" = true)
    {e3 : Addr} (ya3 : PySem.W.nsIn K mainGlobals "SingularError" = some (some (.ref e3))) (yb3 : PySem.W.findIn K (.ref e3) "__getattribute__" = some (some (.builtin "BaseException.__getattribute__"))) (yc3 : PySem.W.findIn K (.ref e3) "__getattr__" = some none) (yd3 : PySem.W.subIn K (.ref e3) (.type "BaseException") = some true) (ye3 : PySem.W.hasDictIn K e3 = true) (yf3 : PySem.W.findIn K (.ref e3) "__class__" = some (some (.builtin "object.__class__"))) (yg3 : PySem.W.mroIn K e3 (.type "object") = some true) (yh3 : PySem.W.typeIn K (.ref e3) = some (.type "type")) (yi3 : PySem.W.keepIn K (.ref e3) = true) (yv3 : PySem.W.subIn K (.ref e3) (.type "ValueError") = some true)
    (ys0_0 : PySem.W.subIn K (.ref e0) (.ref e0) = some true)
    (ys0_1 : PySem.W.subIn K (.ref e0) (.ref e1) = some false)
    (ys0_2 : PySem.W.subIn K (.ref e0) (.ref e2) = some false)
    (ys0_3 : PySem.W.subIn K (.ref e0) (.ref e3) = some false)
    (ys1_0 : PySem.W.subIn K (.ref e1) (.ref e0) = some true)
    (ys1_1 : PySem.W.subIn K (.ref e1) (.ref e1) = some true)
    (ys1_2 : PySem.W.subIn K (.ref e1) (.ref e2) = some false)
    (ys1_3 : PySem.W.subIn K (.ref e1) (.ref e3) = some false)
    (ys2_0 : PySem.W.subIn K (.ref e2) (.ref e0) = some true)
    (ys2_1 : PySem.W.subIn K (.ref e2) (.ref e1) = some false)
    (ys2_2 : PySem.W.subIn K (.ref e2) (.ref e2) = some true)
    (ys2_3 : PySem.W.subIn K (.ref e2) (.ref e3) = some false)
    (ys3_0 : PySem.W.subIn K (.ref e3) (.ref e0) = some true)
    (ys3_1 : PySem.W.subIn K (.ref e3) (.ref e1) = some false)
    (ys3_2 : PySem.W.subIn K (.ref e3) (.ref e2) = some false)
    (ys3_3 : PySem.W.subIn K (.ref e3) (.ref e3) = some true)
    {tk_SHORT : Tok} (z_SHORT : PySem.W.nsIn K mainGlobals "SHORT" = some (some (.int 40 tk_SHORT)))
    {tk_LARGEST_MODULUS : Tok} (z_LARGEST_MODULUS : PySem.W.nsIn K mainGlobals "LARGEST_MODULUS" = some (some (.int 65521 tk_LARGEST_MODULUS)))
    {tk_LARGE_PRIME : Tok} (z_LARGE_PRIME : PySem.W.nsIn K mainGlobals "LARGE_PRIME" = some (some (.int 2305843009213693951 tk_LARGE_PRIME))) :
    ∃ fd : FuncData, (∀ (s : Shared) (v : Value), BindsTo s fd ⟨[v], []⟩ [("script", v)]) ∧ ∀ base : Heap, K.In base → base.Ns mainGlobals mg → FnOk l.prog w K mg base CX0 10 fa fd ["script"] (spLaw K) := by
  have e := hfa.symm.trans (PySem.W.mg_of X G a158)
  cases e
  have T : Txt K mg (fun n => match n with | 1 => f1 | 4 => f4 | 19 => f19 | 20 => f20 | 24 => f24 | 60 => f60 | 61 => f61 | 68 => f68 | 71 => f71 | 73 => f73 | 74 => f74 | 75 => f75 | 76 => f76 | 79 => f79 | 88 => f88 | 89 => f89 | 90 => f90 | 91 => f91 | 92 => f92 | 94 => f94 | 112 => f112 | 116 => f116 | 117 => f117 | 120 => f120 | 122 => f122 | 123 => f123 | 124 => f124 | 125 => f125 | 126 => f126 | 128 => f128 | 129 => f129 | 130 => f130 | 131 => f131 | 132 => f132 | 139 => f139 | 140 => f140 | 144 => f144 | 145 => f145 | 152 => f152 | 153 => f153 | 154 => f154 | 155 => f155 | 156 => f156 | 157 => f157 | _ => fa) (fun n => match n with | 1 => PySem.W.fnOf "is_prime" "is_prime" (defArgs s1) (defBody s1) (defScope s1) .none kV1 dc1 pm1 an1 cd1 ct1 | 4 => PySem.W.fnOf "root" "root" (defArgs s4) (defBody s4) (defScope s4) .none kV4 dc4 pm4 an4 cd4 ct4 | 19 => PySem.W.fnOf "is_whole" "is_whole" (defArgs s19) (defBody s19) (defScope s19) .none kV19 dc19 pm19 an19 cd19 ct19 | 20 => PySem.W.fnOf "is_field" "is_field" (defArgs s20) (defBody s20) (defScope s20) .none kV20 dc20 pm20 an20 cd20 ct20 | 24 => PySem.W.fnOf "need_field" "need_field" (defArgs s24) (defBody s24) (defScope s24) .none kV24 dc24 pm24 an24 cd24 ct24 | 60 => PySem.W.fnOf "need_square" "need_square" (defArgs s60) (defBody s60) (defScope s60) .none kV60 dc60 pm60 an60 cd60 ct60 | 61 => PySem.W.fnOf "need_length" "need_length" (defArgs s61) (defBody s61) (defScope s61) .none kV61 dc61 pm61 an61 cd61 ct61 | 68 => PySem.W.fnOf "characteristic" "characteristic" (defArgs s68) (defBody s68) (defScope s68) .none kV68 dc68 pm68 an68 cd68 ct68 | 71 => PySem.W.fnOf "annihilator" "annihilator" (defArgs s71) (defBody s71) (defScope s71) .none kV71 dc71 pm71 an71 cd71 ct71 | 73 => PySem.W.fnOf "krylov" "krylov" (defArgs s73) (defBody s73) (defScope s73) .none kV73 dc73 pm73 an73 cd73 ct73 | 74 => PySem.W.fnOf "minimal" "minimal" (defArgs s74) (defBody s74) (defScope s74) .none kV74 dc74 pm74 an74 cd74 ct74 | 75 => PySem.W.fnOf "cyclic_vector" "cyclic_vector" (defArgs s75) (defBody s75) (defScope s75) .none kV75 dc75 pm75 an75 cd75 ct75 | 76 => PySem.W.fnOf "generator" "generator" (defArgs s76) (defBody s76) (defScope s76) .none kV76 dc76 pm76 an76 cd76 ct76 | 79 => PySem.W.fnOf "companion" "companion" (defArgs s79) (defBody s79) (defScope s79) .none kV79 dc79 pm79 an79 cd79 ct79 | 88 => PySem.W.fnOf "invariant_factors" "invariant_factors" (defArgs s88) (defBody s88) (defScope s88) .none kV88 dc88 pm88 an88 cd88 ct88 | 89 => PySem.W.fnOf "frobenius" "frobenius" (defArgs s89) (defBody s89) (defScope s89) .none kV89 dc89 pm89 an89 cd89 ct89 | 90 => PySem.W.fnOf "cyclic_form" "cyclic_form" (defArgs s90) (defBody s90) (defScope s90) .none kV90 dc90 pm90 an90 cd90 ct90 | 91 => PySem.W.fnOf "need_equal_sizes" "need_equal_sizes" (defArgs s91) (defBody s91) (defScope s91) .none kV91 dc91 pm91 an91 cd91 ct91 | 92 => PySem.W.fnOf "similarity" "similarity" (defArgs s92) (defBody s92) (defScope s92) .none kV92 dc92 pm92 an92 cd92 ct92 | 94 => PySem.W.fnOf "difference" "difference" (defArgs s94) (defBody s94) (defScope s94) .none kV94 dc94 pm94 an94 cd94 ct94 | 112 => PySem.W.fnOf "roots" "roots" (defArgs s112) (defBody s112) (defScope s112) .none kV112 dc112 pm112 an112 cd112 ct112 | 116 => PySem.W.fnOf "eigenvalues" "eigenvalues" (defArgs s116) (defBody s116) (defScope s116) .none kV116 dc116 pm116 an116 cd116 ct116 | 117 => PySem.W.fnOf "jordan_block" "jordan_block" (defArgs s117) (defBody s117) (defScope s117) .none kV117 dc117 pm117 an117 cd117 ct117 | 120 => PySem.W.fnOf "jordan" "jordan" (defArgs s120) (defBody s120) (defScope s120) .none kV120 dc120 pm120 an120 cd120 ct120 | 122 => PySem.W.fnOf "unsplit" "unsplit" (defArgs s122) (defBody s122) (defScope s122) .none kV122 dc122 pm122 an122 cd122 ct122 | 123 => PySem.W.fnOf "is_diagonal" "is_diagonal" (defArgs s123) (defBody s123) (defScope s123) .none kV123 dc123 pm123 an123 cd123 ct123 | 124 => PySem.W.fnOf "_law_start" "_law_start" (defArgs s124) (defBody s124) (defScope s124) .none kV124 dc124 pm124 an124 cd124 ct124 | 125 => PySem.W.fnOf "_law_fill" "_law_fill" (defArgs s125) (defBody s125) (defScope s125) .none kV125 dc125 pm125 an125 cd125 ct125 | 126 => PySem.W.fnOf "_law_take" "_law_take" (defArgs s126) (defBody s126) (defScope s126) .none kV126 dc126 pm126 an126 cd126 ct126 | 128 => PySem.W.fnOf "_law_common" "_law_common" (defArgs s128) (defBody s128) (defScope s128) .none kV128 dc128 pm128 an128 cd128 ct128 | 129 => PySem.W.fnOf "_law_fraction" "_law_fraction" (defArgs s129) (defBody s129) (defScope s129) .none kV129 dc129 pm129 an129 cd129 ct129 | 130 => PySem.W.fnOf "_law_zero" "_law_zero" (defArgs s130) (defBody s130) (defScope s130) .none kV130 dc130 pm130 an130 cd130 ct130 | 131 => PySem.W.fnOf "_law_strip" "_law_strip" (defArgs s131) (defBody s131) (defScope s131) .none kV131 dc131 pm131 an131 cd131 ct131 | 132 => PySem.W.fnOf "_law_number" "_law_number" (defArgs s132) (defBody s132) (defScope s132) .none kV132 dc132 pm132 an132 cd132 ct132 | 139 => PySem.W.fnOf "_law_some_prime" "_law_some_prime" (defArgs s139) (defBody s139) (defScope s139) .none kV139 dc139 pm139 an139 cd139 ct139 | 140 => PySem.W.fnOf "_law_field" "_law_field" (defArgs s140) (defBody s140) (defScope s140) .none kV140 dc140 pm140 an140 cd140 ct140 | 144 => PySem.W.fnOf "_law_small" "_law_small" (defArgs s144) (defBody s144) (defScope s144) .none kV144 dc144 pm144 an144 cd144 ct144 | 145 => PySem.W.fnOf "_law_matrix" "_law_matrix" (defArgs s145) (defBody s145) (defScope s145) .none kV145 dc145 pm145 an145 cd145 ct145 | 152 => PySem.W.fnOf "_law_called" "_law_called" (defArgs s152) (defBody s152) (defScope s152) .none kV152 dc152 pm152 an152 cd152 ct152 | 153 => PySem.W.fnOf "_law_class" "_law_class" (defArgs s153) (defBody s153) (defScope s153) .none kV153 dc153 pm153 an153 cd153 ct153 | 154 => PySem.W.fnOf "_law_all" "_law_all" (defArgs s154) (defBody s154) (defScope s154) .none kV154 dc154 pm154 an154 cd154 ct154 | 155 => PySem.W.fnOf "_law_no_domain" "_law_no_domain" (defArgs s155) (defBody s155) (defScope s155) .none kV155 dc155 pm155 an155 cd155 ct155 | 156 => PySem.W.fnOf "_law_single" "_law_single" (defArgs s156) (defBody s156) (defScope s156) .none kV156 dc156 pm156 an156 cd156 ct156 | 157 => PySem.W.fnOf "_law_double" "_law_double" (defArgs s157) (defBody s157) (defScope s157) .none kV157 dc157 pm157 an157 cd157 ct157 | 158 => PySem.W.fnOf "law" "law" (defArgs s158) (defBody s158) (defScope s158) .none kV158 dc158 pm158 an158 cd158 ct158 | _ => PySem.W.fnOf "law" "law" (defArgs s158) (defBody s158) (defScope s158) .none kV158 dc158 pm158 an158 cd158 ct158) (fun n => match n with | 0 => e0 | 1 => e1 | 2 => e2 | 3 => e3 | _ => fa) := {
    F1 := fun_mk (st := s1) l1 c1 k1
    g1 := PySem.W.mg_of X G a1
    b1 := (fun_mk (st := s1) l1 c1 k1).binds (ps := ["n"]) fun _ _ _ _ _ _ us hl => match us, hl with | [_], _ => rfl
    F4 := fun_mk (st := s4) l4 c4 k4
    g4 := PySem.W.mg_of X G a4
    b4 := (fun_mk (st := s4) l4 c4 k4).binds (ps := ["n"]) fun _ _ _ _ _ _ us hl => match us, hl with | [_], _ => rfl
    F19 := fun_mk (st := s19) l19 c19 k19
    g19 := PySem.W.mg_of X G a19
    b19 := (fun_mk (st := s19) l19 c19 k19).binds (ps := ["x"]) fun _ _ _ _ _ _ us hl => match us, hl with | [_], _ => rfl
    F20 := fun_mk (st := s20) l20 c20 k20
    g20 := PySem.W.mg_of X G a20
    b20 := (fun_mk (st := s20) l20 c20 k20).binds (ps := ["d"]) fun _ _ _ _ _ _ us hl => match us, hl with | [_], _ => rfl
    F24 := fun_mk (st := s24) l24 c24 k24
    g24 := PySem.W.mg_of X G a24
    b24 := (fun_mk (st := s24) l24 c24 k24).binds (ps := ["f"]) fun _ _ _ _ _ _ us hl => match us, hl with | [_], _ => rfl
    F60 := fun_mk (st := s60) l60 c60 k60
    g60 := PySem.W.mg_of X G a60
    b60 := (fun_mk (st := s60) l60 c60 k60).binds (ps := ["a"]) fun _ _ _ _ _ _ us hl => match us, hl with | [_], _ => rfl
    F61 := fun_mk (st := s61) l61 c61 k61
    g61 := PySem.W.mg_of X G a61
    b61 := (fun_mk (st := s61) l61 c61 k61).binds (ps := ["v", "n"]) fun _ _ _ _ _ _ us hl => match us, hl with | [_, _], _ => rfl
    F68 := fun_mk (st := s68) l68 c68 k68
    g68 := PySem.W.mg_of X G a68
    n68 := a68
    b68 := (fun_mk (st := s68) l68 c68 k68).binds (ps := ["f", "a"]) fun _ _ _ _ _ _ us hl => match us, hl with | [_, _], _ => rfl
    F71 := fun_mk (st := s71) l71 c71 k71
    g71 := PySem.W.mg_of X G a71
    n71 := a71
    b71 := (fun_mk (st := s71) l71 c71 k71).binds (ps := ["f", "a", "v"]) fun _ _ _ _ _ _ us hl => match us, hl with | [_, _, _], _ => rfl
    F73 := fun_mk (st := s73) l73 c73 k73
    g73 := PySem.W.mg_of X G a73
    n73 := a73
    b73 := (fun_mk (st := s73) l73 c73 k73).binds (ps := ["f", "a", "v"]) fun _ _ _ _ _ _ us hl => match us, hl with | [_, _, _], _ => rfl
    F74 := fun_mk (st := s74) l74 c74 k74
    g74 := PySem.W.mg_of X G a74
    n74 := a74
    b74 := (fun_mk (st := s74) l74 c74 k74).binds (ps := ["f", "a"]) fun _ _ _ _ _ _ us hl => match us, hl with | [_, _], _ => rfl
    F75 := fun_mk (st := s75) l75 c75 k75
    g75 := PySem.W.mg_of X G a75
    n75 := a75
    b75 := (fun_mk (st := s75) l75 c75 k75).binds (ps := ["f", "a"]) fun _ _ _ _ _ _ us hl => match us, hl with | [_, _], _ => rfl
    F76 := fun_mk (st := s76) l76 c76 k76
    g76 := PySem.W.mg_of X G a76
    b76 := (fun_mk (st := s76) l76 c76 k76).binds (ps := ["f", "a"]) fun _ _ _ _ _ _ us hl => match us, hl with | [_, _], _ => rfl
    F79 := fun_mk (st := s79) l79 c79 k79
    g79 := PySem.W.mg_of X G a79
    n79 := a79
    b79 := (fun_mk (st := s79) l79 c79 k79).binds (ps := ["f", "g"]) fun _ _ _ _ _ _ us hl => match us, hl with | [_, _], _ => rfl
    F88 := fun_mk (st := s88) l88 c88 k88
    g88 := PySem.W.mg_of X G a88
    n88 := a88
    b88 := (fun_mk (st := s88) l88 c88 k88).binds (ps := ["f", "a"]) fun _ _ _ _ _ _ us hl => match us, hl with | [_, _], _ => rfl
    F89 := fun_mk (st := s89) l89 c89 k89
    g89 := PySem.W.mg_of X G a89
    n89 := a89
    b89 := (fun_mk (st := s89) l89 c89 k89).binds (ps := ["f", "a"]) fun _ _ _ _ _ _ us hl => match us, hl with | [_, _], _ => rfl
    F90 := fun_mk (st := s90) l90 c90 k90
    g90 := PySem.W.mg_of X G a90
    b90 := (fun_mk (st := s90) l90 c90 k90).binds (ps := ["f", "a"]) fun _ _ _ _ _ _ us hl => match us, hl with | [_, _], _ => rfl
    F91 := fun_mk (st := s91) l91 c91 k91
    g91 := PySem.W.mg_of X G a91
    b91 := (fun_mk (st := s91) l91 c91 k91).binds (ps := ["f", "a", "b"]) fun _ _ _ _ _ _ us hl => match us, hl with | [_, _, _], _ => rfl
    F92 := fun_mk (st := s92) l92 c92 k92
    g92 := PySem.W.mg_of X G a92
    n92 := a92
    b92 := (fun_mk (st := s92) l92 c92 k92).binds (ps := ["f", "a", "b"]) fun _ _ _ _ _ _ us hl => match us, hl with | [_, _, _], _ => rfl
    F94 := fun_mk (st := s94) l94 c94 k94
    g94 := PySem.W.mg_of X G a94
    n94 := a94
    b94 := (fun_mk (st := s94) l94 c94 k94).binds (ps := ["f", "a", "b"]) fun _ _ _ _ _ _ us hl => match us, hl with | [_, _, _], _ => rfl
    F112 := fun_mk (st := s112) l112 c112 k112
    g112 := PySem.W.mg_of X G a112
    b112 := (fun_mk (st := s112) l112 c112 k112).binds (ps := ["f", "a"]) fun _ _ _ _ _ _ us hl => match us, hl with | [_, _], _ => rfl
    F116 := fun_mk (st := s116) l116 c116 k116
    g116 := PySem.W.mg_of X G a116
    n116 := a116
    b116 := (fun_mk (st := s116) l116 c116 k116).binds (ps := ["f", "a"]) fun _ _ _ _ _ _ us hl => match us, hl with | [_, _], _ => rfl
    F117 := fun_mk (st := s117) l117 c117 k117
    g117 := PySem.W.mg_of X G a117
    n117 := a117
    b117 := (fun_mk (st := s117) l117 c117 k117).binds (ps := ["f", "x", "k"]) fun _ _ _ _ _ _ us hl => match us, hl with | [_, _, _], _ => rfl
    F120 := fun_mk (st := s120) l120 c120 k120
    g120 := PySem.W.mg_of X G a120
    n120 := a120
    b120 := (fun_mk (st := s120) l120 c120 k120).binds (ps := ["f", "a"]) fun _ _ _ _ _ _ us hl => match us, hl with | [_, _], _ => rfl
    F122 := fun_mk (st := s122) l122 c122 k122
    g122 := PySem.W.mg_of X G a122
    n122 := a122
    b122 := (fun_mk (st := s122) l122 c122 k122).binds (ps := ["f", "a"]) fun _ _ _ _ _ _ us hl => match us, hl with | [_, _], _ => rfl
    F123 := fun_mk (st := s123) l123 c123 k123
    g123 := PySem.W.mg_of X G a123
    n123 := a123
    b123 := (fun_mk (st := s123) l123 c123 k123).binds (ps := ["f", "a"]) fun _ _ _ _ _ _ us hl => match us, hl with | [_, _], _ => rfl
    F124 := fun_mk (st := s124) l124 c124 k124
    g124 := PySem.W.mg_of X G a124
    b124 := (fun_mk (st := s124) l124 c124 k124).binds (ps := ["script"]) fun _ _ _ _ _ _ us hl => match us, hl with | [_], _ => rfl
    F125 := fun_mk (st := s125) l125 c125 k125
    g125 := PySem.W.mg_of X G a125
    b125 := (fun_mk (st := s125) l125 c125 k125).binds (ps := ["c"]) fun _ _ _ _ _ _ us hl => match us, hl with | [_], _ => rfl
    F126 := fun_mk (st := s126) l126 c126 k126
    g126 := PySem.W.mg_of X G a126
    b126 := (fun_mk (st := s126) l126 c126 k126).binds (ps := ["c", "many"]) fun _ _ _ _ _ _ us hl => match us, hl with | [_, _], _ => rfl
    F128 := fun_mk (st := s128) l128 c128 k128
    g128 := PySem.W.mg_of X G a128
    b128 := (fun_mk (st := s128) l128 c128 k128).binds (ps := ["a", "b"]) fun _ _ _ _ _ _ us hl => match us, hl with | [_, _], _ => rfl
    F129 := fun_mk (st := s129) l129 c129 k129
    g129 := PySem.W.mg_of X G a129
    b129 := (fun_mk (st := s129) l129 c129 k129).binds (ps := ["n", "m"]) fun _ _ _ _ _ _ us hl => match us, hl with | [_, _], _ => rfl
    F130 := fun_mk (st := s130) l130 c130 k130
    g130 := PySem.W.mg_of X G a130
    b130 := (fun_mk (st := s130) l130 c130 k130).binds (ps := ["d"]) fun _ _ _ _ _ _ us hl => match us, hl with | [_], _ => rfl
    F131 := fun_mk (st := s131) l131 c131 k131
    g131 := PySem.W.mg_of X G a131
    b131 := (fun_mk (st := s131) l131 c131 k131).binds (ps := ["f", "parts"]) fun _ _ _ _ _ _ us hl => match us, hl with | [_, _], _ => rfl
    F132 := fun_mk (st := s132) l132 c132 k132
    g132 := PySem.W.mg_of X G a132
    b132 := (fun_mk (st := s132) l132 c132 k132).binds (ps := ["d", "n"]) fun _ _ _ _ _ _ us hl => match us, hl with | [_, _], _ => rfl
    F139 := fun_mk (st := s139) l139 c139 k139
    g139 := PySem.W.mg_of X G a139
    b139 := (fun_mk (st := s139) l139 c139 k139).binds (ps := ["c"]) fun _ _ _ _ _ _ us hl => match us, hl with | [_], _ => rfl
    F140 := fun_mk (st := s140) l140 c140 k140
    g140 := PySem.W.mg_of X G a140
    b140 := (fun_mk (st := s140) l140 c140 k140).binds (ps := ["c"]) fun _ _ _ _ _ _ us hl => match us, hl with | [_], _ => rfl
    F144 := fun_mk (st := s144) l144 c144 k144
    g144 := PySem.W.mg_of X G a144
    b144 := (fun_mk (st := s144) l144 c144 k144).binds (ps := ["c", "d"]) fun _ _ _ _ _ _ us hl => match us, hl with | [_, _], _ => rfl
    F145 := fun_mk (st := s145) l145 c145 k145
    g145 := PySem.W.mg_of X G a145
    b145 := (fun_mk (st := s145) l145 c145 k145).binds (ps := ["c", "d", "m", "n"]) fun _ _ _ _ _ _ us hl => match us, hl with | [_, _, _, _], _ => rfl
    F152 := fun_mk (st := s152) l152 c152 k152
    g152 := PySem.W.mg_of X G a152
    b152 := (fun_mk (st := s152) l152 c152 k152).binds (ps := ["f", "args"]) fun _ _ _ _ _ _ us hl => match us, hl with | [_, _], _ => rfl
    F153 := fun_mk (st := s153) l153 c153 k153
    g153 := PySem.W.mg_of X G a153
    b153 := (fun_mk (st := s153) l153 c153 k153).binds (ps := ["f", "args"]) fun _ _ _ _ _ _ us hl => match us, hl with | [_, _], _ => rfl
    F154 := fun_mk (st := s154) l154 c154 k154
    g154 := PySem.W.mg_of X G a154
    b154 := (fun_mk (st := s154) l154 c154 k154).binds (ps := ["rows", "due"]) fun _ _ _ _ _ _ us hl => match us, hl with | [_, _], _ => rfl
    F155 := fun_mk (st := s155) l155 c155 k155
    g155 := PySem.W.mg_of X G a155
    b155 := (fun_mk (st := s155) l155 c155 k155).binds (ps := ["c"]) fun _ _ _ _ _ _ us hl => match us, hl with | [_], _ => rfl
    F156 := fun_mk (st := s156) l156 c156 k156
    g156 := PySem.W.mg_of X G a156
    b156 := (fun_mk (st := s156) l156 c156 k156).binds (ps := ["d", "a"]) fun _ _ _ _ _ _ us hl => match us, hl with | [_, _], _ => rfl
    F157 := fun_mk (st := s157) l157 c157 k157
    g157 := PySem.W.mg_of X G a157
    b157 := (fun_mk (st := s157) l157 c157 k157).binds (ps := ["d", "a", "b", "v"]) fun _ _ _ _ _ _ us hl => match us, hl with | [_, _, _, _], _ => rfl
    F158 := fun_mk (st := s158) l158 c158 k158
    g158 := PySem.W.mg_of X G a158
    b158 := (fun_mk (st := s158) l158 c158 k158).binds (ps := ["script"]) fun _ _ _ _ _ _ us hl => match us, hl with | [_], _ => rfl
    m_ValueError := PySem.W.mg_none_of X G z_ValueError
    m_abs := PySem.W.mg_none_of X G z_abs
    m_all := PySem.W.mg_none_of X G z_all
    m_any := PySem.W.mg_none_of X G z_any
    m_bool := PySem.W.mg_none_of X G z_bool
    m_int := PySem.W.mg_none_of X G z_int
    m_isinstance := PySem.W.mg_none_of X G z_isinstance
    m_isqrt := PySem.W.mg_of X G z_isqrt
    m_len := PySem.W.mg_none_of X G z_len
    m_range := PySem.W.mg_none_of X G z_range
    m_tuple := PySem.W.mg_none_of X G z_tuple
    c_SHORT := ⟨_, PySem.W.mg_of X G z_SHORT⟩
    c_LARGEST_MODULUS := ⟨_, PySem.W.mg_of X G z_LARGEST_MODULUS⟩
    c_LARGE_PRIME := ⟨_, PySem.W.mg_of X G z_LARGE_PRIME⟩
    x0 := PySem.W.mg_of X G ya0
    cf0 := ⟨⟨yb0, yc0, yd0, ye0, yf0, yn, yt, yg0⟩, yh0, yi0⟩
    sv0 := yv0
    su0_0 := ys0_0
    su0_1 := ys0_1
    su0_2 := ys0_2
    su0_3 := ys0_3
    x1 := PySem.W.mg_of X G ya1
    cf1 := ⟨⟨yb1, yc1, yd1, ye1, yf1, yn, yt, yg1⟩, yh1, yi1⟩
    xi1 := yx1
    sv1 := yv1
    su1_0 := ys1_0
    su1_1 := ys1_1
    su1_2 := ys1_2
    su1_3 := ys1_3
    x2 := PySem.W.mg_of X G ya2
    cf2 := ⟨⟨yb2, yc2, yd2, ye2, yf2, yn, yt, yg2⟩, yh2, yi2⟩
    xi2 := yx2
    sv2 := yv2
    su2_0 := ys2_0
    su2_1 := ys2_1
    su2_2 := ys2_2
    su2_3 := ys2_3
    x3 := PySem.W.mg_of X G ya3
    cf3 := ⟨⟨yb3, yc3, yd3, ye3, yf3, yn, yt, yg3⟩, yh3, yi3⟩
    sv3 := yv3
    su3_0 := ys3_0
    su3_1 := ys3_1
    su3_2 := ys3_2
    su3_3 := ys3_3 }
  exact ⟨PySem.W.fnOf "law" "law" (defArgs s158) (defBody s158) (defScope s158) .none kV158 dc158 pm158 an158 cd158 ct158, fun s v => .of_eq rfl, fun base _ _ => ok_law T⟩

end My
namespace HM
open PySem PySem.Spec PyProof.Rows L2
theorem done {w : World} {K : PySem.W.Frag} {h : Heap} {mg : Str → Option Value} {fa : Addr} (X : K.In h) (G : h.Ns mainGlobals mg) (hfa : mg "law" = some (.ref fa)) (c : HF.Says fx K) :
    ∃ fd : FuncData, (∀ (s : Shared) (v : Value), BindsTo s fd ⟨[v], []⟩ [("script", v)]) ∧ ∀ base : Heap, K.In base → base.Ns mainGlobals mg → FnOk PySem.Challenge.rw_echelon_k67_refused_operators.prog w K mg base CX0 10 fa fd ["script"] (My.spLaw K) := by
  obtain ⟨oc1, od1, sl1, kV1, dc1, pm1, an1, cd1, ct1, l1, c1⟩ := c.def_ 0 (d := HM.d1) rfl (c.fact 1 rfl)
  obtain ⟨oc4, od4, sl4, kV4, dc4, pm4, an4, cd4, ct4, l4, c4⟩ := c.def_ 1 (d := HM.d4) rfl (c.fact 4 rfl)
  obtain ⟨oc19, od19, sl19, kV19, dc19, pm19, an19, cd19, ct19, l19, c19⟩ := c.def_ 2 (d := HM.d19) rfl (c.fact 7 rfl)
  obtain ⟨oc20, od20, sl20, kV20, dc20, pm20, an20, cd20, ct20, l20, c20⟩ := c.def_ 3 (d := HM.d20) rfl (c.fact 10 rfl)
  obtain ⟨oc24, od24, sl24, kV24, dc24, pm24, an24, cd24, ct24, l24, c24⟩ := c.def_ 4 (d := HM.d24) rfl (c.fact 13 rfl)
  obtain ⟨oc60, od60, sl60, kV60, dc60, pm60, an60, cd60, ct60, l60, c60⟩ := c.def_ 5 (d := HM.d60) rfl (c.fact 16 rfl)
  obtain ⟨oc61, od61, sl61, kV61, dc61, pm61, an61, cd61, ct61, l61, c61⟩ := c.def_ 6 (d := HM.d61) rfl (c.fact 19 rfl)
  obtain ⟨oc68, od68, sl68, kV68, dc68, pm68, an68, cd68, ct68, l68, c68⟩ := c.def_ 7 (d := HM.d68) rfl (c.fact 22 rfl)
  obtain ⟨oc71, od71, sl71, kV71, dc71, pm71, an71, cd71, ct71, l71, c71⟩ := c.def_ 8 (d := HM.d71) rfl (c.fact 25 rfl)
  obtain ⟨oc73, od73, sl73, kV73, dc73, pm73, an73, cd73, ct73, l73, c73⟩ := c.def_ 9 (d := HM.d73) rfl (c.fact 28 rfl)
  obtain ⟨oc74, od74, sl74, kV74, dc74, pm74, an74, cd74, ct74, l74, c74⟩ := c.def_ 10 (d := HM.d74) rfl (c.fact 31 rfl)
  obtain ⟨oc75, od75, sl75, kV75, dc75, pm75, an75, cd75, ct75, l75, c75⟩ := c.def_ 11 (d := HM.d75) rfl (c.fact 34 rfl)
  obtain ⟨oc76, od76, sl76, kV76, dc76, pm76, an76, cd76, ct76, l76, c76⟩ := c.def_ 12 (d := HM.d76) rfl (c.fact 37 rfl)
  obtain ⟨oc79, od79, sl79, kV79, dc79, pm79, an79, cd79, ct79, l79, c79⟩ := c.def_ 13 (d := HM.d79) rfl (c.fact 40 rfl)
  obtain ⟨oc88, od88, sl88, kV88, dc88, pm88, an88, cd88, ct88, l88, c88⟩ := c.def_ 14 (d := HM.d88) rfl (c.fact 43 rfl)
  obtain ⟨oc89, od89, sl89, kV89, dc89, pm89, an89, cd89, ct89, l89, c89⟩ := c.def_ 15 (d := HM.d89) rfl (c.fact 46 rfl)
  obtain ⟨oc90, od90, sl90, kV90, dc90, pm90, an90, cd90, ct90, l90, c90⟩ := c.def_ 16 (d := HM.d90) rfl (c.fact 49 rfl)
  obtain ⟨oc91, od91, sl91, kV91, dc91, pm91, an91, cd91, ct91, l91, c91⟩ := c.def_ 17 (d := HM.d91) rfl (c.fact 52 rfl)
  obtain ⟨oc92, od92, sl92, kV92, dc92, pm92, an92, cd92, ct92, l92, c92⟩ := c.def_ 18 (d := HM.d92) rfl (c.fact 55 rfl)
  obtain ⟨oc94, od94, sl94, kV94, dc94, pm94, an94, cd94, ct94, l94, c94⟩ := c.def_ 19 (d := HM.d94) rfl (c.fact 58 rfl)
  obtain ⟨oc112, od112, sl112, kV112, dc112, pm112, an112, cd112, ct112, l112, c112⟩ := c.def_ 20 (d := HM.d112) rfl (c.fact 61 rfl)
  obtain ⟨oc116, od116, sl116, kV116, dc116, pm116, an116, cd116, ct116, l116, c116⟩ := c.def_ 21 (d := HM.d116) rfl (c.fact 64 rfl)
  obtain ⟨oc117, od117, sl117, kV117, dc117, pm117, an117, cd117, ct117, l117, c117⟩ := c.def_ 22 (d := HM.d117) rfl (c.fact 67 rfl)
  obtain ⟨oc120, od120, sl120, kV120, dc120, pm120, an120, cd120, ct120, l120, c120⟩ := c.def_ 23 (d := HM.d120) rfl (c.fact 70 rfl)
  obtain ⟨oc122, od122, sl122, kV122, dc122, pm122, an122, cd122, ct122, l122, c122⟩ := c.def_ 24 (d := HM.d122) rfl (c.fact 73 rfl)
  obtain ⟨oc123, od123, sl123, kV123, dc123, pm123, an123, cd123, ct123, l123, c123⟩ := c.def_ 25 (d := HM.d123) rfl (c.fact 76 rfl)
  obtain ⟨oc124, od124, sl124, kV124, dc124, pm124, an124, cd124, ct124, l124, c124⟩ := c.def_ 26 (d := HM.d124) rfl (c.fact 79 rfl)
  obtain ⟨oc125, od125, sl125, kV125, dc125, pm125, an125, cd125, ct125, l125, c125⟩ := c.def_ 27 (d := HM.d125) rfl (c.fact 82 rfl)
  obtain ⟨oc126, od126, sl126, kV126, dc126, pm126, an126, cd126, ct126, l126, c126⟩ := c.def_ 28 (d := HM.d126) rfl (c.fact 85 rfl)
  obtain ⟨oc128, od128, sl128, kV128, dc128, pm128, an128, cd128, ct128, l128, c128⟩ := c.def_ 29 (d := HM.d128) rfl (c.fact 88 rfl)
  obtain ⟨oc129, od129, sl129, kV129, dc129, pm129, an129, cd129, ct129, l129, c129⟩ := c.def_ 30 (d := HM.d129) rfl (c.fact 91 rfl)
  obtain ⟨oc130, od130, sl130, kV130, dc130, pm130, an130, cd130, ct130, l130, c130⟩ := c.def_ 31 (d := HM.d130) rfl (c.fact 94 rfl)
  obtain ⟨oc131, od131, sl131, kV131, dc131, pm131, an131, cd131, ct131, l131, c131⟩ := c.def_ 32 (d := HM.d131) rfl (c.fact 97 rfl)
  obtain ⟨oc132, od132, sl132, kV132, dc132, pm132, an132, cd132, ct132, l132, c132⟩ := c.def_ 33 (d := HM.d132) rfl (c.fact 100 rfl)
  obtain ⟨oc139, od139, sl139, kV139, dc139, pm139, an139, cd139, ct139, l139, c139⟩ := c.def_ 34 (d := HM.d139) rfl (c.fact 103 rfl)
  obtain ⟨oc140, od140, sl140, kV140, dc140, pm140, an140, cd140, ct140, l140, c140⟩ := c.def_ 35 (d := HM.d140) rfl (c.fact 106 rfl)
  obtain ⟨oc144, od144, sl144, kV144, dc144, pm144, an144, cd144, ct144, l144, c144⟩ := c.def_ 36 (d := HM.d144) rfl (c.fact 109 rfl)
  obtain ⟨oc145, od145, sl145, kV145, dc145, pm145, an145, cd145, ct145, l145, c145⟩ := c.def_ 37 (d := HM.d145) rfl (c.fact 112 rfl)
  obtain ⟨oc152, od152, sl152, kV152, dc152, pm152, an152, cd152, ct152, l152, c152⟩ := c.def_ 38 (d := HM.d152) rfl (c.fact 115 rfl)
  obtain ⟨oc153, od153, sl153, kV153, dc153, pm153, an153, cd153, ct153, l153, c153⟩ := c.def_ 39 (d := HM.d153) rfl (c.fact 118 rfl)
  obtain ⟨oc154, od154, sl154, kV154, dc154, pm154, an154, cd154, ct154, l154, c154⟩ := c.def_ 40 (d := HM.d154) rfl (c.fact 121 rfl)
  obtain ⟨oc155, od155, sl155, kV155, dc155, pm155, an155, cd155, ct155, l155, c155⟩ := c.def_ 41 (d := HM.d155) rfl (c.fact 124 rfl)
  obtain ⟨oc156, od156, sl156, kV156, dc156, pm156, an156, cd156, ct156, l156, c156⟩ := c.def_ 42 (d := HM.d156) rfl (c.fact 127 rfl)
  obtain ⟨oc157, od157, sl157, kV157, dc157, pm157, an157, cd157, ct157, l157, c157⟩ := c.def_ 43 (d := HM.d157) rfl (c.fact 130 rfl)
  obtain ⟨oc158, od158, sl158, kV158, dc158, pm158, an158, cd158, ct158, l158, c158⟩ := c.def_ 44 (d := HM.d158) rfl (c.fact 133 rfl)
  obtain ⟨tz_SHORT, ez_SHORT⟩ := HF.int_ns (c.fact 149 rfl)
  obtain ⟨tz_LARGEST_MODULUS, ez_LARGEST_MODULUS⟩ := HF.int_ns (c.fact 150 rfl)
  obtain ⟨tz_LARGE_PRIME, ez_LARGE_PRIME⟩ := HF.int_ns (c.fact 151 rfl)
  exact My.all_mk (l := PySem.Challenge.rw_echelon_k67_refused_operators) X G hfa (a1 := He.eqO_ok (c.fact 0 rfl)) (l1 := l1) (c1 := c1) (k1 := He.keep_ok (c.fact 2 rfl)) (a4 := He.eqO_ok (c.fact 3 rfl)) (l4 := l4) (c4 := c4) (k4 := He.keep_ok (c.fact 5 rfl)) (a19 := He.eqO_ok (c.fact 6 rfl)) (l19 := l19) (c19 := c19) (k19 := He.keep_ok (c.fact 8 rfl)) (a20 := He.eqO_ok (c.fact 9 rfl)) (l20 := l20) (c20 := c20) (k20 := He.keep_ok (c.fact 11 rfl)) (a24 := He.eqO_ok (c.fact 12 rfl)) (l24 := l24) (c24 := c24) (k24 := He.keep_ok (c.fact 14 rfl)) (a60 := He.eqO_ok (c.fact 15 rfl)) (l60 := l60) (c60 := c60) (k60 := He.keep_ok (c.fact 17 rfl)) (a61 := He.eqO_ok (c.fact 18 rfl)) (l61 := l61) (c61 := c61) (k61 := He.keep_ok (c.fact 20 rfl)) (a68 := He.eqO_ok (c.fact 21 rfl)) (l68 := l68) (c68 := c68) (k68 := He.keep_ok (c.fact 23 rfl)) (a71 := He.eqO_ok (c.fact 24 rfl)) (l71 := l71) (c71 := c71) (k71 := He.keep_ok (c.fact 26 rfl)) (a73 := He.eqO_ok (c.fact 27 rfl)) (l73 := l73) (c73 := c73) (k73 := He.keep_ok (c.fact 29 rfl)) (a74 := He.eqO_ok (c.fact 30 rfl)) (l74 := l74) (c74 := c74) (k74 := He.keep_ok (c.fact 32 rfl)) (a75 := He.eqO_ok (c.fact 33 rfl)) (l75 := l75) (c75 := c75) (k75 := He.keep_ok (c.fact 35 rfl)) (a76 := He.eqO_ok (c.fact 36 rfl)) (l76 := l76) (c76 := c76) (k76 := He.keep_ok (c.fact 38 rfl)) (a79 := He.eqO_ok (c.fact 39 rfl)) (l79 := l79) (c79 := c79) (k79 := He.keep_ok (c.fact 41 rfl)) (a88 := He.eqO_ok (c.fact 42 rfl)) (l88 := l88) (c88 := c88) (k88 := He.keep_ok (c.fact 44 rfl)) (a89 := He.eqO_ok (c.fact 45 rfl)) (l89 := l89) (c89 := c89) (k89 := He.keep_ok (c.fact 47 rfl)) (a90 := He.eqO_ok (c.fact 48 rfl)) (l90 := l90) (c90 := c90) (k90 := He.keep_ok (c.fact 50 rfl)) (a91 := He.eqO_ok (c.fact 51 rfl)) (l91 := l91) (c91 := c91) (k91 := He.keep_ok (c.fact 53 rfl)) (a92 := He.eqO_ok (c.fact 54 rfl)) (l92 := l92) (c92 := c92) (k92 := He.keep_ok (c.fact 56 rfl)) (a94 := He.eqO_ok (c.fact 57 rfl)) (l94 := l94) (c94 := c94) (k94 := He.keep_ok (c.fact 59 rfl)) (a112 := He.eqO_ok (c.fact 60 rfl)) (l112 := l112) (c112 := c112) (k112 := He.keep_ok (c.fact 62 rfl)) (a116 := He.eqO_ok (c.fact 63 rfl)) (l116 := l116) (c116 := c116) (k116 := He.keep_ok (c.fact 65 rfl)) (a117 := He.eqO_ok (c.fact 66 rfl)) (l117 := l117) (c117 := c117) (k117 := He.keep_ok (c.fact 68 rfl)) (a120 := He.eqO_ok (c.fact 69 rfl)) (l120 := l120) (c120 := c120) (k120 := He.keep_ok (c.fact 71 rfl)) (a122 := He.eqO_ok (c.fact 72 rfl)) (l122 := l122) (c122 := c122) (k122 := He.keep_ok (c.fact 74 rfl)) (a123 := He.eqO_ok (c.fact 75 rfl)) (l123 := l123) (c123 := c123) (k123 := He.keep_ok (c.fact 77 rfl)) (a124 := He.eqO_ok (c.fact 78 rfl)) (l124 := l124) (c124 := c124) (k124 := He.keep_ok (c.fact 80 rfl)) (a125 := He.eqO_ok (c.fact 81 rfl)) (l125 := l125) (c125 := c125) (k125 := He.keep_ok (c.fact 83 rfl)) (a126 := He.eqO_ok (c.fact 84 rfl)) (l126 := l126) (c126 := c126) (k126 := He.keep_ok (c.fact 86 rfl)) (a128 := He.eqO_ok (c.fact 87 rfl)) (l128 := l128) (c128 := c128) (k128 := He.keep_ok (c.fact 89 rfl)) (a129 := He.eqO_ok (c.fact 90 rfl)) (l129 := l129) (c129 := c129) (k129 := He.keep_ok (c.fact 92 rfl)) (a130 := He.eqO_ok (c.fact 93 rfl)) (l130 := l130) (c130 := c130) (k130 := He.keep_ok (c.fact 95 rfl)) (a131 := He.eqO_ok (c.fact 96 rfl)) (l131 := l131) (c131 := c131) (k131 := He.keep_ok (c.fact 98 rfl)) (a132 := He.eqO_ok (c.fact 99 rfl)) (l132 := l132) (c132 := c132) (k132 := He.keep_ok (c.fact 101 rfl)) (a139 := He.eqO_ok (c.fact 102 rfl)) (l139 := l139) (c139 := c139) (k139 := He.keep_ok (c.fact 104 rfl)) (a140 := He.eqO_ok (c.fact 105 rfl)) (l140 := l140) (c140 := c140) (k140 := He.keep_ok (c.fact 107 rfl)) (a144 := He.eqO_ok (c.fact 108 rfl)) (l144 := l144) (c144 := c144) (k144 := He.keep_ok (c.fact 110 rfl)) (a145 := He.eqO_ok (c.fact 111 rfl)) (l145 := l145) (c145 := c145) (k145 := He.keep_ok (c.fact 113 rfl)) (a152 := He.eqO_ok (c.fact 114 rfl)) (l152 := l152) (c152 := c152) (k152 := He.keep_ok (c.fact 116 rfl)) (a153 := He.eqO_ok (c.fact 117 rfl)) (l153 := l153) (c153 := c153) (k153 := He.keep_ok (c.fact 119 rfl)) (a154 := He.eqO_ok (c.fact 120 rfl)) (l154 := l154) (c154 := c154) (k154 := He.keep_ok (c.fact 122 rfl)) (a155 := He.eqO_ok (c.fact 123 rfl)) (l155 := l155) (c155 := c155) (k155 := He.keep_ok (c.fact 125 rfl)) (a156 := He.eqO_ok (c.fact 126 rfl)) (l156 := l156) (c156 := c156) (k156 := He.keep_ok (c.fact 128 rfl)) (a157 := He.eqO_ok (c.fact 129 rfl)) (l157 := l157) (c157 := c157) (k157 := He.keep_ok (c.fact 131 rfl)) (a158 := He.eqO_ok (c.fact 132 rfl)) (l158 := l158) (c158 := c158) (k158 := He.keep_ok (c.fact 134 rfl)) (z_ValueError := He.eqO_ok (c.fact 135 rfl)) (z_abs := He.eqO_ok (c.fact 136 rfl)) (z_all := He.eqO_ok (c.fact 137 rfl)) (z_any := He.eqO_ok (c.fact 138 rfl)) (z_bool := He.eqO_ok (c.fact 139 rfl)) (z_int := He.eqO_ok (c.fact 140 rfl)) (z_isinstance := He.eqO_ok (c.fact 141 rfl)) (z_isqrt := of_decide_eq_true (c.exf 0 rfl)) (z_len := He.eqO_ok (c.fact 142 rfl)) (z_range := He.eqO_ok (c.fact 143 rfl)) (z_tuple := He.eqO_ok (c.fact 144 rfl)) (yn := of_decide_eq_true (c.exf 1 rfl)) (yt := of_decide_eq_true (c.exf 2 rfl)) (ya0 := He.eqO_ok (c.fact 145 rfl)) (yb0 := of_decide_eq_true (c.exf 3 rfl)) (yc0 := of_decide_eq_true (c.exf 4 rfl)) (yd0 := of_decide_eq_true (c.exf 5 rfl)) (ye0 := of_decide_eq_true (c.exf 6 rfl)) (yf0 := of_decide_eq_true (c.exf 7 rfl)) (yg0 := of_decide_eq_true (c.exf 8 rfl)) (yh0 := of_decide_eq_true (c.exf 9 rfl)) (yi0 := of_decide_eq_true (c.exf 10 rfl)) (yv0 := of_decide_eq_true (c.exf 11 rfl)) (ya1 := He.eqO_ok (c.fact 146 rfl)) (yb1 := of_decide_eq_true (c.exf 12 rfl)) (yc1 := of_decide_eq_true (c.exf 13 rfl)) (yd1 := of_decide_eq_true (c.exf 14 rfl)) (ye1 := of_decide_eq_true (c.exf 15 rfl)) (yf1 := of_decide_eq_true (c.exf 16 rfl)) (yg1 := of_decide_eq_true (c.exf 17 rfl)) (yh1 := of_decide_eq_true (c.exf 18 rfl)) (yi1 := of_decide_eq_true (c.exf 19 rfl)) (yv1 := of_decide_eq_true (c.exf 20 rfl)) (yx1 := of_decide_eq_true (c.exf 21 rfl)) (ya2 := He.eqO_ok (c.fact 147 rfl)) (yb2 := of_decide_eq_true (c.exf 22 rfl)) (yc2 := of_decide_eq_true (c.exf 23 rfl)) (yd2 := of_decide_eq_true (c.exf 24 rfl)) (ye2 := of_decide_eq_true (c.exf 25 rfl)) (yf2 := of_decide_eq_true (c.exf 26 rfl)) (yg2 := of_decide_eq_true (c.exf 27 rfl)) (yh2 := of_decide_eq_true (c.exf 28 rfl)) (yi2 := of_decide_eq_true (c.exf 29 rfl)) (yv2 := of_decide_eq_true (c.exf 30 rfl)) (yx2 := of_decide_eq_true (c.exf 31 rfl)) (ya3 := He.eqO_ok (c.fact 148 rfl)) (yb3 := of_decide_eq_true (c.exf 32 rfl)) (yc3 := of_decide_eq_true (c.exf 33 rfl)) (yd3 := of_decide_eq_true (c.exf 34 rfl)) (ye3 := of_decide_eq_true (c.exf 35 rfl)) (yf3 := of_decide_eq_true (c.exf 36 rfl)) (yg3 := of_decide_eq_true (c.exf 37 rfl)) (yh3 := of_decide_eq_true (c.exf 38 rfl)) (yi3 := of_decide_eq_true (c.exf 39 rfl)) (yv3 := of_decide_eq_true (c.exf 40 rfl)) (ys0_0 := of_decide_eq_true (c.exf 41 rfl)) (ys0_1 := of_decide_eq_true (c.exf 42 rfl)) (ys0_2 := of_decide_eq_true (c.exf 43 rfl)) (ys0_3 := of_decide_eq_true (c.exf 44 rfl)) (ys1_0 := of_decide_eq_true (c.exf 45 rfl)) (ys1_1 := of_decide_eq_true (c.exf 46 rfl)) (ys1_2 := of_decide_eq_true (c.exf 47 rfl)) (ys1_3 := of_decide_eq_true (c.exf 48 rfl)) (ys2_0 := of_decide_eq_true (c.exf 49 rfl)) (ys2_1 := of_decide_eq_true (c.exf 50 rfl)) (ys2_2 := of_decide_eq_true (c.exf 51 rfl)) (ys2_3 := of_decide_eq_true (c.exf 52 rfl)) (ys3_0 := of_decide_eq_true (c.exf 53 rfl)) (ys3_1 := of_decide_eq_true (c.exf 54 rfl)) (ys3_2 := of_decide_eq_true (c.exf 55 rfl)) (ys3_3 := of_decide_eq_true (c.exf 56 rfl)) (z_SHORT := ez_SHORT) (z_LARGEST_MODULUS := ez_LARGEST_MODULUS) (z_LARGE_PRIME := ez_LARGE_PRIME)
end HM
open PySem PySem.W PyProof.Rows
set_option maxHeartbeats 0 in
theorem PySem.Challenge.cw_echelon_k67_refused_operators_holds : PySem.Challenge.rw_echelon_k67_refused_operators.Holds := by
  w_on; o_law
  refine HandSHeadRun.head_imp (r := OpenLaw.row PySem.Challenge.rw_echelon_k67_refused_operators) (q := HM.qv) (H := HF.hook HM.fx) (ob := HM.ob) (M := 20000) (loose := HM.names) (d := HM.dL) (kwd := []) HM.ho HM.run HM.h1 HM.h2 HM.h3 HM.h4 (by first | assumption | decide +kernel) HM.h6 HM.h7 ?hw ?hc
  case hw => w_witness2
  case hc =>
    refine L2.walk_ofE (l := PySem.Challenge.rw_echelon_k67_refused_operators) (n := 63) (k := 10) (x := "script") (CX := L2.CX0) rfl (by decide) HM.h9 ⟨rfl, by decide, by decide⟩ ?F (fun _ _ _ _ z => z)
    intro w mg fa h Y G hmg0
    obtain ⟨K, KX, c⟩ := Y
    have hmg : mg ("law" : PySem.Str) = some (.ref fa) := by
      rw [← HM.h8]
      exact hmg0
    obtain ⟨fd, hb, hF⟩ := HM.done (w := w) KX G hmg c
    exact ⟨K, fd, My.spLaw K, KX, hb, fun H a ns hl _ hS => ⟨a, ns, rfl, hS, hl, fun _ => rfl⟩, hF⟩
