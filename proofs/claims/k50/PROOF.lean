import PyProof.Rows.All
import Wide.All
import OpenK.AllK
import Wide.FinOn
import HandS.ForMost
import HandS.ForExc
import HandS.Wide
import HandS.Gcd
import HandS.IsInst
import HandS.TupAny
import HandS.Flow
import KE.DataEq
import KE.KMathG
import Flt.RightSqrt
import HandS.RevRange
import HandS.WideBits
import KE.GoesEnumKw
import HandS.Zip
import HandS.Rev
import HandS.NoneIn
import HandS.Style
import HandS.TupMul
import PySem.Challenge.RW_echelon_k50_bounds_and_primes
set_option Elab.async false
set_option linter.all false
set_option maxRecDepth 100000
set_option maxHeartbeats 4000000
namespace DL
open PySem PySem.Spec PyProof.Rows L2

abbrev D := PyData
abbrev Fg := PySem.W.Frag

/-! ## heaps and data -/
open Classical in
noncomputable def hide (hd : Addr → Prop) (H : Hp) : Hp := fun b => if hd b then none else H b
theorem hide_some {hd : Addr → Prop} {H : Hp} {b : Addr} {o : HO} : hide hd H b = some o ↔ ¬ hd b ∧ H b = some o := by
  unfold hide
  by_cases h : hd b
  · rw [if_pos h]; exact ⟨(fun z => nomatch z), (fun z => absurd h z.1)⟩
  · rw [if_neg h]; exact ⟨fun z => ⟨h, z⟩, fun z => z.2⟩
/-- what is visible stays visible -/
theorem hide_same {hd hd' : Addr → Prop} {H H' : Hp} (h : ∀ b o, ¬ hd b → H b = some o → ¬ hd' b ∧ H' b = some o) : Same (hide hd H) (hide hd' H') := fun b o e =>
  hide_some.mpr (h b o (hide_some.mp e).1 (hide_some.mp e).2)
theorem hide_le {hd : Addr → Prop} {H : Hp} : Same (hide hd H) H := fun _ _ e => (hide_some.mp e).2

mutual
/-- v stands for the data d; the token .dict [] is the law's state at lc -/
inductive Dv (K : Fg) (lc : Option Addr) (H : Hp) : V → D → Prop
  | non : Dv K lc H .non .none
  | bl (b : Bool) : Dv K lc H (.bl b) (.bool b)
  | int (i : Int) : Dv K lc H (.int i) (.int i)
  | str (x : Str) : Dv K lc H (.str x) (.str x)
  | lst {a : Addr} {xs : List V} {ds : List D} : H a = some (.lst xs) → DvAll K lc H xs ds → Dv K lc H (.ref a) (.list ds)
  | tup {a : Addr} {xs : List V} {ds : List D} : SqT K H a xs → DvAll K lc H xs ds → Dv K lc H (.ref a) (.tuple ds)
  | tok {a : Addr} : lc = some a → Dv K lc H (.ref a) (.dict [])
inductive DvAll (K : Fg) (lc : Option Addr) (H : Hp) : List V → List D → Prop
  | nil : DvAll K lc H [] []
  | cons {v : V} {vs : List V} {d : D} {ds : List D} : Dv K lc H v d → DvAll K lc H vs ds → DvAll K lc H (v :: vs) (d :: ds)
end
theorem same_t {K : Fg} {H H' : Hp} {a : Addr} {xs : List V} (e : Same H H') (h : SqT K H a xs) : SqT K H' a xs := by
  rcases h with (h | ⟨o, h⟩) | h
  · exact .inl (.inl (e _ _ h))
  · exact .inl (.inr ⟨o, e _ _ h⟩)
  · exact .inr h
section
variable {K : Fg} {lc : Option Addr} {H H' : Hp}
mutual
theorem Dv.mono (e : Same H H') : ∀ {d : D} {v : V}, Dv K lc H v d → Dv K lc H' v d
  | .none, _, h => by cases h; exact .non
  | .bool b, _, h => by cases h; exact .bl b
  | .int b, _, h => by cases h; exact .int b
  | .str b, _, h => by cases h; exact .str b
  | .list ds, _, h => by
    cases h with
    | lst hs ha => exact .lst (e _ _ hs) (DvAll.mono e ha)
  | .tuple ds, _, h => by
    cases h with
    | tup hs ha => exact .tup (same_t e hs) (DvAll.mono e ha)
  | .dict _, _, h => by
    cases h with
    | tok q => exact .tok q
theorem DvAll.mono (e : Same H H') : ∀ {ds : List D} {vs : List V}, DvAll K lc H vs ds → DvAll K lc H' vs ds
  | [], _, h => by cases h; exact .nil
  | d :: ds, _, h => by
    cases h with
    | cons h1 h2 => exact .cons (Dv.mono e h1) (DvAll.mono e h2)
end
mutual
theorem Dv.dp : ∀ {d : D} {v : V}, d.plain = true → Dv K lc H v d → Dp K H v d
  | .none, _, _, h => by cases h; exact .non
  | .bool b, _, _, h => by cases h; exact .bl b
  | .int b, _, _, h => by cases h; exact .int b
  | .str b, _, _, h => by cases h; exact .str b
  | .list ds, _, p, h => by
    cases h with
    | lst hs ha => exact .lst (.of hs) (DvAll.dp (by simpa [PyData.plain] using p) ha)
  | .tuple ds, _, p, h => by
    cases h with
    | tup hs ha => exact .tup hs (DvAll.dp (by simpa [PyData.plain] using p) ha)
  | .dict _, _, p, h => by simp [PyData.plain] at p
theorem DvAll.dp : ∀ {ds : List D} {vs : List V}, PyData.plainAll ds = true → DvAll K lc H vs ds → DpAll K H vs ds
  | [], _, _, h => by cases h; exact .nil
  | d :: ds, _, p, h => by
    cases h with
    | cons h1 h2 =>
      have q : d.plain = true ∧ PyData.plainAll ds = true := by simpa [PyData.plainAll] using p
      exact .cons (Dv.dp q.1 h1) (DvAll.dp q.2 h2)
end
theorem DvAll.length : ∀ {ds : List D} {vs : List V}, DvAll K lc H vs ds → vs.length = ds.length
  | [], _, h => by cases h; rfl
  | d :: ds, _, h => by
    cases h with
    | cons h1 h2 => rw [List.length_cons, List.length_cons, DvAll.length h2]
theorem DvAll.app : ∀ {ds es : List D} {vs ws : List V}, DvAll K lc H vs ds → DvAll K lc H ws es → DvAll K lc H (vs ++ ws) (ds ++ es)
  | [], _, _, _, h, k => by cases h; exact k
  | d :: ds, _, _, _, h, k => by
    cases h with
    | cons h1 h2 => exact .cons h1 (DvAll.app h2 k)
theorem DvAll.split : ∀ {ds es : List D} {vs ws : List V}, vs.length = ds.length → DvAll K lc H (vs ++ ws) (ds ++ es) → DvAll K lc H vs ds ∧ DvAll K lc H ws es
  | [], _, [], _, _, h => ⟨.nil, h⟩
  | d :: ds, _, v :: vs, _, hl, h => by
    cases h with
    | cons h1 h2 =>
      obtain ⟨q1, q2⟩ := DvAll.split (by simpa using hl) h2
      exact ⟨.cons h1 q1, q2⟩
theorem DvAll.get : ∀ {ds : List D} {vs : List V} {i : Nat} {d : D}, DvAll K lc H vs ds → ds[i]? = some d → ∃ v, vs[i]? = some v ∧ Dv K lc H v d
  | [], _, _, _, _, e => by simp at e
  | c :: ds, _, 0, d, h, e => by
    cases h with
    | cons h1 h2 =>
      have : c = d := by simpa using e
      subst this
      exact ⟨_, rfl, h1⟩
  | c :: ds, _, i + 1, d, h, e => by
    cases h with
    | cons h1 h2 =>
      rw [List.getElem?_cons_succ] at e ⊢
      exact DvAll.get h2 e
theorem DvAll.getv : ∀ {ds : List D} {vs : List V} {i : Nat} {v : V}, DvAll K lc H vs ds → vs[i]? = some v → ∃ d, ds[i]? = some d ∧ Dv K lc H v d
  | [], _, _, _, h, e => by cases h; simp at e
  | c :: ds, _, 0, d, h, e => by
    cases h with
    | cons h1 h2 =>
      have := Option.some.inj e
      subst this
      exact ⟨_, rfl, h1⟩
  | c :: ds, _, i + 1, d, h, e => by
    cases h with
    | cons h1 h2 =>
      rw [List.getElem?_cons_succ] at e ⊢
      exact DvAll.getv h2 e
theorem DvAll.take (n : Nat) : ∀ {ds : List D} {vs : List V}, DvAll K lc H vs ds → DvAll K lc H (vs.take n) (ds.take n) := by
  induction n with
  | zero => intro ds vs _; exact .nil
  | succ n ih =>
    intro ds vs h
    cases h with
    | nil => exact .nil
    | cons h1 h2 => exact .cons h1 (ih h2)
theorem DvAll.drop (n : Nat) : ∀ {ds : List D} {vs : List V}, DvAll K lc H vs ds → DvAll K lc H (vs.drop n) (ds.drop n) := by
  induction n with
  | zero => intro ds vs h; exact h
  | succ n ih =>
    intro ds vs h
    cases h with
    | nil => exact .nil
    | cons h1 h2 => exact ih h2
theorem DvAll.set {v : V} {d : D} (r : Dv K lc H v d) : ∀ {ds : List D} {vs : List V} (i : Nat), DvAll K lc H vs ds → DvAll K lc H (vs.set i v) (ds.set i d)
  | [], _, _, h => by cases h; exact .nil
  | c :: ds, _, 0, h => by
    cases h with
    | cons h1 h2 => exact .cons r h2
  | c :: ds, _, i + 1, h => by
    cases h with
    | cons h1 h2 => exact .cons h1 (DvAll.set r i h2)
theorem DvAll.dropLast : ∀ {ds : List D} {vs : List V}, DvAll K lc H vs ds → DvAll K lc H vs.dropLast ds.dropLast := by
  intro ds vs h
  rw [List.dropLast_eq_take, List.dropLast_eq_take, h.length]
  exact h.take _
theorem DvAll.isEmpty {ds : List D} {vs : List V} (h : DvAll K lc H vs ds) : vs.isEmpty = ds.isEmpty := by
  cases h <;> rfl
end

/-! ## the law's own state: [cells, place, digits, count] at one address -/
def Cst (K : Fg) (hd : Addr → Prop) (H : Hp) (b : Addr) : Prop := ∃ (p : Addr) (ns : List Int) (pos dig cnt : Int), H b = some (.lst [.ref p, .int pos, .int dig, .int cnt]) ∧ SqL K H p (ns.map V.int) ∧ p ≠ b ∧ 0 ≤ pos ∧ ns.length ≤ 63 ∧ hd p
def Evo (lc : Option Addr) (H H' : Hp) : Prop := ∀ b o, lc ≠ some b → H b = some o → H' b = some o
def Cok (K : Fg) (lc : Option Addr) (hd : Addr → Prop) (H : Hp) : Prop := ∀ b, lc = some b → Cst K hd H b ∧ hd b
theorem Evo.refl {lc : Option Addr} (H : Hp) : Evo lc H H := fun _ _ _ h => h
theorem Evo.trans {lc : Option Addr} {H H1 H2 : Hp} (a : Evo lc H H1) (b : Evo lc H1 H2) : Evo lc H H2 := fun c o n h => b c o n (a c o n h)
theorem Evo.of {lc : Option Addr} {H H' : Hp} (e : Same H H') : Evo lc H H' := fun c o _ h => e c o h
theorem Cst.mono {K : Fg} {hd : Addr → Prop} {H H' : Hp} {b : Addr} (e : Same H H') (h : Cst K hd H b) : Cst K hd H' b := by
  obtain ⟨p, ns, pos, dig, cnt, h1, h2, h3⟩ := h
  exact ⟨p, ns, pos, dig, cnt, e _ _ h1, e.seq h2, h3⟩
theorem Cst.more {K : Fg} {hd hd' : Addr → Prop} {H : Hp} {b : Addr} (e : ∀ p, hd p → hd' p) (h : Cst K hd H b) : Cst K hd' H b := by
  obtain ⟨p, ns, pos, dig, cnt, h1, h2, h3, h4, h5, h6⟩ := h
  exact ⟨p, ns, pos, dig, cnt, h1, h2, h3, h4, h5, e _ h6⟩
theorem Cok.mono {K : Fg} {lc : Option Addr} {hd : Addr → Prop} {H H' : Hp} (e : Same H H') (h : Cok K lc hd H) : Cok K lc hd H' := fun b q => ⟨(h b q).1.mono e, (h b q).2⟩

/-! ## what a def promises, by data -/
def SpD (K : Fg) (pre : List D → Prop) (post : List D → D → Prop) : Sp := fun vs H Q _ => ∃ (lc : Option Addr) (hc hd : Addr → Prop) (ds : List D),
  DvAll K lc (hide hd H) vs ds ∧ Cok K lc hc H ∧ (∀ b, hc b → hd b) ∧ (∀ b, hd b → H b ≠ none) ∧ pre ds ∧
    ∀ v d H', Evo lc H H' → Cok K lc hc H' → Dv K lc (hide hd H') v d → post ds d → Q v H'

/-! ## the frame -/
inductive Slot where
  | un
  | val (d : D)
  | own (ds : List D)
abbrev Rho := List Slot
def look : Rho → Nat → Slot
  | [], _ => .un
  | s :: _, 0 => s
  | _ :: r, n + 1 => look r n
def put : Rho → Nat → Slot → Rho
  | [], _, _ => []
  | _ :: r, 0, s => s :: r
  | t :: r, n + 1, s => t :: put r n s
theorem put_length : ∀ (ρ : Rho) (i : Nat) (s : Slot), (put ρ i s).length = ρ.length
  | [], _, _ => rfl
  | _ :: r, 0, _ => rfl
  | _ :: r, n + 1, s => by simp [put, put_length r n s]
theorem look_put : ∀ (ρ : Rho) (i : Nat) (s : Slot), look (put ρ i s) i = s ∨ look (put ρ i s) i = .un
  | [], _, _ => .inr rfl
  | _ :: r, 0, s => .inl rfl
  | _ :: r, n + 1, s => look_put r n s
theorem look_put_ne : ∀ (ρ : Rho) (i j : Nat) (s : Slot), j ≠ i → look (put ρ i s) j = look ρ j
  | [], _, _, _, _ => rfl
  | _ :: r, 0, 0, s, h => absurd rfl h
  | _ :: r, 0, j + 1, s, _ => rfl
  | _ :: r, n + 1, 0, s, _ => rfl
  | _ :: r, n + 1, j + 1, s, h => look_put_ne r n j s (by omega)
theorem look_lt : ∀ (ρ : Rho) (i : Nat), look ρ i ≠ .un → i < ρ.length
  | [], _, h => absurd rfl h
  | _ :: r, 0, _ => by simp
  | _ :: r, n + 1, h => by simpa using look_lt r n h
theorem put_lt : ∀ (ρ : Rho) (i : Nat) (s : Slot), s ≠ .un → look (put ρ i s) i = s → i < ρ.length
  | [], _, _, h, e => absurd e.symm h
  | _ :: r, 0, _, _, _ => by simp
  | _ :: r, n + 1, s, h, e => by simpa using put_lt r n s h e

/-- what stays outside a def's names: the law's state, what is hidden, the heap at the start, lists that are being made -/
structure Amb where
  lc : Option Addr
  hc : Addr → Prop
  hd : Addr → Prop
  H0 : Hp
  gh : List (Addr × List D)
def hdO (M : Amb) (ow : Nat → Option Addr) : Addr → Prop := fun b => M.hd b ∨ (∃ i, ow i = some b) ∨ ∃ ds, (b, ds) ∈ M.gh
structure AtW (K : Fg) (M : Amb) (σ : L2.St) (H : Hp) (ρ : Rho) (ow : Nat → Option Addr) : Prop where
  evo : Evo M.lc M.H0 H
  cok : Cok K M.lc M.hc H
  sub : ∀ b, M.hc b → M.hd b
  all : ∀ b, M.hd b → M.H0 b ≠ none
  len : σ.length = ρ.length
  val : ∀ i d, look ρ i = .val d → ∃ v, σ[i]? = some (some v) ∧ Dv K M.lc (hide (hdO M ow) H) v d
  own : ∀ i ds, look ρ i = .own ds → ∃ p xs, ow i = some p ∧ σ[i]? = some (some (.ref p)) ∧ H p = some (.lst xs) ∧ DvAll K M.lc (hide (hdO M ow) H) xs ds
  fre : ∀ i p, ow i = some p → M.H0 p = none ∧ ∃ xs, H p = some (.lst xs)
  inj : ∀ i j p, ow i = some p → ow j = some p → i = j
  gho : ∀ p ds, (p, ds) ∈ M.gh → M.H0 p = none ∧ (∀ i, ow i ≠ some p) ∧ ∃ xs, H p = some (.lst xs) ∧ DvAll K M.lc (hide (hdO M ow) H) xs ds
  gnd : (M.gh.map (·.1)).Nodup
def At (K : Fg) (M : Amb) (σ : L2.St) (H : Hp) (ρ : Rho) (pv : List V) (pd : List D) : Prop :=
  ∃ ow, AtW K M σ H ρ ow ∧ DvAll K M.lc (hide (hdO M ow) H) pv pd
section
variable {K : Fg} {M : Amb} {H H' : Hp} {σ : L2.St} {ρ : Rho} {pv : List V} {pd : List D} {ow : Nat → Option Addr}
theorem AtW.ne (A : AtW K M σ H ρ ow) {p : Addr} (h : M.H0 p = none) : ¬ M.hd p := fun z => A.all p z h
theorem AtW.nel (A : AtW K M σ H ρ ow) {p : Addr} (h : M.H0 p = none) : M.lc ≠ some p := fun z => A.ne h (A.sub p (A.cok p z).2)
theorem AtW.vis (A : AtW K M σ H ρ ow) (e : Evo M.lc H H') : Same (hide (hdO M ow) H) (hide (hdO M ow) H') := hide_same fun b o n h => ⟨n, e b o (fun z => n (.inl (A.sub b (A.cok b z).2))) h⟩
theorem AtW.step (A : AtW K M σ H ρ ow) (e : Evo M.lc H H') (c : Cok K M.lc M.hc H') : AtW K M σ H' ρ ow where
  evo := A.evo.trans e
  cok := c
  sub := A.sub
  all := A.all
  len := A.len
  val := fun i d h => by
    obtain ⟨v, h1, h2⟩ := A.val i d h
    exact ⟨v, h1, h2.mono (A.vis e)⟩
  own := fun i ds h => by
    obtain ⟨p, xs, h1, h2, h3, h4⟩ := A.own i ds h
    exact ⟨p, xs, h1, h2, e p _ (A.nel (A.fre i p h1).1) h3, h4.mono (A.vis e)⟩
  fre := fun i p h => by
    obtain ⟨h1, xs, h2⟩ := A.fre i p h
    exact ⟨h1, xs, e p _ (A.nel h1) h2⟩
  inj := A.inj
  gho := fun p ds h => by
    obtain ⟨h1, h2, xs, h3, h4⟩ := A.gho p ds h
    exact ⟨h1, h2, xs, e p _ (A.nel h1) h3, h4.mono (A.vis e)⟩
  gnd := A.gnd
/-- what is hidden is there -/
theorem AtW.hall (A : AtW K M σ H ρ ow) (b : Addr) (z : hdO M ow b) : H b ≠ none := by
  rcases z with z | ⟨i, z⟩ | ⟨ds, z⟩
  · intro w
    cases q0 : M.H0 b with
    | none => exact A.all b z q0
    | some o =>
      by_cases hl : M.lc = some b
      · obtain ⟨⟨_, _, _, _, _, g, _⟩, _⟩ := A.cok b hl
        rw [w] at g; cases g
      · rw [A.evo b o hl q0] at w; cases w
  · obtain ⟨_, xs, h⟩ := A.fre i b z
    rw [h]
    exact fun z => nomatch z
  · obtain ⟨_, _, xs, h, _⟩ := A.gho b ds z
    rw [h]
    exact fun z => nomatch z
theorem At.step (A : At K M σ H ρ pv pd) (e : Evo M.lc H H') (c : Cok K M.lc M.hc H') : At K M σ H' ρ pv pd := by
  obtain ⟨ow, A, h⟩ := A
  exact ⟨ow, A.step e c, h.mono (A.vis e)⟩
/-- something is made -/
theorem At.same (A : At K M σ H ρ pv pd) (e : Same H H') : At K M σ H' ρ pv pd := by
  obtain ⟨ow, B, h⟩ := A
  exact At.step ⟨ow, B, h⟩ (.of e) (B.cok.mono e)
theorem At.pop {v : V} {d : D} (A : At K M σ H ρ (v :: pv) (d :: pd)) : At K M σ H ρ pv pd := by
  obtain ⟨ow, A, h⟩ := A
  cases h with
  | cons h1 h2 => exact ⟨ow, A, h2⟩
theorem At.popA {vs : List V} {ds : List D} (A : At K M σ H ρ (vs ++ pv) (ds ++ pd)) (hl : vs.length = ds.length) : At K M σ H ρ pv pd := by
  obtain ⟨ow, A, h⟩ := A
  exact ⟨ow, A, (DvAll.split hl h).2⟩
/-- the list of slot i, if it has one, is let go -/
def owOff (ow : Nat → Option Addr) (i : Nat) : Nat → Option Addr := fun j => if j = i then none else ow j
theorem owOff_same (ow : Nat → Option Addr) (i : Nat) : owOff ow i i = none := by simp [owOff]
theorem owOff_ne (ow : Nat → Option Addr) {i j : Nat} (h : j ≠ i) : owOff ow i j = ow j := by simp [owOff, h]
theorem owOff_some {ow : Nat → Option Addr} {i j : Nat} {p : Addr} (h : owOff ow i j = some p) : j ≠ i ∧ ow j = some p := by
  by_cases e : j = i
  · subst e; rw [owOff_same] at h; cases h
  · rw [owOff_ne ow e] at h; exact ⟨e, h⟩
theorem hdO_off {i : Nat} {b : Addr} (h : hdO M (owOff ow i) b) : hdO M ow b := by
  rcases h with h | ⟨j, h⟩ | h
  · exact .inl h
  · exact .inr (.inl ⟨j, (owOff_some h).2⟩)
  · exact .inr (.inr h)
theorem vis_off (ow : Nat → Option Addr) (i : Nat) (H : Hp) : Same (hide (hdO M ow) H) (hide (hdO M (owOff ow i)) H) := hide_same fun b o n h => ⟨fun z => n (hdO_off z), h⟩
/-- a slot's store: what it owned is let go -/
theorem AtW.put (A : AtW K M σ H ρ ow) (i : Nat) {v : V} {d : D} (g : Dv K M.lc (hide (hdO M (owOff ow i)) H) v d) : AtW K M (σ.set i (some v)) H (put ρ i (.val d)) (owOff ow i) where
  evo := A.evo
  cok := A.cok
  sub := A.sub
  all := A.all
  len := by rw [List.length_set, put_length]; exact A.len
  val := fun j e hj => by
    by_cases hji : j = i
    · subst hji
      have hlt : j < σ.length := by
        rw [A.len]
        have := look_lt _ j (show look (DL.put ρ j (.val d)) j ≠ .un by rw [hj]; exact fun z => nomatch z)
        rwa [put_length] at this
      rcases look_put ρ j (.val d) with z | z
      · rw [z] at hj
        cases hj
        exact ⟨v, List.getElem?_set_self hlt, g⟩
      · rw [z] at hj; cases hj
    · rw [look_put_ne _ _ _ _ hji] at hj
      obtain ⟨u, g1, g2⟩ := A.val j e hj
      exact ⟨u, by rw [List.getElem?_set_ne (fun z => hji z.symm)]; exact g1, g2.mono (vis_off ow i H)⟩
  own := fun j es hj => by
    by_cases hji : j = i
    · subst hji
      rcases look_put ρ j (.val d) with z | z <;> (rw [z] at hj; cases hj)
    · rw [look_put_ne _ _ _ _ hji] at hj
      obtain ⟨p', xs', g1, g2, g3, g4⟩ := A.own j es hj
      exact ⟨p', xs', by rw [owOff_ne ow hji]; exact g1, by rw [List.getElem?_set_ne (fun z => hji z.symm)]; exact g2, g3, g4.mono (vis_off ow i H)⟩
  fre := fun j p hj => A.fre j p (owOff_some hj).2
  inj := fun j k p hj hk => A.inj j k p (owOff_some hj).2 (owOff_some hk).2
  gho := fun p ds h => by
    obtain ⟨h1, h2, xs, h3, h4⟩ := A.gho p ds h
    exact ⟨h1, fun j hj => h2 j (owOff_some hj).2, xs, h3, h4.mono (vis_off ow i H)⟩
  gnd := A.gnd
theorem At.put (A : At K M σ H ρ pv pd) (i : Nat) {v : V} {d : D} {pv' : List V} {pd' : List D} (e1 : pv = v :: pv') (e2 : pd = d :: pd') : At K M (σ.set i (some v)) H (put ρ i (.val d)) pv' pd' := by
  subst e1 e2
  obtain ⟨ow, A, h⟩ := A
  cases h with
  | cons h1 h2 => exact ⟨_, A.put i (h1.mono (vis_off ow i H)), h2.mono (vis_off ow i H)⟩
end
theorem same_new {H : Hp} {p : Addr} {o : HO} (h : H p = none) : Same H (upd H p o) := fun b x e => by
  rw [upd_ne (ne_of_none e h)]
  exact e
end DL

namespace DL
open PySem PySem.Spec PyProof.Rows L2

/-! ## expressions -/
abbrev WE := Rho → (D → Rho → Prop) → Prop
abbrev WA := Rho → (List D → Rho → Prop) → Prop
abbrev WT := Rho → (Bool → Rho → Prop) → Prop
def Snd (K : Fg) (t : TE) (w : WE) : Prop := ∀ (M : Amb) (σ : L2.St) (H : Hp) (ρ : Rho) (pv : List V) (pd : List D) (P : D → Rho → Prop) (Q : VK),
  At K M σ H ρ pv pd → w ρ P → (∀ v d H' ρ', At K M σ H' ρ' (v :: pv) (d :: pd) → P d ρ' → Q v H') → t σ H Q
def SndA (K : Fg) (t : TA) (w : WA) : Prop := ∀ (M : Amb) (σ : L2.St) (H : Hp) (ρ : Rho) (pv : List V) (pd : List D) (P : List D → Rho → Prop) (Q : List V → Hp → Prop),
  At K M σ H ρ pv pd → w ρ P → (∀ vs ds H' ρ', vs.length = ds.length → At K M σ H' ρ' (vs ++ pv) (ds ++ pd) → P ds ρ' → Q vs H') → t σ H Q
def SndT (K : Fg) (t : TT) (w : WT) : Prop := ∀ (M : Amb) (σ : L2.St) (H : Hp) (ρ : Rho) (pv : List V) (pd : List D) (P : Bool → Rho → Prop) (Q : Bool → Hp → Prop),
  At K M σ H ρ pv pd → w ρ P → (∀ b H' ρ', At K M σ H' ρ' pv pd → P b ρ' → Q b H') → t σ H Q
structure DE (X : Cx) (e : Expr) (t : TE) (w : WE) : Prop where
  pe : PE X e t
  sd : Snd X.K t w
structure DA (X : Cx) (es : List Expr) (t : TA) (w : WA) : Prop where
  pa : PA X es t
  sd : SndA X.K t w
structure DT (X : Cx) (e : Expr) (t : TT) (w : WT) : Prop where
  pt : PT X e t
  sd : SndT X.K t w
/-- a test whatever its whole is -/
structure DW (X : Cx) (e : Expr) (t : TT) (w : WT) : Prop where
  pw : PW X e t
  sd : SndT X.K t w

/-- operations by values -/
def Sn2 (K : Fg) (r : R2) (w : D → D → (D → Prop) → Prop) : Prop := ∀ (lc : Option Addr) (hd : Addr → Prop) (H : Hp) (x y : V) (a b : D) (P : D → Prop) (Q : VK),
  (∀ p, hd p → H p ≠ none) → Dv K lc (hide hd H) x a → Dv K lc (hide hd H) y b → w a b P → (∀ v d H', Same H H' → Dv K lc (hide hd H') v d → P d → Q v H') → r x y H Q
def Sn1 (K : Fg) (r : V → Hp → VK → Prop) (w : D → (D → Prop) → Prop) : Prop := ∀ (lc : Option Addr) (hd : Addr → Prop) (H : Hp) (x : V) (a : D) (P : D → Prop) (Q : VK),
  (∀ p, hd p → H p ≠ none) → Dv K lc (hide hd H) x a → w a P → (∀ v d H', Same H H' → Dv K lc (hide hd H') v d → P d → Q v H') → r x H Q
def SnC (K : Fg) (r : List V → Hp → VK → Prop) (w : List D → (D → Prop) → Prop) : Prop := ∀ (lc : Option Addr) (hd : Addr → Prop) (H : Hp) (xs : List V) (as : List D) (P : D → Prop) (Q : VK),
  (∀ p, hd p → H p ≠ none) → DvAll K lc (hide hd H) xs as → w as P → (∀ v d H', Same H H' → Dv K lc (hide hd H') v d → P d → Q v H') → r xs H Q

/-! ### what they are worth -/
def wName (i : Nat) : WE := fun ρ P => match look ρ i with
  | .val d => P d ρ
  | .own ds => P (.list ds) (put ρ i (.val (.list ds)))
  | .un => False
def wC (d : D) : WE := fun ρ P => P d ρ
def wBin (w2 : D → D → (D → Prop) → Prop) (wa wb : WE) : WE := fun ρ P => wa ρ fun x ρ1 => wb ρ1 fun y ρ2 => w2 x y fun z => P z ρ2
def wUn (w1 : D → (D → Prop) → Prop) (wa : WE) : WE := fun ρ P => wa ρ fun x ρ1 => w1 x fun z => P z ρ1
def wNil : WA := fun ρ P => P [] ρ
def wCons (wa : WE) (wr : WA) : WA := fun ρ P => wa ρ fun x ρ1 => wr ρ1 fun xs ρ2 => P (x :: xs) ρ2
def wTup (wa : WA) : WE := fun ρ P => wa ρ fun ds ρ1 => ds.length ≤ 100000 ∧ P (.tuple ds) ρ1
def wLst (wa : WA) : WE := fun ρ P => wa ρ fun ds ρ1 => ds.length ≤ 100000 ∧ P (.list ds) ρ1
def wCall (pre : List D → Prop) (post : List D → D → Prop) (wa : WA) : WE := fun ρ P => wa ρ fun ds ρ1 => pre ds ∧ ∀ d, post ds d → P d ρ1
def wB (wc : List D → (D → Prop) → Prop) (wa : WA) : WE := fun ρ P => wa ρ fun ds ρ1 => wc ds fun d => P d ρ1
def wTest (wa : WE) : WT := fun ρ P => wa ρ fun x ρ1 => match x with
  | .bool b => P b ρ1
  | _ => False
def truD : D → Option Bool
  | .none => some false
  | .bool b => some b
  | .int i => some (i != 0)
  | .list ds => some (!ds.isEmpty)
  | .tuple ds => some (!ds.isEmpty)
  | _ => none
def wTruT (wa : WE) : WT := fun ρ P => wa ρ fun x ρ1 => match truD x with
  | some b => P b ρ1
  | none => False
def wAnd (wa wb : WT) : WT := fun ρ P => wa ρ fun b ρ1 => if b = true then wb ρ1 P else P false ρ1
def wOr (wa wb : WT) : WT := fun ρ P => wa ρ fun b ρ1 => if b = true then P true ρ1 else wb ρ1 P
def wNotT (wa : WT) : WT := fun ρ P => wa ρ fun b ρ1 => P (!b) ρ1
def wAndV (wa wb : WE) : WE := fun ρ P => wa ρ fun x ρ1 => match truD x with
  | some true => wb ρ1 P
  | some false => P x ρ1
  | none => False
def wOrV (wa wb : WE) : WE := fun ρ P => wa ρ fun x ρ1 => match truD x with
  | some true => P x ρ1
  | some false => wb ρ1 P
  | none => False
def wNotV (wa : WE) : WE := fun ρ P => wa ρ fun x ρ1 => match truD x with
  | some b => P (.bool (!b)) ρ1
  | none => False
def wIf (wt : WT) (wa wb : WE) : WE := fun ρ P => wt ρ fun b ρ1 => if b = true then wa ρ1 P else wb ρ1 P
def wChain (w1 w2 : D → D → (D → Prop) → Prop) (wa wb wc : WE) : WE := fun ρ P => wa ρ fun x ρ1 => wb ρ1 fun y ρ2 => w1 x y fun z => match z with
  | .bool true => wc ρ2 fun u ρ3 => w2 y u fun v => P v ρ3
  | .bool false => P (.bool false) ρ2
  | _ => False

/-! ### ints -/
def dAdd : D → D → (D → Prop) → Prop
  | .int i, .int j, P => P (.int (i + j))
  | .tuple a, .tuple b, P => a.length + b.length ≤ 100000 ∧ P (.tuple (a ++ b))
  | .list a, .list b, P => a.length + b.length ≤ 100000 ∧ P (.list (a ++ b))
  | _, _, _ => False
def dSub : D → D → (D → Prop) → Prop
  | .int i, .int j, P => P (.int (i - j))
  | _, _, _ => False
/-- a factor below 2 ^ 64, or both below 2 ^ 400000 -/
def mulOk (i j : Int) : Prop := CMul i j ∨ CMulW i j
def dMul : D → D → (D → Prop) → Prop
  | .int i, .int j, P => mulOk i j ∧ P (.int (i * j))
  | .list a, .int k, P => -(2 ^ 63) ≤ k ∧ k < 2 ^ 63 ∧ a.length * k.toNat ≤ 100000 ∧ P (.list (List.replicate k.toNat a).flatten)
  | _, _, _ => False
def divOk (j : Int) : Prop := j ≠ 0 ∧ j.natAbs.log2 < 9000
def dDiv : D → D → (D → Prop) → Prop
  | .int i, .int j, P => divOk j ∧ P (.int (i.fdiv j))
  | _, _, _ => False
def dMod : D → D → (D → Prop) → Prop
  | .int i, .int j, P => j ≠ 0 ∧ P (.int (i.fmod j))
  | _, _, _ => False
def dPow : D → D → (D → Prop) → Prop
  | .int i, .int j, P => CPow i j ∧ P (.int (i ^ j.toNat))
  | _, _, _ => False
def dNeg : D → (D → Prop) → Prop
  | .int i, P => P (.int (-i))
  | _, _ => False
def dLt : D → D → (D → Prop) → Prop
  | .int i, .int j, P => P (.bool (decide (i < j)))
  | _, _, _ => False
def dLe : D → D → (D → Prop) → Prop
  | .int i, .int j, P => P (.bool (decide (i ≤ j)))
  | _, _, _ => False
def dGt : D → D → (D → Prop) → Prop
  | .int i, .int j, P => P (.bool (decide (j < i)))
  | _, _, _ => False
def dGe : D → D → (D → Prop) → Prop
  | .int i, .int j, P => P (.bool (decide (j ≤ i)))
  | _, _, _ => False
def eqOk (x y : D) : Prop := x.plain = true ∧ y.plain = true ∧ (x.depth ≤ 64 ∨ y.depth ≤ 64)
def dEq : D → D → (D → Prop) → Prop := fun x y P => eqOk x y ∧ P (.bool (PyData.eqv x y))
def dNe : D → D → (D → Prop) → Prop := fun x y P => eqOk x y ∧ P (.bool (!PyData.eqv x y))
def dIsN : D → D → (D → Prop) → Prop := fun x y P => match y with
  | .none => P (.bool (match x with | .none => true | _ => false))
  | _ => False
def dIsNN : D → D → (D → Prop) → Prop := fun x y P => match y with
  | .none => P (.bool (match x with | .none => false | _ => true))
  | _ => False
def dIx : D → D → (D → Prop) → Prop
  | .tuple ds, .int i, P => ∃ d, atI ds i = some d ∧ P d
  | .list ds, .int i, P => ∃ d, atI ds i = some d ∧ P d
  | _, _, _ => False

section
variable {X : Cx} {K : Fg} {a b c e : Expr} {es : List Expr} {ta tb tc : TE} {wa wb wc : WE} {pos p : Pos}

theorem de_name (i : Nat) {x : Str} (hN : X.N[i]? = some x := by rfl) (hv : Vis X.env.scope x := by first | exact Or.inl rfl | exact Or.inr (Or.inl rfl) | exact Or.inr (Or.inr rfl)) (hd : (x == ("__debug__" : Str)) = false := by decide)
    (hcd : (x == ("__classdict__" : Str)) = false := by decide) : DE X (.Name x pos) (tVar i) (wName i) := ⟨pe_var hN hv hd hcd, fun M σ H ρ pv pd P Q A h q => by
  obtain ⟨ow, A, hp⟩ := A
  unfold wName at h
  split at h
  · next d e =>
    obtain ⟨v, h1, h2⟩ := A.val i d e
    exact ⟨v, h1, q v d H ρ ⟨ow, A, .cons h2 hp⟩ h⟩
  · next ds e =>
    obtain ⟨p, xs, h1, h2, h3, h4⟩ := A.own i ds e
    have np : ¬ hdO M (owOff ow i) p := fun z => by
      rcases z with z | ⟨j, z⟩ | ⟨es, z⟩
      · exact A.ne (A.fre i p h1).1 z
      · exact (owOff_some z).1 (A.inj j i p (owOff_some z).2 h1)
      · exact (A.gho p es z).2.1 i h1
    have dv : Dv X.K M.lc (hide (hdO M (owOff ow i)) H) (.ref p) (.list ds) := .lst (hide_some.mpr ⟨np, h3⟩) (h4.mono (vis_off ow i H))
    have A0 : AtW X.K M σ H (put ρ i (.val (.list ds))) (owOff ow i) := by
      have B := A.put i dv
      have e0 : σ.set i (some (.ref p)) = σ := by
        obtain ⟨hlt, he⟩ := List.getElem?_eq_some_iff.mp h2
        rw [← he]
        exact List.set_getElem_self hlt
      rw [e0] at B
      exact B
    exact ⟨.ref p, h2, q _ _ H (put ρ i (.val (.list ds))) ⟨_, A0, .cons dv (hp.mono (vis_off ow i H))⟩ h⟩
  · exact h.elim⟩
theorem snd_c {v : V} {d : D} (h : ∀ lc H, Dv K lc H v d) : Snd K (tC v) (wC d) := fun M σ H ρ pv pd P Q A hw q => by
  obtain ⟨ow, A, hp⟩ := A
  exact q v d H ρ ⟨ow, A, .cons (h _ _) hp⟩ hw
theorem de_int {i : Int} {j} : DE X (.Constant (.int i) j pos) (tC (.int i)) (wC (.int i)) := ⟨pe_int, snd_c fun _ _ => .int i⟩
theorem de_bl {i : Bool} {j} : DE X (.Constant (.bool i) j pos) (tC (.bl i)) (wC (.bool i)) := ⟨pe_bl, snd_c fun _ _ => .bl i⟩
theorem de_non {j} : DE X (.Constant .none j pos) (tC .non) (wC .none) := ⟨pe_non, snd_c fun _ _ => .non⟩
theorem de_str {x : Str} {j} : DE X (.Constant (.str x) j pos) (tC (.str x)) (wC (.str x)) := ⟨pe_str, snd_c fun _ _ => .str x⟩
/-- a module's int -/
theorem de_gint {x : Str} {i : Int} {u : Value} (hg : Gl X x) (hm : X.mg x = some u) (r : RelV (.int i) u) (hd : (x == ("__debug__" : Str)) = false := by decide) : DE X (.Name x pos) (tC (.int i)) (wC (.int i)) := ⟨pe_glob hg hm r hd, snd_c fun _ _ => .int i⟩

theorem snd_op {r : R2} {w2 : D → D → (D → Prop) → Prop} (h2 : Sn2 K r w2) (ha : Snd K ta wa) (hb : Snd K tb wb) : Snd K (tOp r ta tb) (wBin w2 wa wb) := fun M σ H ρ pv pd P Q A h q => by
  refine ha M σ H ρ pv pd _ _ A h fun x dx H1 ρ1 A1 h1 => ?_
  refine hb M σ H1 ρ1 _ _ _ _ A1 h1 fun y dy H2 ρ2 A2 h2' => ?_
  obtain ⟨ow, B, hp⟩ := A2
  cases hp with
  | cons gy hp =>
    cases hp with
    | cons gx hp =>
      refine h2 M.lc (hdO M ow) H2 x y dx dy _ _ B.hall gx gy h2' fun v d H' e g p => ?_
      exact q v d H' ρ2 ⟨ow, B.step (.of e) (B.cok.mono e), .cons g (hp.mono (B.vis (.of e)))⟩ p
theorem de_op {op : Operator} {r : R2} {w2 : D → D → (D → Prop) → Prop} (ho : OpR X (binaryOp op) r) (h2 : Sn2 X.K r w2) (ha : DE X a ta wa) (hb : DE X b tb wb) : DE X (.BinOp a op b pos) (tOp r ta tb) (wBin w2 wa wb) := ⟨pe_op ho ha.pe hb.pe, snd_op h2 ha.sd hb.sd⟩
theorem de_cmp {op : CmpOp} {r : R2} {w2 : D → D → (D → Prop) → Prop} (ho : OpR X (compareOp op) r) (h2 : Sn2 X.K r w2) (ha : DE X a ta wa) (hb : DE X b tb wb) (hm : behindInMarks op b = false := by first | exact nomark _ | rfl) : DE X (.Compare a [op] [b] pos) (tOp r ta tb) (wBin w2 wa wb) := ⟨pe_cmpR ho ha.pe hb.pe hm, snd_op h2 ha.sd hb.sd⟩
theorem de_ix {r : R2} {w2 : D → D → (D → Prop) → Prop} (ho : IxR X r) (h2 : Sn2 X.K r w2) (ha : DE X a ta wa) (hb : DE X b tb wb) (hs : PlainIx b := by exact fun _ _ => rfl) : DE X (.Subscript a b pos) (tOp r ta tb) (wBin w2 wa wb) := ⟨pe_ix ho ha.pe hb.pe hs, snd_op h2 ha.sd hb.sd⟩
theorem snd_un {r : V → Hp → VK → Prop} {w1 : D → (D → Prop) → Prop} (h1 : Sn1 K r w1) (ha : Snd K ta wa) : Snd K (tUn r ta) (wUn w1 wa) := fun M σ H ρ pv pd P Q A h q => by
  refine ha M σ H ρ pv pd _ _ A h fun x dx H1 ρ1 A1 h1' => ?_
  obtain ⟨ow, B, hp⟩ := A1
  cases hp with
  | cons gx hp =>
    refine h1 M.lc (hdO M ow) H1 x dx _ _ B.hall gx h1' fun v d H' e g p => ?_
    exact q v d H' ρ1 ⟨ow, B.step (.of e) (B.cok.mono e), .cons g (hp.mono (B.vis (.of e)))⟩ p
theorem de_un {op : UnaryOp} {r : V → Hp → VK → Prop} {w1 : D → (D → Prop) → Prop} (ho : UnR X (unaryOp op) r) (h1 : Sn1 X.K r w1) (ha : DE X a ta wa) : DE X (.UnaryOp op a pos) (tUn r ta) (wUn w1 wa) := ⟨pe_un ho ha.pe, snd_un h1 ha.sd⟩

/-! ### arguments, tuples, lists, calls -/
variable {t u : TA} {wr ws : WA}
theorem da_nil : DA X [] tNil wNil := ⟨pa_nil, fun M σ H ρ pv pd P Q A h q => q [] [] H ρ rfl A h⟩
theorem da_cons (ha : DE X e ta wa) (hr : DA X es t wr) (hs : starEach (e :: es) X.env = (false, eval e X.env) :: starEach es X.env := by rfl) : DA X (e :: es) (tCons ta t) (wCons wa wr) := ⟨pa_cons ha.pe hr.pa hs, fun M σ H ρ pv pd P Q A h q => by
  refine ha.sd M σ H ρ pv pd _ _ A h fun x dx H1 ρ1 A1 h1 => ?_
  refine hr.sd M σ H1 ρ1 _ _ _ _ A1 h1 fun vs ds H2 ρ2 hl A2 h2 => ?_
  obtain ⟨ow, B, hp⟩ := A2
  obtain ⟨g1, g2⟩ := DvAll.split hl hp
  cases g2 with
  | cons g2 g3 => exact q (x :: vs) (dx :: ds) H2 ρ2 (by simp [hl]) ⟨ow, B, .cons g2 (g1.app g3)⟩ h2⟩
theorem size_ok {n : Nat} (h : n ≤ 100000) : n ≤ sizeLine := Nat.le_trans h (by decide)
theorem size_lt {n : Nat} (h : n < 100000) : n < sizeLine := Nat.lt_of_lt_of_le h (by decide)
theorem not_hid {hd : Addr → Prop} {H : Hp} (h : ∀ p, hd p → H p ≠ none) {p : Addr} (hp : H p = none) : ¬ hd p := fun z => h p z hp
/-- a new object is seen -/
theorem new_vis {hd : Addr → Prop} {H : Hp} {p : Addr} {o : HO} (h : ∀ p, hd p → H p ≠ none) (hp : H p = none) : hide hd (upd H p o) p = some o := hide_some.mpr ⟨not_hid h hp, upd_same⟩
theorem vis_new {hd : Addr → Prop} {H : Hp} {p : Addr} {o : HO} (hp : H p = none) : Same (hide hd H) (hide hd (upd H p o)) := hide_same fun b x n e => ⟨n, same_new hp b x e⟩
theorem vis_of {hd : Addr → Prop} {H H' : Hp} (e : Same H H') : Same (hide hd H) (hide hd H') := hide_same fun b x n q => ⟨n, e b x q⟩
theorem de_tup {x1} (h : DA X es t wr) : DE X (.Tuple es x1 pos) (tTup t) (wTup wr) := ⟨pe_tup h.pa, fun M σ H ρ pv pd P Q A hw q => by
  refine h.sd M σ H ρ pv pd _ _ A hw fun vs ds H1 ρ1 hl A1 h1 => ⟨by rw [hl]; exact size_ok h1.1, fun p hp => ?_⟩
  obtain ⟨ow, B, hp'⟩ := A1
  obtain ⟨g1, g2⟩ := DvAll.split hl hp'
  have e : Same H1 (upd H1 p (.tup vs)) := same_new hp
  exact q _ (.tuple ds) _ ρ1 ⟨ow, B.step (.of e) (B.cok.mono e), .cons (.tup (.of (new_vis B.hall hp)) (g1.mono (vis_of e))) (g2.mono (vis_of e))⟩ h1.2⟩
theorem de_lst (h : DA X es t wr) : DE X (.List es pos) (tLst t) (wLst wr) := ⟨pe_lst h.pa, fun M σ H ρ pv pd P Q A hw q => by
  refine h.sd M σ H ρ pv pd _ _ A hw fun vs ds H1 ρ1 hl A1 h1 => ⟨by rw [hl]; exact size_ok h1.1, fun p hp => ?_⟩
  obtain ⟨ow, B, hp'⟩ := A1
  obtain ⟨g1, g2⟩ := DvAll.split hl hp'
  have e : Same H1 (upd H1 p (.lst vs)) := same_new hp
  exact q _ (.list ds) _ ρ1 ⟨ow, B.step (.of e) (B.cok.mono e), .cons (.lst (new_vis B.hall hp) (g1.mono (vis_of e))) (g2.mono (vis_of e))⟩ h1.2⟩
theorem snd_call {pre : List D → Prop} {post : List D → D → Prop} {E : XK} (h : SndA K t wr) : Snd K (tCall (SpD K pre post) [] E t) (wCall pre post wr) := fun M σ H ρ pv pd P Q A hw q => by
  refine h M σ H ρ pv pd _ _ A hw fun vs ds H1 ρ1 hl A1 h1 => ?_
  obtain ⟨ow, B, hp⟩ := A1
  obtain ⟨g1, g2⟩ := DvAll.split hl hp
  show SpD K pre post (vs ++ []) H1 Q E
  rw [List.append_nil]
  refine ⟨M.lc, M.hc, hdO M ow, ds, g1, B.cok, fun b z => .inl (B.sub b z), B.hall, h1.1, fun v d H' e c g p => ?_⟩
  exact q v d H' ρ1 ⟨ow, B.step e c, .cons g (g2.mono (B.vis e))⟩ (h1.2 d p)
theorem de_call {CX : CXT} {k : Nat} {f : Addr} {fd : FuncData} {ps : List Str} {pre : List D → Prop} {post : List D → D → Prop} {E : XK} {x : Str} {K' : Fg} (F : FnOk X.prog X.w X.K X.mg X.base CX k f fd ps (SpD K' pre post)) (hr : Room k X.A) (hg : Gl X x) (hm : X.mg x = some (.ref f))
    (hk : PySem.W.keepIn X.K (.ref f) = true) (hb : Binds X.K fd ps []) (hx : Passes CX X E) (ha : DA X (e :: es) t wr) (hK : X.K = K' := by rfl) (hdb : (x == ("__debug__" : Str)) = false := by decide) (he : starEach (e :: es) X.env = (false, eval e X.env) :: starEach es X.env := by rfl)
    (hpl : (backTo pos (starEach es X.env)).any (·.1) = false := by rfl) : DE X (.Call (.Name x p) (e :: es) [] pos) (tCall (SpD K' pre post) [] E t) (wCall pre post wr) :=
  ⟨pe_call F hr hg hm hk hb .nil hx ha.pa hdb he hpl, by subst hK; exact snd_call ha.sd⟩
theorem de_call0 {CX : CXT} {k : Nat} {f : Addr} {fd : FuncData} {ps : List Str} {pre : List D → Prop} {post : List D → D → Prop} {E : XK} {x : Str} {K' : Fg} (F : FnOk X.prog X.w X.K X.mg X.base CX k f fd ps (SpD K' pre post)) (hr : Room k X.A) (hg : Gl X x) (hm : X.mg x = some (.ref f))
    (hk : PySem.W.keepIn X.K (.ref f) = true) (hb : Binds X.K fd ps []) (hx : Passes CX X E) (hK : X.K = K' := by rfl) (hdb : (x == ("__debug__" : Str)) = false := by decide) : DE X (.Call (.Name x p) [] [] pos) (tCall (SpD K' pre post) [] E tNil) (wCall pre post wNil) :=
  ⟨pe_call0 F hr hg hm hk hb .nil hx hdb, by subst hK; exact snd_call da_nil.sd⟩
theorem snd_b {r : List V → Hp → VK → Prop} {wc : List D → (D → Prop) → Prop} (hsn : SnC K r wc) (h : SndA K t wr) : Snd K (tCB r t) (wB wc wr) := fun M σ H ρ pv pd P Q A hw q => by
  refine h M σ H ρ pv pd _ _ A hw fun vs ds H1 ρ1 hl A1 h1 => ?_
  obtain ⟨ow, B, hp⟩ := A1
  obtain ⟨g1, g2⟩ := DvAll.split hl hp
  refine hsn M.lc (hdO M ow) H1 vs ds _ _ B.hall g1 h1 fun v d H' e g p => ?_
  exact q v d H' ρ1 ⟨ow, B.step (.of e) (B.cok.mono e), .cons g (g2.mono (vis_of e))⟩ p
theorem de_callB {id : String} {x : Str} {r : List V → Hp → VK → Prop} {wc : List D → (D → Prop) → Prop} (hc : CallR X (.builtin id) r) (hs : SnC X.K r wc) (hg : Gl X x) (hm : X.mg x = none) (hv : bootBuiltins x = some (.builtin id)) (ha : DA X (e :: es) t wr) (hn : x ≠ "__name__" := by decide)
    (hdb : (x == ("__debug__" : Str)) = false := by decide) (he : starEach (e :: es) X.env = (false, eval e X.env) :: starEach es X.env := by rfl) (hpl : (backTo pos (starEach es X.env)).any (·.1) = false := by rfl) : DE X (.Call (.Name x p) (e :: es) [] pos) (tCB r t) (wB wc wr) :=
  ⟨pe_callB hc hg hm hv ha.pa hn hdb he hpl, snd_b hs ha.sd⟩
theorem de_callTy {T : String} {x : Str} {r : List V → Hp → VK → Prop} {wc : List D → (D → Prop) → Prop} (hc : CallR X (.type T) r) (hs : SnC X.K r wc) (hg : Gl X x) (hm : X.mg x = none) (hv : bootBuiltins x = some (.type T)) (ha : DA X (e :: es) t wr) (hn : x ≠ "__name__" := by decide)
    (hdb : (x == ("__debug__" : Str)) = false := by decide) (he : starEach (e :: es) X.env = (false, eval e X.env) :: starEach es X.env := by rfl) (hpl : (backTo pos (starEach es X.env)).any (·.1) = false := by rfl) : DE X (.Call (.Name x p) (e :: es) [] pos) (tCB r t) (wB wc wr) :=
  ⟨pe_callTy hc hg hm hv ha.pa hn hdb he hpl, snd_b hs ha.sd⟩
/-- math.gcd and the like, by the name that the module has for it -/
theorem de_callM {id : String} {x : Str} {r : List V → Hp → VK → Prop} {wc : List D → (D → Prop) → Prop} (hc : CallR X (.builtin id) r) (hs : SnC X.K r wc) (hg : Gl X x) (hm : X.mg x = some (.builtin id)) (ha : DA X (e :: es) t wr)
    (hdb : (x == ("__debug__" : Str)) = false := by decide) (he : starEach (e :: es) X.env = (false, eval e X.env) :: starEach es X.env := by rfl) (hpl : (backTo pos (starEach es X.env)).any (·.1) = false := by rfl) : DE X (.Call (.Name x p) (e :: es) [] pos) (tCB r t) (wB wc wr) :=
  ⟨pe_callBfun hc hg hm ha.pa hdb he hpl, snd_b hs ha.sd⟩
end
end DL

namespace DL
open PySem PySem.Spec PyProof.Rows L2

/-! ## operators by values -/
/-- + : ints, tuples, lists -/
def rAddD (K : Fg) : R2 := fun x y H Q => rI0 (fun i j => .int (i + j)) x y H Q ∨ (rCatA K x y H Q ∨ rCat x y H Q)
/-- * : ints, a list and an int -/
def rMulD : R2 := fun x y H Q => rI CMul (fun i j => .int (i * j)) x y H Q ∨ (rI CMulW (fun i j => .int (i * j)) x y H Q ∨ rRep x y H Q)
/-- xs[i] of a list or a tuple -/
def rIxD (K : Fg) : R2 := fun x y H Q => rIxL K x y H Q ∨ rIxT K x y H Q
mutual
theorem dpm {K : Fg} {H H' : Hp} (e : Same H H') : ∀ {d : D} {v : V}, Dp K H v d → Dp K H' v d
  | .none, _, h => by cases h; exact .non
  | .bool b, _, h => by cases h; exact .bl b
  | .int b, _, h => by cases h; exact .int b
  | .str b, _, h => by cases h; exact .str b
  | .list ds, _, h => by
    cases h with
    | lst hs ha => exact .lst (e.seq hs) (dpmA e ha)
  | .tuple ds, _, h => by
    cases h with
    | tup hs ha => exact .tup (same_t e hs) (dpmA e ha)
  | .dict _, _, h => by cases h
theorem dpmA {K : Fg} {H H' : Hp} (e : Same H H') : ∀ {ds : List D} {vs : List V}, DpAll K H vs ds → DpAll K H' vs ds
  | [], _, h => by cases h; exact .nil
  | d :: ds, _, h => by
    cases h with
    | cons h1 h2 => exact .cons (dpm e h1) (dpmA e h2)
end
section
variable {X : Cx}
def rEqP (K : Fg) : R2 := fun x y H Q => ∃ d e, Dp K H x d ∧ Dp K H y e ∧ eqOk d e ∧ Q (.bl (PyData.eqv d e)) H
def rNeP (K : Fg) : R2 := fun x y H Q => ∃ d e, Dp K H x d ∧ Dp K H y e ∧ eqOk d e ∧ Q (.bl (!PyData.eqv d e)) H
theorem min64 {A : Around} {d e : D} (h : eqOk d e) (hu : A.units + 64 < cLine) : A.units + min d.depth e.depth < cLine := by
  have h1 : min d.depth e.depth ≤ d.depth := Nat.min_le_left _ _
  have h2 : min d.depth e.depth ≤ e.depth := Nat.min_le_right _ _
  rcases h.2.2 with q | q <;> omega
theorem op_eqP (hu : X.A.units + 64 < cLine) : OpR X (compareOp .Eq) (rEqP X.K) := by
  intro pins s σ H x y v u Q I rx ry h
  obtain ⟨d, e, hd, he, ok, q⟩ := h
  obtain ⟨as, r1⟩ := Dp.reads I d x v hd rx
  obtain ⟨bs, r2⟩ := Dp.reads I e y u he ry
  exact SeqAt.eq_plain r1 r2 ok.1 ok.2.1 (min64 ok hu) ⟨.bl _, H, I, rfl, q⟩
theorem op_neP (hu : X.A.units + 64 < cLine) : OpR X (compareOp .NotEq) (rNeP X.K) := by
  intro pins s σ H x y v u Q I rx ry h
  obtain ⟨d, e, hd, he, ok, q⟩ := h
  obtain ⟨as, r1⟩ := Dp.reads I d x v hd rx
  obtain ⟨bs, r2⟩ := Dp.reads I e y u he ry
  exact SeqAt.ne_plain r1 r2 ok.1 ok.2.1 (min64 ok hu) ⟨.bl _, H, I, rfl, q⟩
theorem op_divB : OpR X (binaryOp .FloorDiv) (rI (fun _ j => divOk j) fun i j => .int (i.fdiv j)) := opI fun i j _ _ _ _ _ hc q => floordiv_int hc.1 q (.inl (PyProof.noPylong_of_log2 hc.2))
theorem op_addD : OpR X (binaryOp .Add) (rAddD X.K) := op_add.or (op_catA.or op_cat)
theorem op_mulD : OpR X (binaryOp .Mult) rMulD := op_mul.or (op_mulW.or op_rep)
theorem ix_D : IxR X (rIxD X.K) := ix_list.or ix_tup
end
section
variable {K : Fg}
theorem sn2_I0 {g : Int → Int → Int} {w : D → D → (D → Prop) → Prop} (hw : ∀ a b P, w a b P → ∃ i j, a = .int i ∧ b = .int j ∧ P (.int (g i j))) : Sn2 K (rI0 fun i j => .int (g i j)) w := fun lc hd H x y a b P Q _ hx hy h q => by
  obtain ⟨i, j, rfl, rfl, p⟩ := hw a b P h
  cases hx
  cases hy
  exact ⟨i, j, rfl, rfl, q _ _ H (Same.refl H) (.int _) p⟩
theorem sn2_I {C : Int → Int → Prop} {g : Int → Int → Int} {w : D → D → (D → Prop) → Prop} (hw : ∀ a b P, w a b P → ∃ i j, a = .int i ∧ b = .int j ∧ C i j ∧ P (.int (g i j))) : Sn2 K (rI C fun i j => .int (g i j)) w := fun lc hd H x y a b P Q _ hx hy h q => by
  obtain ⟨i, j, rfl, rfl, c, p⟩ := hw a b P h
  cases hx
  cases hy
  exact ⟨i, j, rfl, rfl, c, q _ _ H (Same.refl H) (.int _) p⟩
theorem sn2_B0 {g : Int → Int → Bool} {w : D → D → (D → Prop) → Prop} (hw : ∀ a b P, w a b P → ∃ i j, a = .int i ∧ b = .int j ∧ P (.bool (g i j))) : Sn2 K (rI0 fun i j => .bl (g i j)) w := fun lc hd H x y a b P Q _ hx hy h q => by
  obtain ⟨i, j, rfl, rfl, p⟩ := hw a b P h
  cases hx
  cases hy
  exact ⟨i, j, rfl, rfl, q _ _ H (Same.refl H) (.bl _) p⟩
theorem sn2_lt : Sn2 K (rI0 fun i j => .bl (decide (i < j))) dLt := sn2_B0 fun a b P h => by
  cases a <;> cases b <;> first | exact ⟨_, _, rfl, rfl, h⟩ | exact h.elim
theorem sn2_le : Sn2 K (rI0 fun i j => .bl (decide (i ≤ j))) dLe := sn2_B0 fun a b P h => by
  cases a <;> cases b <;> first | exact ⟨_, _, rfl, rfl, h⟩ | exact h.elim
theorem sn2_gt : Sn2 K (rI0 fun i j => .bl (decide (j < i))) dGt := sn2_B0 fun a b P h => by
  cases a <;> cases b <;> first | exact ⟨_, _, rfl, rfl, h⟩ | exact h.elim
theorem sn2_ge : Sn2 K (rI0 fun i j => .bl (decide (j ≤ i))) dGe := sn2_B0 fun a b P h => by
  cases a <;> cases b <;> first | exact ⟨_, _, rfl, rfl, h⟩ | exact h.elim
theorem sn2_sub : Sn2 K (rI0 fun i j => .int (i - j)) dSub := sn2_I0 fun a b P h => by
  cases a <;> cases b <;> first | exact ⟨_, _, rfl, rfl, h⟩ | exact h.elim
theorem sn2_mod : Sn2 K (rI (fun _ j => j ≠ 0) fun i j => .int (i.fmod j)) dMod := sn2_I fun a b P h => by
  cases a <;> cases b <;> first | exact ⟨_, _, rfl, rfl, h.1, h.2⟩ | exact h.elim
theorem sn2_pow : Sn2 K (rI CPow fun i j => .int (i ^ j.toNat)) dPow := sn2_I fun a b P h => by
  cases a <;> cases b <;> first | exact ⟨_, _, rfl, rfl, h.1, h.2⟩ | exact h.elim
theorem sn1_neg : Sn1 K (rU fun i => .int (-i)) dNeg := fun lc hd H x a P Q _ hx h q => by
  cases a <;> first | exact h.elim | skip
  cases hx
  exact ⟨_, rfl, q _ _ H (Same.refl H) (.int _) h⟩
theorem sn2_div : Sn2 K (rI (fun _ j => divOk j) fun i j => .int (i.fdiv j)) dDiv := sn2_I fun a b P h => by
  cases a <;> cases b <;> first | exact ⟨_, _, rfl, rfl, h.1, h.2⟩ | exact h.elim
theorem sn2_add : Sn2 K (rAddD K) dAdd := fun lc hd H x y a b P Q al hx hy h q => by
  cases a <;> cases b <;> first | exact h.elim | skip
  · cases hx
    cases hy
    exact .inl ⟨_, _, rfl, rfl, q _ _ H (Same.refl H) (.int _) h⟩
  · cases hx with
    | lst g1 g2 =>
      cases hy with
      | lst g3 g4 =>
        refine .inr (.inr ⟨_, _, _, _, rfl, rfl, hide_le _ _ g1, hide_le _ _ g3, ?_, fun p hp => ?_⟩)
        · rw [g2.length, g4.length]; exact size_ok h.1
        · exact q _ _ _ (same_new hp) (.lst (new_vis al hp) ((g2.app g4).mono (vis_new hp))) h.2
  · cases hx with
    | tup g1 g2 =>
      cases hy with
      | tup g3 g4 =>
        refine .inr (.inl ⟨_, _, _, _, rfl, rfl, same_t hide_le g1, same_t hide_le g3, ?_, ?_⟩)
        · rw [g2.length, g4.length]; exact size_ok h.1
        · have e1 : Dv K lc (hide hd H) (V.ref _) (.tuple _) := .tup g1 g2
          have e3 : Dv K lc (hide hd H) (V.ref _) (.tuple _) := .tup g3 g4
          refine ⟨fun z => ?_, fun z z2 => ?_, fun z z2 p hp => ?_⟩
          · subst z
            cases g2
            exact q _ _ H (Same.refl H) e3 (by simpa using h.2)
          · subst z2
            cases g4
            exact q _ _ H (Same.refl H) e1 (by simpa using h.2)
          · exact q _ _ _ (same_new hp) (.tup (.of (new_vis al hp)) ((g2.app g4).mono (vis_new hp))) h.2
theorem Vrep {lc : Option Addr} {H : Hp} {ds : List D} {vs : List V} (h : DvAll K lc H vs ds) : ∀ k : Nat, DvAll K lc H (List.replicate k vs).flatten (List.replicate k ds).flatten
  | 0 => .nil
  | k + 1 => by
    rw [List.replicate_succ, List.replicate_succ, List.flatten_cons, List.flatten_cons]
    exact h.app (Vrep h k)
theorem sn2_mul : Sn2 K rMulD dMul := fun lc hd H x y a b P Q al hx hy h q => by
  cases a <;> cases b <;> first | exact h.elim | skip
  · cases hx
    cases hy
    rcases h.1 with c | c
    · exact .inl ⟨_, _, rfl, rfl, c, q _ _ H (Same.refl H) (.int _) h.2⟩
    · exact .inr (.inl ⟨_, _, rfl, rfl, c, q _ _ H (Same.refl H) (.int _) h.2⟩)
  · cases hy
    cases hx with
    | lst g1 g2 =>
      refine .inr (.inr ⟨_, _, _, rfl, rfl, hide_le _ _ g1, h.1, h.2.1, ?_, fun p hp => ?_⟩)
      · rw [g2.length]; exact size_ok h.2.2.1
      · exact q _ _ _ (same_new hp) (.lst (new_vis al hp) ((Vrep g2 _).mono (vis_new hp))) h.2.2.2
theorem sn2_eq : Sn2 K (rEqP K) dEq := fun lc hd H x y a b P Q al hx hy h q =>
  ⟨a, b, dpm hide_le (hx.dp h.1.1), dpm hide_le (hy.dp h.1.2.1), h.1, q _ _ H (Same.refl H) (.bl _) h.2⟩
theorem sn2_ne : Sn2 K (rNeP K) dNe := fun lc hd H x y a b P Q al hx hy h q =>
  ⟨a, b, dpm hide_le (hx.dp h.1.1), dpm hide_le (hy.dp h.1.2.1), h.1, q _ _ H (Same.refl H) (.bl _) h.2⟩
def rIsNV : R2 := fun x y H Q => y = .non ∧ Q (.bl (decide (x = .non))) H
def rNotNV : R2 := fun x y H Q => y = .non ∧ Q (.bl (!decide (x = .non))) H
def isNonD : D → Bool
  | .none => true
  | _ => false
theorem dv_non {lc : Option Addr} {H : Hp} {x : V} {a : D} (h : Dv K lc H x a) : decide (x = .non) = isNonD a := by
  cases h <;> simp [isNonD]
theorem sn2_isN : Sn2 K rIsNV dIsN := fun lc hd H x y a b P Q al hx hy h q => by
  cases b <;> first | exact h.elim | skip
  cases hy
  refine ⟨rfl, q _ _ H (Same.refl H) (.bl _) ?_⟩
  rw [dv_non hx]
  cases a <;> exact h
theorem sn2_isNN : Sn2 K rNotNV dIsNN := fun lc hd H x y a b P Q al hx hy h q => by
  cases b <;> first | exact h.elim | skip
  cases hy
  refine ⟨rfl, q _ _ H (Same.refl H) (.bl _) ?_⟩
  rw [dv_non hx]
  cases a <;> exact h
theorem atI_dv {lc : Option Addr} {H : Hp} {ds : List D} {vs : List V} {i : Int} {d : D} (h : DvAll K lc H vs ds) (e : atI ds i = some d) : ∃ v, atI vs i = some v ∧ Dv K lc H v d := by
  unfold atI at *
  rw [h.length]
  cases q : ixN ds.length i with
  | none => rw [q] at e; cases e
  | some j =>
    rw [q] at e
    exact h.get e
theorem sn2_ix : Sn2 K (rIxD K) dIx := fun lc hd H x y a b P Q al hx hy h q => by
  cases a <;> cases b <;> first | exact h.elim | skip
  · cases hy
    obtain ⟨d, e, p⟩ := h
    cases hx with
    | lst g1 g2 =>
      obtain ⟨v, e', g⟩ := atI_dv g2 e
      exact .inl ⟨_, _, _, v, rfl, rfl, .of (hide_le _ _ g1), e', q _ _ H (Same.refl H) g p⟩
  · cases hy
    obtain ⟨d, e, p⟩ := h
    cases hx with
    | tup g1 g2 =>
      obtain ⟨v, e', g⟩ := atI_dv g2 e
      exact .inr ⟨_, _, _, v, rfl, rfl, same_t hide_le g1, e', q _ _ H (Same.refl H) g p⟩
end

/-! ## built-in functions by values -/
def bAbs : List D → (D → Prop) → Prop
  | [.int i], P => P (.int (if i < 0 then -i else i))
  | _, _ => False
def bInt : List D → (D → Prop) → Prop
  | [.int i], P => P (.int i)
  | _, _ => False
def bMax : List D → (D → Prop) → Prop
  | [.int i, .int j], P => P (.int (if j > i then j else i))
  | _, _ => False
def bMin : List D → (D → Prop) → Prop
  | [.int i, .int j], P => P (.int (if j < i then j else i))
  | _, _ => False
def bGcd : List D → (D → Prop) → Prop
  | [.int i, .int j], P => P (.int (Nat.gcd i.natAbs j.natAbs : Nat))
  | _, _ => False
def bLen : List D → (D → Prop) → Prop
  | [.tuple ds], P => P (.int ds.length)
  | [.list ds], P => P (.int ds.length)
  | _, _ => False
def bTuple : List D → (D → Prop) → Prop
  | [.tuple ds], P => P (.tuple ds)
  | [.list ds], P => P (.tuple ds)
  | _, _ => False
def bList : List D → (D → Prop) → Prop
  | [.tuple ds], P => P (.list ds)
  | [.list ds], P => P (.list ds)
  | _, _ => False
def bools : List D → Option (List Bool)
  | [] => some []
  | .bool b :: r => (bools r).map (b :: ·)
  | _ => none
def bAll : List D → (D → Prop) → Prop
  | [.list ds], P => ∃ bs, bools ds = some bs ∧ P (.bool (bs.all id))
  | _, _ => False
def bAny : List D → (D → Prop) → Prop
  | [.list ds], P => ∃ bs, bools ds = some bs ∧ P (.bool (bs.any id))
  | _, _ => False
section
variable {K : Fg}
abbrev rAbsV : List V → Hp → VK → Prop := fun xs H Q => ∃ i, xs = [.int i] ∧ Q (.int (if i < 0 then -i else i)) H
abbrev rIntV : List V → Hp → VK → Prop := fun xs H Q => (∃ i, xs = [.int i] ∧ Q (.int i) H) ∨ ∃ k, xs = [.bl k] ∧ Q (.int (if k then 1 else 0)) H
abbrev rMaxV : List V → Hp → VK → Prop := fun xs H Q => ∃ i j, xs = [.int i, .int j] ∧ Q (.int (if j > i then j else i)) H
abbrev rMinV : List V → Hp → VK → Prop := fun xs H Q => ∃ i j, xs = [.int i, .int j] ∧ Q (.int (if j < i then j else i)) H
theorem da1 {lc : Option Addr} {H : Hp} {xs : List V} {a : D} (h : DvAll K lc H xs [a]) : ∃ x, xs = [x] ∧ Dv K lc H x a := by
  cases h with
  | cons h1 h2 => cases h2; exact ⟨_, rfl, h1⟩
theorem da2 {lc : Option Addr} {H : Hp} {xs : List V} {a b : D} (h : DvAll K lc H xs [a, b]) : ∃ x y, xs = [x, y] ∧ Dv K lc H x a ∧ Dv K lc H y b := by
  cases h with
  | cons h1 h2 =>
    obtain ⟨y, rfl, h3⟩ := da1 h2
    exact ⟨_, _, rfl, h1, h3⟩
theorem snc_abs : SnC K rAbsV bAbs := fun lc hd H xs as P Q al hx h q => by
  unfold bAbs at h
  split at h
  · obtain ⟨x, rfl, g⟩ := da1 hx
    cases g
    exact ⟨_, rfl, q _ _ H (Same.refl H) (.int _) h⟩
  · exact h.elim
theorem snc_int : SnC K rIntV bInt := fun lc hd H xs as P Q al hx h q => by
  unfold bInt at h
  split at h
  · obtain ⟨x, rfl, g⟩ := da1 hx
    cases g
    exact .inl ⟨_, rfl, q _ _ H (Same.refl H) (.int _) h⟩
  · exact h.elim
theorem snc_max : SnC K rMaxV bMax := fun lc hd H xs as P Q al hx h q => by
  unfold bMax at h
  split at h
  · obtain ⟨x, y, rfl, g, g'⟩ := da2 hx
    cases g
    cases g'
    exact ⟨_, _, rfl, q _ _ H (Same.refl H) (.int _) h⟩
  · exact h.elim
theorem snc_min : SnC K rMinV bMin := fun lc hd H xs as P Q al hx h q => by
  unfold bMin at h
  split at h
  · obtain ⟨x, y, rfl, g, g'⟩ := da2 hx
    cases g
    cases g'
    exact ⟨_, _, rfl, q _ _ H (Same.refl H) (.int _) h⟩
  · exact h.elim
theorem snc_gcd : SnC K rGcd bGcd := fun lc hd H xs as P Q al hx h q => by
  unfold bGcd at h
  split at h
  · obtain ⟨x, y, rfl, g, g'⟩ := da2 hx
    cases g
    cases g'
    exact ⟨_, _, rfl, q _ _ H (Same.refl H) (.int _) h⟩
  · exact h.elim
abbrev rLenV (K : Fg) : List V → Hp → VK → Prop := fun xs H Q => ∃ p ys, xs = [.ref p] ∧ (SqL K H p ys ∨ SqT K H p ys) ∧ Q (.int ys.length) H
theorem snc_len : SnC K (rLenV K) bLen := fun lc hd H xs as P Q al hx h q => by
  unfold bLen at h
  split at h
  · obtain ⟨x, rfl, g⟩ := da1 hx
    cases g with
    | tup g1 g2 => exact ⟨_, _, rfl, .inr (same_t hide_le g1), q _ _ H (Same.refl H) (.int _) (by rw [g2.length]; exact h)⟩
  · obtain ⟨x, rfl, g⟩ := da1 hx
    cases g with
    | lst g1 g2 => exact ⟨_, _, rfl, .inl (.of (hide_le _ _ g1)), q _ _ H (Same.refl H) (.int _) (by rw [g2.length]; exact h)⟩
  · exact h.elim
abbrev rTupleV (K : Fg) : List V → Hp → VK → Prop := fun xs H Q => ∃ p ys, xs = [.ref p] ∧ ((SqL K H p ys ∧ ∀ l, H l = none → Q (.ref l) (upd H l (.tup ys))) ∨ (SqT K H p ys ∧ Q (.ref p) H))
theorem snc_tuple : SnC K (rTupleV K) bTuple := fun lc hd H xs as P Q al hx h q => by
  unfold bTuple at h
  split at h
  · obtain ⟨x, rfl, g⟩ := da1 hx
    cases g with
    | tup g1 g2 => exact ⟨_, _, rfl, .inr ⟨same_t hide_le g1, q _ _ H (Same.refl H) (.tup g1 g2) h⟩⟩
  · obtain ⟨x, rfl, g⟩ := da1 hx
    cases g with
    | lst g1 g2 => exact ⟨_, _, rfl, .inl ⟨.of (hide_le _ _ g1), fun l hl => q _ _ _ (same_new hl) (.tup (.of (new_vis al hl)) (g2.mono (vis_new hl))) h⟩⟩
  · exact h.elim
abbrev rListV (K : Fg) : List V → Hp → VK → Prop := fun xs H Q => ∃ p ys, xs = [.ref p] ∧ (SqL K H p ys ∨ SqT K H p ys) ∧ ∀ l, H l = none → Q (.ref l) (upd H l (.lst ys))
theorem snc_list : SnC K (rListV K) bList := fun lc hd H xs as P Q al hx h q => by
  unfold bList at h
  split at h
  · obtain ⟨x, rfl, g⟩ := da1 hx
    cases g with
    | tup g1 g2 => exact ⟨_, _, rfl, .inr (same_t hide_le g1), fun l hl => q _ _ _ (same_new hl) (.lst (new_vis al hl) (g2.mono (vis_new hl))) h⟩
  · obtain ⟨x, rfl, g⟩ := da1 hx
    cases g with
    | lst g1 g2 => exact ⟨_, _, rfl, .inl (.of (hide_le _ _ g1)), fun l hl => q _ _ _ (same_new hl) (.lst (new_vis al hl) (g2.mono (vis_new hl))) h⟩
  · exact h.elim
theorem bools_v {lc : Option Addr} {H : Hp} : ∀ {ds : List D} {vs : List V} {bs : List Bool}, bools ds = some bs → DvAll K lc H vs ds → vs = bs.map V.bl
  | [], _, bs, e, h => by
    cases h
    cases (Option.some.inj e)
    rfl
  | .bool b :: r, _, bs, e, h => by
    cases h with
    | cons h1 h2 =>
      cases h1
      unfold bools at e
      cases q : bools r with
      | none => rw [q] at e; cases e
      | some cs =>
        rw [q] at e
        cases (Option.some.inj e)
        rw [bools_v q h2]
        rfl
  | .none :: _, _, _, e, _ => nomatch e
  | .int _ :: _, _, _, e, _ => nomatch e
  | .str _ :: _, _, _, e, _ => nomatch e
  | .list _ :: _, _, _, e, _ => nomatch e
  | .tuple _ :: _, _, _, e, _ => nomatch e
  | .dict _ :: _, _, _, e, _ => nomatch e
theorem snc_all : SnC K (rAll K) bAll := fun lc hd H xs as P Q al hx h q => by
  unfold bAll at h
  split at h
  · obtain ⟨bs, e, p⟩ := h
    obtain ⟨x, rfl, g⟩ := da1 hx
    cases g with
    | lst g1 g2 => exact ⟨_, bs, rfl, by rw [← bools_v e g2]; exact .of (hide_le _ _ g1), q _ _ H (Same.refl H) (.bl _) p⟩
  · exact h.elim
theorem snc_any : SnC K (rAny K) bAny := fun lc hd H xs as P Q al hx h q => by
  unfold bAny at h
  split at h
  · obtain ⟨bs, e, p⟩ := h
    obtain ⟨x, rfl, g⟩ := da1 hx
    cases g with
    | lst g1 g2 => exact ⟨_, bs, rfl, by rw [← bools_v e g2]; exact .of (hide_le _ _ g1), q _ _ H (Same.refl H) (.bl _) p⟩
  · exact h.elim
end

/-! ### isinstance(e, T), T a built-in type by its name -/
def tyD : D → Option String
  | .none => some "NoneType"
  | .bool _ => some "bool"
  | .int _ => some "int"
  | .str _ => some "str"
  | .list _ => some "list"
  | .tuple _ => some "tuple"
  | .dict _ => none
def isiD (T : String) (d : D) : Option Bool := (tyD d).bind fun s => kitB s T
def wIsi (T : String) (wa : WE) : WE := fun ρ P => wa ρ fun x ρ1 => match isiD T x with
  | some b => P (.bool b) ρ1
  | none => False
def tIsi (K : Fg) (T : String) (ta : TE) : TE := tCB (rIsi K) (tCons ta (tCons (tC (.ty T)) tNil))
section
variable {X : Cx} {K : Fg} {a b c e : Expr} {es : List Expr} {ta tb tc : TE} {wa wb wc : WE} {pos p p2 : Pos}
theorem tyx_of {lc : Option Addr} {H : Hp} {x : V} {d : D} {s : String} (hs : tyD d = some s) (h : Dv K lc H x d) : TyX K H x (.type s) := by
  cases h with
  | non => cases hs; exact .base .non
  | bl b => cases hs; exact .base (.bl b)
  | int i => cases hs; exact .base (.int i)
  | str s => cases hs; exact .base (.str s)
  | lst h _ => cases hs; exact .base (.lst h)
  | tup h _ =>
    cases hs
    rcases h with (h | ⟨o, h⟩) | ⟨o, its, n, h, c, _⟩
    · exact .base (.tup h)
    · exact .fTuple h
    · exact .kTuple h c
  | tok q => cases hs
theorem tyx_mono {H H' : Hp} {x : V} {s : String} (e : Same H H') (h : TyX K H x (.type s)) : TyX K H' x (.type s) := by
  cases h with
  | base h =>
    cases h with
    | non => exact .base .non
    | bl b => exact .base (.bl b)
    | int i => exact .base (.int i)
    | str s => exact .base (.str s)
    | flt s => exact .base (.flt s)
    | lst h => exact .base (.lst (e _ _ h))
    | frz h => exact .base (.frz (e _ _ h))
    | tup h => exact .base (.tup (e _ _ h))
    | dK h => exact .base (.dK (e _ _ h))
    | dT h => exact .base (.dT (e _ _ h))
  | byt b => exact .byt b
  | set h => exact .set (e _ _ h)
  | kList h c => exact .kList h c
  | kTuple h c => exact .kTuple h c
  | kDict h c => exact .kDict h c
  | fTuple h => exact .fTuple (e _ _ h)
  | fDict h => exact .fDict (e _ _ h)
theorem snd_isi {T : String} (ha : Snd K ta wa) : Snd K (tIsi K T ta) (wIsi T wa) := fun M σ H ρ pv pd P Q A h q => by
  refine ha M σ H ρ pv pd _ _ A h fun x dx H1 ρ1 A1 h1 => ?_
  show rIsi K [x, .ty T] H1 Q
  have A2 := A1.pop
  obtain ⟨ow, B, hp⟩ := A1
  cases hp with
  | cons gx hp =>
    unfold isiD at h1
    cases hs : tyD dx with
    | none => rw [hs] at h1; exact h1.elim
    | some s =>
      rw [hs] at h1
      cases hk : kitB s T with
      | none =>
        simp only [Option.bind, hk] at h1
      | some b =>
        simp only [Option.bind, hk] at h1
        refine ⟨x, .ty T, .type s, .type T, b, rfl, .ty T, tyx_mono hide_le (tyx_of hs gx), kit_ty hk, ?_⟩
        obtain ⟨ow, B, hp⟩ := A2
        exact q (.bl b) (.bool b) H1 ρ1 ⟨ow, B, .cons (.bl b) hp⟩ h1
theorem de_isi {y : Str} {Tn : String} (hg : Gl X "isinstance") (hm : X.mg "isinstance" = none) (ha : DE X a ta wa) (hgT : Gl X y) (hmT : X.mg y = none) (hvT : bootBuiltins y = some (.type Tn)) (hnT : y ≠ "__name__" := by decide) (hdT : (y == ("__debug__" : Str)) = false := by decide)
    (hs : starEach (a :: [.Name y p2]) X.env = (false, eval a X.env) :: starEach [.Name y p2] X.env := by rfl) (hs2 : starEach [.Name y p2] X.env = (false, eval (.Name y p2) X.env) :: starEach [] X.env := by rfl)
    (hpl : (backTo pos (starEach [.Name y p2] X.env)).any (·.1) = false := by rfl) : DE X (.Call (.Name "isinstance" p) [a, .Name y p2] [] pos) (tIsi X.K Tn ta) (wIsi Tn wa) :=
  ⟨pe_callB call_isi hg hm (by decide +kernel) (pa_cons ha.pe (pa_cons (pe_bltn hgT hmT hvT (show RelV (.ty Tn) _ from rfl) hnT hdT) pa_nil hs2) hs) (by decide) (by decide) hs hpl, snd_isi ha.sd⟩
end
end DL

namespace DL
open PySem PySem.Spec PyProof.Rows L2

/-! ## tests -/
section
variable {X : Cx} {K : Fg} {a b c e : Expr} {es rest : List Expr} {ta tb tc : TE} {wa wb wc : WE} {pos p p2 : Pos} {tt tu : TT} {wt wu : WT}
theorem snd_test (ha : Snd K ta wa) : SndT K (tTest ta) (wTest wa) := fun M σ H ρ pv pd P Q A h q => by
  refine ha M σ H ρ pv pd _ _ A h fun x dx H1 ρ1 A1 h1 => ?_
  have A2 := A1.pop
  obtain ⟨ow, B, hp⟩ := A1
  cases hp with
  | cons gx hp =>
    cases gx with
    | bl b => exact ⟨b, rfl, q b H1 ρ1 A2 h1⟩
    | _ => exact h1.elim
theorem dt_cmp {op : CmpOp} {r : R2} {w2 : D → D → (D → Prop) → Prop} (ho : OpR X (compareOp op) r) (h2 : Sn2 X.K r w2) (ha : DE X a ta wa) (hb : DE X b tb wb) (hm : behindInMarks op b = false := by first | exact nomark _ | rfl) :
    DT X (.Compare a [op] [b] pos) (tTest (tOp r ta tb)) (wTest (wBin w2 wa wb)) := ⟨pt_cmpR ho ha.pe hb.pe hm, snd_test (snd_op h2 ha.sd hb.sd)⟩
theorem tru_of {lc : Option Addr} {hd : Addr → Prop} {H : Hp} {x : V} {d : D} {b : Bool} (e : truD d = some b) (h : Dv K lc (hide hd H) x d) : TruV K x H b := by
  cases h with
  | non => cases e; rfl
  | bl b => cases e; rfl
  | int i => cases e; rfl
  | str s => cases e
  | lst h ha => cases e; exact .inl ⟨_, .of (hide_le _ _ h), by rw [ha.isEmpty]⟩
  | tup h ha => cases e; exact .inr (.inl ⟨_, same_t hide_le h, by rw [ha.isEmpty]⟩)
  | tok q => cases e
theorem snd_tru (ha : Snd K ta wa) : SndT K (fun σ H Q => ta σ H fun x H' => ∃ k, TruV K x H' k ∧ Q k H') (wTruT wa) := fun M σ H ρ pv pd P Q A h q => by
  refine ha M σ H ρ pv pd _ _ A h fun x dx H1 ρ1 A1 h1 => ?_
  have A2 := A1.pop
  obtain ⟨ow, B, hp⟩ := A1
  cases hp with
  | cons gx hp =>
    cases e : truD dx with
    | none => rw [e] at h1; exact h1.elim
    | some b =>
      rw [e] at h1
      exact ⟨b, tru_of e gx, q b H1 ρ1 A2 h1⟩
theorem dt_tru (ha : DE X a ta wa) (he : ∀ whole, isTrue a X.env whole = (do let v ← whole; standAt a.pos; holding [v] (truthy v)) := by intro _; rfl) :
    DT X a (fun σ H Q => ta σ H fun x H' => ∃ k, TruV X.K x H' k ∧ Q k H') (wTruT wa) := ⟨pt_truth ha.pe he, snd_tru ha.sd⟩
theorem snd_and (ha : SndT K tt wt) (hb : SndT K tu wu) : SndT K (tAnd tt tu) (wAnd wt wu) := fun M σ H ρ pv pd P Q A h q => by
  refine ha M σ H ρ pv pd _ _ A h fun b H1 ρ1 A1 h1 => ?_
  cases b with
  | true =>
    rw [if_pos rfl] at h1 ⊢
    exact hb M σ H1 ρ1 pv pd _ _ A1 h1 q
  | false =>
    rw [if_neg Bool.false_ne_true] at h1 ⊢
    exact q _ _ _ A1 h1
theorem snd_or (ha : SndT K tt wt) (hb : SndT K tu wu) : SndT K (tOr tt tu) (wOr wt wu) := fun M σ H ρ pv pd P Q A h q => by
  refine ha M σ H ρ pv pd _ _ A h fun b H1 ρ1 A1 h1 => ?_
  cases b with
  | true =>
    rw [if_pos rfl] at h1 ⊢
    exact q _ _ _ A1 h1
  | false =>
    rw [if_neg Bool.false_ne_true] at h1 ⊢
    exact hb M σ H1 ρ1 pv pd _ _ A1 h1 q
theorem dw_and1 (ha : DT X a tt wt) : DW X (.BoolOp .And [a] pos) tt wt := ⟨pw_and1 ha.pt, ha.sd⟩
theorem dw_or1 (ha : DT X a tt wt) : DW X (.BoolOp .Or [a] pos) tt wt := ⟨pw_or1 ha.pt, ha.sd⟩
theorem dw_and (ha : DT X a tt wt) (hb : DW X (.BoolOp .And (b :: rest) pos) tu wu) : DW X (.BoolOp .And (a :: b :: rest) pos) (tAnd tt tu) (wAnd wt wu) := ⟨pw_and ha.pt hb.pw, snd_and ha.sd hb.sd⟩
theorem dw_or (ha : DT X a tt wt) (hb : DW X (.BoolOp .Or (b :: rest) pos) tu wu) : DW X (.BoolOp .Or (a :: b :: rest) pos) (tOr tt tu) (wOr wt wu) := ⟨pw_or ha.pt hb.pw, snd_or ha.sd hb.sd⟩
theorem DW.dt (h : DW X e tt wt) : DT X e tt wt := ⟨h.pw.pt, h.sd⟩
theorem dt_not (ha : DT X a tt wt) : DT X (.UnaryOp .Not a pos) (tNot tt) (wNotT wt) := ⟨pt_not ha.pt, fun M σ H ρ pv pd P Q A h q => ha.sd M σ H ρ pv pd _ _ A h fun b H1 ρ1 A1 h1 => q _ _ _ A1 h1⟩
theorem de_if (hc : DT X c tt wt) (ha : DE X a ta wa) (hb : DE X b tb wb) : DE X (.IfExp c a b pos) (tIf tt ta tb) (wIf wt wa wb) := ⟨pe_ifExp hc.pt ha.pe hb.pe, fun M σ H ρ pv pd P Q A h q => by
  refine hc.sd M σ H ρ pv pd _ _ A h fun b H1 ρ1 A1 h1 => ?_
  cases b with
  | true =>
    rw [if_pos rfl] at h1 ⊢
    exact ha.sd M σ H1 ρ1 pv pd _ _ A1 h1 q
  | false =>
    rw [if_neg Bool.false_ne_true] at h1 ⊢
    exact hb.sd M σ H1 ρ1 pv pd _ _ A1 h1 q⟩
/-! ### and, or, not as values -/
theorem de_one {op} (ha : DE X a ta wa) : DE X (.BoolOp op [a] pos) ta wa := ⟨pe_one ha.pe, ha.sd⟩
theorem de_and (ha : DE X a ta wa) (hb : DE X (.BoolOp .And (b :: rest) pos) tb wb) : DE X (.BoolOp .And (a :: b :: rest) pos) (tAndT X.K ta tb) (wAndV wa wb) := ⟨pe_andT ha.pe hb.pe, fun M σ H ρ pv pd P Q A h q => by
  refine ha.sd M σ H ρ pv pd _ _ A h fun x dx H1 ρ1 A1 h1 => ?_
  have A2 := A1.pop
  obtain ⟨ow, B, hp⟩ := A1
  cases hp with
  | cons gx hp =>
    cases e : truD dx with
    | none => simp only [e] at h1
    | some k =>
      refine ⟨k, tru_of e gx, ?_⟩
      cases k with
      | true =>
        simp only [e] at h1
        rw [if_pos rfl]
        exact hb.sd M σ H1 ρ1 pv pd _ _ A2 h1 q
      | false =>
        simp only [e] at h1
        rw [if_neg Bool.false_ne_true]
        exact q _ _ _ _ ⟨ow, B, .cons gx hp⟩ h1⟩
theorem de_or (ha : DE X a ta wa) (hb : DE X (.BoolOp .Or (b :: rest) pos) tb wb) : DE X (.BoolOp .Or (a :: b :: rest) pos) (tOrT X.K ta tb) (wOrV wa wb) := ⟨pe_orT ha.pe hb.pe, fun M σ H ρ pv pd P Q A h q => by
  refine ha.sd M σ H ρ pv pd _ _ A h fun x dx H1 ρ1 A1 h1 => ?_
  have A2 := A1.pop
  obtain ⟨ow, B, hp⟩ := A1
  cases hp with
  | cons gx hp =>
    cases e : truD dx with
    | none => simp only [e] at h1
    | some k =>
      refine ⟨k, tru_of e gx, ?_⟩
      cases k with
      | true =>
        simp only [e] at h1
        rw [if_pos rfl]
        exact q _ _ _ _ ⟨ow, B, .cons gx hp⟩ h1
      | false =>
        simp only [e] at h1
        rw [if_neg Bool.false_ne_true]
        exact hb.sd M σ H1 ρ1 pv pd _ _ A2 h1 q⟩
theorem de_not (ha : DE X a ta wa) : DE X (.UnaryOp .Not a pos) (tNotT X.K ta) (wNotV wa) := ⟨pe_notT ha.pe, fun M σ H ρ pv pd P Q A h q => by
  refine ha.sd M σ H ρ pv pd _ _ A h fun x dx H1 ρ1 A1 h1 => ?_
  have A2 := A1.pop
  obtain ⟨ow, B, hp⟩ := A1
  cases hp with
  | cons gx hp =>
    cases e : truD dx with
    | none => simp only [e] at h1
    | some k =>
      simp only [e] at h1
      obtain ⟨ow, B, hp⟩ := A2
      exact ⟨k, tru_of e gx, q _ _ _ _ ⟨ow, B, .cons (.bl _) hp⟩ h1⟩⟩
theorem snd_chain {r r' : R2} {w1 w2 : D → D → (D → Prop) → Prop} (h1 : Sn2 K r w1) (h2 : Sn2 K r' w2) (ha : Snd K ta wa) (hb : Snd K tb wb) (hc : Snd K tc wc) : Snd K (tChain r r' ta tb tc) (wChain w1 w2 wa wb wc) := fun M σ H ρ pv pd P Q A h q => by
  refine ha M σ H ρ pv pd _ _ A h fun x dx H1 ρ1 A1 q1 => ?_
  refine hb M σ H1 ρ1 _ _ _ _ A1 q1 fun y dy H2 ρ2 A2 q2 => ?_
  obtain ⟨ow, B, hp⟩ := A2
  cases hp with
  | cons gy hp =>
    cases hp with
    | cons gx hp =>
      refine h1 M.lc (hdO M ow) H2 x y dx dy _ _ B.hall gx gy q2 fun z dz H3 e gz p => ?_
      have A3 : At K M σ H3 ρ2 (y :: pv) (dy :: pd) := ⟨ow, B.step (.of e) (B.cok.mono e), (DvAll.cons gy hp).mono (B.vis (.of e))⟩
      cases gz with
      | bl k =>
        refine ⟨k, rfl, ?_⟩
        cases k with
        | true =>
          rw [if_pos rfl]
          refine hc M σ H3 ρ2 _ _ _ _ A3 p fun u du H4 ρ3 A4 q4 => ?_
          obtain ⟨ow4, B4, hp4⟩ := A4
          cases hp4 with
          | cons gu hp4 =>
            cases hp4 with
            | cons gy4 hp4 =>
              refine h2 M.lc (hdO M ow4) H4 y u dy du _ _ B4.hall gy4 gu q4 fun v d H' e g p => ?_
              exact q v d H' ρ3 ⟨ow4, B4.step (.of e) (B4.cok.mono e), .cons g (hp4.mono (B4.vis (.of e)))⟩ p
        | false =>
          rw [if_neg Bool.false_ne_true]
          obtain ⟨ow3, B3, hp3⟩ := A3.pop
          exact q _ _ _ _ ⟨ow3, B3, .cons (.bl _) hp3⟩ p
      | _ => exact p.elim
theorem de_chain {op op' : CmpOp} {r r' : R2} {w1 w2 : D → D → (D → Prop) → Prop} (ho : OpR X (compareOp op) r) (h1 : Sn2 X.K r w1) (ho' : OpR X (compareOp op') r') (h2 : Sn2 X.K r' w2) (ha : DE X a ta wa) (hb : DE X b tb wb) (hc : DE X c tc wc)
    (hm : lastMarks [op, op'] [b, c] = false := by with_unfolding_all rfl) : DE X (.Compare a [op, op'] [b, c] pos) (tChain r r' ta tb tc) (wChain w1 w2 wa wb wc) := ⟨pe_chain ho ho' ha.pe hb.pe hc.pe hm, snd_chain h1 h2 ha.sd hb.sd hc.sd⟩
theorem dt_chain {op op' : CmpOp} {r r' : R2} {w1 w2 : D → D → (D → Prop) → Prop} (ho : OpR X (compareOp op) r) (h1 : Sn2 X.K r w1) (ho' : OpR X (compareOp op') r') (h2 : Sn2 X.K r' w2) (ha : DE X a ta wa) (hb : DE X b tb wb) (hc : DE X c tc wc)
    (hm : lastMarks [op, op'] [b, c] = false := by with_unfolding_all rfl) : DT X (.Compare a [op, op'] [b, c] pos) (tTest (tChain r r' ta tb tc)) (wTest (wChain w1 w2 wa wb wc)) := ⟨pt_chain ho ho' ha.pe hb.pe hc.pe hm, snd_test (snd_chain h1 h2 ha.sd hb.sd hc.sd)⟩
end

/-! ## lists that are made -/
def Amb.plus (M : Amb) (p : Addr) (ds : List D) : Amb := { M with gh := (p, ds) :: M.gh }
abbrev WF := Rho → (List D → Rho → Prop) → Prop
/-- a new list that nobody else holds -/
def SndF (K : Fg) (t : TE) (w : WF) : Prop := ∀ (M : Amb) (σ : L2.St) (H : Hp) (ρ : Rho) (pv : List V) (pd : List D) (P : List D → Rho → Prop) (Q : VK),
  At K M σ H ρ pv pd → w ρ P → (∀ p ds H' ρ', At K (M.plus p ds) σ H' ρ' pv pd → P ds ρ' → Q (.ref p) H') → t σ H Q
structure DF (X : Cx) (e : Expr) (t : TE) (w : WF) : Prop where
  pe : PE X e t
  sd : SndF X.K t w
section
variable {X : Cx} {K : Fg} {M : Amb} {H H' : Hp} {σ : L2.St} {ρ : Rho} {pv : List V} {pd : List D} {ow : Nat → Option Addr} {p : Addr} {ds : List D}
theorem hdO_plus {b : Addr} (h : hdO M ow b) : hdO (M.plus p ds) ow b := by
  rcases h with h | h | ⟨es, h⟩
  · exact .inl h
  · exact .inr (.inl h)
  · exact .inr (.inr ⟨es, List.mem_cons_of_mem _ h⟩)
theorem hdO_minus {b : Addr} (h : hdO (M.plus p ds) ow b) : hdO M ow b ∨ b = p := by
  rcases h with h | h | ⟨es, h⟩
  · exact .inl (.inl h)
  · exact .inl (.inr (.inl h))
  · rcases List.mem_cons.mp h with e | h
    · cases e; exact .inr rfl
    · exact .inl (.inr (.inr ⟨es, h⟩))
theorem vis_minus : Same (hide (hdO (M.plus p ds) ow) H) (hide (hdO M ow) H) := hide_same fun b o n h => ⟨fun z => n (hdO_plus z), h⟩
/-- a list that is made is seen from now on -/
theorem AtW.minus (A : AtW K (M.plus p ds) σ H ρ ow) : AtW K M σ H ρ ow where
  evo := A.evo
  cok := A.cok
  sub := A.sub
  all := A.all
  len := A.len
  val := fun i d h => by
    obtain ⟨v, h1, h2⟩ := A.val i d h
    exact ⟨v, h1, h2.mono vis_minus⟩
  own := fun i ds h => by
    obtain ⟨p, xs, h1, h2, h3, h4⟩ := A.own i ds h
    exact ⟨p, xs, h1, h2, h3, h4.mono vis_minus⟩
  fre := A.fre
  inj := A.inj
  gho := fun q es h => by
    obtain ⟨h1, h2, xs, h3, h4⟩ := A.gho q es (List.mem_cons_of_mem _ h)
    exact ⟨h1, h2, xs, h3, h4.mono vis_minus⟩
  gnd := by
    have := A.gnd
    exact (List.nodup_cons.mp this).2
theorem At.free (A : At K (M.plus p ds) σ H ρ pv pd) : At K M σ H ρ (.ref p :: pv) (.list ds :: pd) := by
  obtain ⟨ow, A, h⟩ := A
  obtain ⟨h1, h2, xs, h3, h4⟩ := A.gho p ds (List.mem_cons_self ..)
  have np : ¬ hdO M ow p := fun z => by
    rcases z with z | ⟨i, z⟩ | ⟨es, z⟩
    · exact A.ne h1 z
    · exact h2 i z
    · have := (List.nodup_cons.mp A.gnd).1
      exact this (List.mem_map_of_mem (f := (·.1)) z)
  exact ⟨ow, A.minus, .cons (.lst (hide_some.mpr ⟨np, h3⟩) (h4.mono vis_minus)) (h.mono vis_minus)⟩
theorem AtW.plus {xs : List V} (A : AtW K M σ H ρ ow) (hp : H p = none) (h0 : M.H0 p = none) (g : DvAll K M.lc (hide (hdO M ow) H) xs ds) : AtW K (M.plus p ds) σ (upd H p (.lst xs)) ρ ow := by
  have e : Same H (upd H p (.lst xs)) := same_new hp
  have vis : Same (hide (hdO M ow) H) (hide (hdO (M.plus p ds) ow) (upd H p (.lst xs))) := hide_same fun b o n h => ⟨fun z => by
    rcases hdO_minus z with z | z
    · exact n z
    · subst z
      exact absurd h (by rw [hp]; exact fun z => nomatch z), e b o h⟩
  exact {
    evo := A.evo.trans (.of e)
    cok := A.cok.mono e
    sub := A.sub
    all := A.all
    len := A.len
    val := fun i d h => by
      obtain ⟨v, h1, h2⟩ := A.val i d h
      exact ⟨v, h1, h2.mono vis⟩
    own := fun i ds h => by
      obtain ⟨p, xs, h1, h2, h3, h4⟩ := A.own i ds h
      exact ⟨p, xs, h1, h2, e _ _ h3, h4.mono vis⟩
    fre := fun i q h => by
      obtain ⟨h1, xs, h2⟩ := A.fre i q h
      exact ⟨h1, xs, e q _ h2⟩
    inj := A.inj
    gho := fun q es h => by
      rcases List.mem_cons.mp h with z | z
      · cases z
        exact ⟨h0, (fun i hi => by
          obtain ⟨_, ys, h⟩ := A.fre i p hi
          rw [hp] at h
          exact nomatch h), xs, upd_same, g.mono vis⟩
      · obtain ⟨h1, h2, xs, h3, h4⟩ := A.gho q es z
        exact ⟨h1, h2, xs, e _ _ h3, h4.mono vis⟩
    gnd := List.nodup_cons.mpr ⟨fun z => by
      obtain ⟨⟨q, es⟩, h1, h2⟩ := List.mem_map.mp z
      cases h2
      obtain ⟨_, _, xs, h3, _⟩ := A.gho p es h1
      exact absurd h3 (by rw [hp]; exact fun z => nomatch z), A.gnd⟩ }
theorem AtW.none0 (A : AtW K M σ H ρ ow) (hp : H p = none) : M.H0 p = none := by
  cases q : M.H0 p with
  | none => rfl
  | some o =>
    by_cases hl : M.lc = some p
    · obtain ⟨⟨_, _, _, _, _, g, _⟩, _⟩ := A.cok p hl
      rw [hp] at g; cases g
    · rw [A.evo p o hl q] at hp; cases hp
theorem At.plus {vs : List V} (A : At K M σ H ρ (vs ++ pv) (ds ++ pd)) (hl : vs.length = ds.length) (hp : H p = none) : At K (M.plus p ds) σ (upd H p (.lst vs)) ρ pv pd := by
  obtain ⟨ow, A, h⟩ := A
  obtain ⟨g1, g2⟩ := DvAll.split hl h
  refine ⟨ow, A.plus hp (A.none0 hp) g1, g2.mono (hide_same fun b o n h => ⟨fun z => ?_, same_new hp b o h⟩)⟩
  rcases hdO_minus z with z | z
  · exact n z
  · subst z
    rw [hp] at h; cases h
theorem DF.de {e : Expr} {t : TE} {w : WF} (h : DF X e t w) : DE X e t (fun ρ P => w ρ fun ds ρ1 => P (.list ds) ρ1) := ⟨h.pe, fun M σ H ρ pv pd P Q A hw q => h.sd M σ H ρ pv pd _ _ A hw fun p ds H' ρ' A' hP => q _ _ _ _ A'.free hP⟩
def owOn (ow : Nat → Option Addr) (i : Nat) (p : Addr) : Nat → Option Addr := fun j => if j = i then some p else ow j
theorem owOn_same {ow : Nat → Option Addr} {i : Nat} {p : Addr} : owOn ow i p i = some p := by simp [owOn]
theorem owOn_ne {ow : Nat → Option Addr} {i j : Nat} {p : Addr} (h : j ≠ i) : owOn ow i p j = ow j := by simp [owOn, h]
/-- the list that is made goes to slot i -/
theorem AtW.keep (A : AtW K (M.plus p ds) σ H ρ ow) (i : Nat) : AtW K M (σ.set i (some (.ref p))) H (DL.put ρ i (.own ds)) (owOn ow i p) := by
  obtain ⟨h1, h2, xs, h3, h4⟩ := A.gho p ds (List.mem_cons_self ..)
  have ne1 : ∀ j, j ≠ i → (owOn ow i p) j = ow j := fun j hj => owOn_ne hj
  have eq1 : (owOn ow i p) i = some p := owOn_same
  have vis : Same (hide (hdO (M.plus p ds) ow) H) (hide (hdO M (owOn ow i p)) H) := hide_same fun b o n h => ⟨fun z => by
    rcases z with z | ⟨j, z⟩ | ⟨es, z⟩
    · exact n (.inl z)
    · by_cases hj : j = i
      · subst hj
        rw [owOn_same] at z
        cases z
        exact n (.inr (.inr ⟨ds, List.mem_cons_self ..⟩))
      · rw [owOn_ne hj] at z
        exact n (.inr (.inl ⟨j, z⟩))
    · exact n (.inr (.inr ⟨es, List.mem_cons_of_mem _ z⟩)), h⟩
  exact {
    evo := A.evo
    cok := A.cok
    sub := A.sub
    all := A.all
    len := by rw [List.length_set, put_length]; exact A.len
    val := fun j d hj => by
      by_cases hji : j = i
      · subst hji
        rcases look_put ρ j (.own ds) with z | z <;> (rw [z] at hj; cases hj)
      · rw [look_put_ne _ _ _ _ hji] at hj
        obtain ⟨u, g1, g2⟩ := A.val j d hj
        exact ⟨u, by rw [List.getElem?_set_ne (fun z => hji z.symm)]; exact g1, g2.mono vis⟩
    own := fun j es hj => by
      by_cases hji : j = i
      · subst hji
        have hlt : j < σ.length := by
          rw [A.len]
          have := look_lt _ j (show look (DL.put ρ j (.own ds)) j ≠ .un by rw [hj]; exact fun z => nomatch z)
          rwa [put_length] at this
        rcases look_put ρ j (.own ds) with z | z
        · rw [z] at hj
          cases hj
          exact ⟨p, xs, eq1, List.getElem?_set_self hlt, h3, h4.mono vis⟩
        · rw [z] at hj; cases hj
      · rw [look_put_ne _ _ _ _ hji] at hj
        obtain ⟨p', xs', g1, g2, g3, g4⟩ := A.own j es hj
        exact ⟨p', xs', by rw [ne1 j hji]; exact g1, by rw [List.getElem?_set_ne (fun z => hji z.symm)]; exact g2, g3, g4.mono vis⟩
    fre := fun j q hj => by
      by_cases hji : j = i
      · subst hji
        rw [owOn_same] at hj
        cases hj
        exact ⟨h1, xs, h3⟩
      · rw [ne1 j hji] at hj
        exact A.fre j q hj
    inj := fun j k q hj hk => by
      by_cases hji : j = i
      · subst hji
        rw [owOn_same] at hj
        cases hj
        by_cases hki : k = j
        · exact hki.symm
        · rw [ne1 k hki] at hk
          exact absurd hk (h2 k)
      · rw [ne1 j hji] at hj
        by_cases hki : k = i
        · subst hki
          rw [owOn_same] at hk
          cases hk
          exact absurd hj (h2 j)
        · rw [ne1 k hki] at hk
          exact A.inj j k q hj hk
    gho := fun q es h => by
      obtain ⟨g1, g2, ys, g3, g4⟩ := A.gho q es (List.mem_cons_of_mem _ h)
      refine ⟨g1, fun j hj => ?_, ys, g3, g4.mono vis⟩
      by_cases hji : j = i
      · subst hji
        rw [owOn_same] at hj
        cases hj
        exact (List.nodup_cons.mp A.gnd).1 (List.mem_map_of_mem (f := (·.1)) h)
      · rw [ne1 j hji] at hj
        exact g2 j hj
    gnd := (List.nodup_cons.mp A.gnd).2 }
theorem At.keep (A : At K (M.plus p ds) σ H ρ pv pd) (i : Nat) : At K M (σ.set i (some (.ref p))) H (DL.put ρ i (.own ds)) pv pd := by
  obtain ⟨ow, A, h⟩ := A
  refine ⟨_, A.keep i, h.mono (hide_same fun b o n h => ⟨fun z => ?_, h⟩)⟩
  rcases z with z | ⟨j, z⟩ | ⟨es, z⟩
  · exact n (.inl z)
  · by_cases hj : j = i
    · subst hj
      rw [owOn_same] at z
      cases z
      exact n (.inr (.inr ⟨ds, List.mem_cons_self ..⟩))
    · rw [owOn_ne hj] at z
      exact n (.inr (.inl ⟨j, z⟩))
  · exact n (.inr (.inr ⟨es, List.mem_cons_of_mem _ z⟩))
end
section
variable {X : Cx} {K : Fg} {a b c e : Expr} {es : List Expr} {ta tb : TE} {wa wb : WE} {t : TA} {wr : WA} {pos p p2 : Pos}
def wFLst (wa : WA) : WF := fun ρ P => wa ρ fun ds ρ1 => ds.length ≤ 100000 ∧ P ds ρ1
theorem df_lst (h : DA X es t wr) : DF X (.List es pos) (tLst t) (wFLst wr) := ⟨pe_lst h.pa, fun M σ H ρ pv pd P Q A hw q => by
  refine h.sd M σ H ρ pv pd _ _ A hw fun vs ds H1 ρ1 hl A1 h1 => ⟨by rw [hl]; exact size_ok h1.1, fun p hp => ?_⟩
  exact q p ds _ ρ1 (A1.plus hl hp) h1.2⟩
/-- an operation whose answer is a new list -/
def SnF2 (K : Fg) (r : R2) (w : D → D → (List D → Prop) → Prop) : Prop := ∀ (lc : Option Addr) (hd : Addr → Prop) (H : Hp) (x y : V) (a b : D) (P : List D → Prop) (Q : VK),
  (∀ p, hd p → H p ≠ none) → Dv K lc (hide hd H) x a → Dv K lc (hide hd H) y b → w a b P → (∀ xs ds p, DvAll K lc (hide hd H) xs ds → H p = none → P ds → Q (.ref p) (upd H p (.lst xs))) → r x y H Q
def SnFC (K : Fg) (r : List V → Hp → VK → Prop) (w : List D → (List D → Prop) → Prop) : Prop := ∀ (lc : Option Addr) (hd : Addr → Prop) (H : Hp) (xs : List V) (as : List D) (P : List D → Prop) (Q : VK),
  (∀ p, hd p → H p ≠ none) → DvAll K lc (hide hd H) xs as → w as P → (∀ ys ds p, DvAll K lc (hide hd H) ys ds → H p = none → P ds → Q (.ref p) (upd H p (.lst ys))) → r xs H Q
def wFBin (w2 : D → D → (List D → Prop) → Prop) (wa wb : WE) : WF := fun ρ P => wa ρ fun x ρ1 => wb ρ1 fun y ρ2 => w2 x y fun ds => P ds ρ2
def wFB (wc : List D → (List D → Prop) → Prop) (wa : WA) : WF := fun ρ P => wa ρ fun ds ρ1 => wc ds fun es => P es ρ1
theorem sndF_op {r : R2} {w2 : D → D → (List D → Prop) → Prop} (h2 : SnF2 K r w2) (ha : Snd K ta wa) (hb : Snd K tb wb) : SndF K (tOp r ta tb) (wFBin w2 wa wb) := fun M σ H ρ pv pd P Q A h q => by
  refine ha M σ H ρ pv pd _ _ A h fun x dx H1 ρ1 A1 h1 => ?_
  refine hb M σ H1 ρ1 _ _ _ _ A1 h1 fun y dy H2 ρ2 A2 h2' => ?_
  obtain ⟨ow, B, hp⟩ := A2
  cases hp with
  | cons gy hp =>
    cases hp with
    | cons gx hp =>
      refine h2 M.lc (hdO M ow) H2 x y dx dy _ _ B.hall gx gy h2' fun xs ds p g hn pp => ?_
      exact q p ds _ ρ2 (At.plus ⟨ow, B, g.app hp⟩ g.length hn) pp
theorem sndF_b {r : List V → Hp → VK → Prop} {wc : List D → (List D → Prop) → Prop} (hsn : SnFC K r wc) (h : SndA K t wr) : SndF K (tCB r t) (wFB wc wr) := fun M σ H ρ pv pd P Q A hw q => by
  refine h M σ H ρ pv pd _ _ A hw fun vs ds H1 ρ1 hl A1 h1 => ?_
  obtain ⟨ow, B, hp⟩ := A1
  obtain ⟨g1, g2⟩ := DvAll.split hl hp
  refine hsn M.lc (hdO M ow) H1 vs ds _ _ B.hall g1 h1 fun ys es p g hn pp => ?_
  exact q p es _ ρ1 (At.plus ⟨ow, B, g.app g2⟩ g.length hn) pp
def fRep : D → D → (List D → Prop) → Prop
  | .list a, .int k, P => -(2 ^ 63) ≤ k ∧ k < 2 ^ 63 ∧ a.length * k.toNat ≤ 100000 ∧ P (List.replicate k.toNat a).flatten
  | _, _, _ => False
theorem snf_rep : SnF2 K rRep fRep := fun lc hd H x y a b P Q al hx hy h q => by
  unfold fRep at h
  split at h
  · cases hy
    cases hx with
    | lst g1 g2 => exact ⟨_, _, _, rfl, rfl, hide_le _ _ g1, h.1, h.2.1, by rw [g2.length]; exact size_ok h.2.2.1, fun p hp => q _ _ p (Vrep g2 _) hp h.2.2.2⟩
  · exact h.elim
theorem df_rep (ha : DE X a ta wa) (hb : DE X b tb wb) : DF X (.BinOp a .Mult b pos) (tOp rRep ta tb) (wFBin fRep wa wb) := ⟨pe_op op_rep ha.pe hb.pe, sndF_op snf_rep ha.sd hb.sd⟩
def fList : List D → (List D → Prop) → Prop
  | [.tuple ds], P => P ds
  | [.list ds], P => P ds
  | _, _ => False
theorem snf_list : SnFC K (rListV K) fList := fun lc hd H xs as P Q al hx h q => by
  unfold fList at h
  split at h
  · obtain ⟨x, rfl, g⟩ := da1 hx
    cases g with
    | tup g1 g2 => exact ⟨_, _, rfl, .inr (same_t hide_le g1), fun l hl => q _ _ l g2 hl h⟩
  · obtain ⟨x, rfl, g⟩ := da1 hx
    cases g with
    | lst g1 g2 => exact ⟨_, _, rfl, .inl (.of (hide_le _ _ g1)), fun l hl => q _ _ l g2 hl h⟩
  · exact h.elim
theorem df_list (hg : Gl X "list") (hm : X.mg "list" = none) (ha : DA X (e :: es) t wr) (he : starEach (e :: es) X.env = (false, eval e X.env) :: starEach es X.env := by rfl) (hpl : (backTo pos (starEach es X.env)).any (·.1) = false := by rfl) :
    DF X (.Call (.Name "list" p) (e :: es) [] pos) (tCB (rListV X.K) t) (wFB fList wr) := ⟨pe_callTy call_list_of hg hm (by decide +kernel) ha.pa (by decide) (by decide) he hpl, sndF_b snf_list ha.sd⟩
end
end DL

namespace DL
open PySem PySem.Spec PyProof.Rows L2

/-! ## targets -/
abbrev WG := D → Rho → (Rho → Prop) → Prop
abbrev WGs := List D → Rho → (Rho → Prop) → Prop
def SndG (K : Fg) (g : TG) (w : WG) : Prop := ∀ (M : Amb) (σ : L2.St) (H : Hp) (ρ : Rho) (pv : List V) (pd : List D) (v : V) (d : D) (P : Rho → Prop) (Q : L2.St → Hp → Prop),
  At K M σ H ρ (v :: pv) (d :: pd) → w d ρ P → (∀ σ' H' ρ', At K M σ' H' ρ' pv pd → P ρ' → Q σ' H') → g v σ H Q
def SndGs (K : Fg) (g : TGs) (w : WGs) : Prop := ∀ (M : Amb) (σ : L2.St) (H : Hp) (ρ : Rho) (pv : List V) (pd : List D) (vs : List V) (ds : List D) (P : Rho → Prop) (Q : L2.St → Hp → Prop),
  vs.length = ds.length → At K M σ H ρ (vs ++ pv) (ds ++ pd) → w ds ρ P → (∀ σ' H' ρ', At K M σ' H' ρ' pv pd → P ρ' → Q σ' H') → g vs σ H Q
structure DG (X : Cx) (e : Expr) (g : TG) (w : WG) : Prop where
  pg : PG X e g
  sd : SndG X.K g w
structure DGs (X : Cx) (es : List Expr) (g : TGs) (w : WGs) : Prop where
  pg : PGs X es g
  sd : SndGs X.K g w
def wgName (i : Nat) : WG := fun d ρ P => P (put ρ i (.val d))
def wgNil : WGs := fun ds ρ P => ds = [] ∧ P ρ
def wgCons (w : WG) (u : WGs) : WGs := fun ds ρ P => match ds with
  | d :: r => w d ρ fun ρ1 => u r ρ1 P
  | [] => False
def wgTup (n : Nat) (u : WGs) : WG := fun d ρ P => match d with
  | .tuple ds => ds.length = n ∧ u ds ρ P
  | _ => False
section
variable {X : Cx} {K : Fg} {e : Expr} {es : List Expr} {pos : Pos} {g : TG} {gs : TGs} {w : WG} {u : WGs}
theorem sndg_name (i : Nat) : SndG K (gName i) (wgName i) := fun M σ H ρ pv pd v d P Q A h q => q _ _ _ (A.put i rfl rfl) h
theorem dg_name {i : Nat} {x : Str} (hN : X.N.Nodup) (hi : X.N[i]? = some x := by rfl) (hx : Loc X.env.scope x := by first | exact .inl rfl | exact .inr rfl) (hf : X.fn x = true ∨ X.env.scope.names.lookup x = some .local := by first | exact .inl rfl | exact .inr rfl | assumption) : DG X (.Name x pos) (gName i) (wgName i) := ⟨pg_name hN hi hx hf, sndg_name i⟩
theorem dgs_nil : DGs X [] gNil wgNil := ⟨pgs_nil, fun M σ H ρ pv pd vs ds P Q hl A h q => by
  obtain ⟨rfl, h⟩ := h
  have : vs = [] := List.eq_nil_of_length_eq_zero hl
  subst this
  exact ⟨rfl, q _ _ _ A h⟩⟩
theorem dgs_cons (h1 : DG X e g w) (h2 : DGs X es gs u) (hc : (assignEach (e :: es) X.env).map (·.2) = assign e X.env :: (assignEach es X.env).map (·.2) := by rfl) : DGs X (e :: es) (gCons g gs) (wgCons w u) := ⟨pgs_cons h1.pg h2.pg hc, fun M σ H ρ pv pd vs ds P Q hl A h q => by
  cases ds with
  | nil => exact h.elim
  | cons d ds =>
    cases vs with
    | nil => cases hl
    | cons v vs =>
      refine ⟨v, vs, rfl, h1.sd M σ H ρ (vs ++ pv) (ds ++ pd) v d _ _ A h fun σ' H' ρ' A' h' => ?_⟩
      exact h2.sd M σ' H' ρ' pv pd vs ds _ _ (by simpa using hl) A' h' q⟩
theorem dg_tup {n k : Nat} (hc : X.calm = true) (h : DGs X es gs u) (hn : (assignEach es X.env).length = n := by rfl) (hst : (assignEach es X.env).findIdx? (·.1) = none := by rfl) : DG X (.Tuple es k pos) (gTup X.K n gs) (wgTup n u) := ⟨pg_tup hc h.pg hn hst, fun M σ H ρ pv pd v d P Q A hw q => by
  cases d <;> first | exact hw.elim | skip
  obtain ⟨ow, B, hp⟩ := A
  cases hp with
  | cons g1 hp =>
    cases g1 with
    | tup g1 g2 =>
      exact ⟨_, _, rfl, same_t hide_le g1, by rw [g2.length]; exact hw.1, h.sd M σ H ρ pv pd _ _ _ _ g2.length ⟨ow, B, g2.app hp⟩ hw.2 q⟩⟩
end

/-! ## statements -/
structure DEnds where
  nx : Rho → Prop
  rt : D → Prop
  bk : Rho → Prop := fun _ => False
  ct : Rho → Prop := fun _ => False
abbrev WS := DEnds → Rho → Prop
structure Fin (K : Fg) (M : Amb) (pv : List V) (pd : List D) (DD : DEnds) (HD : Ends) : Prop where
  nx : ∀ σ H ρ, At K M σ H ρ pv pd → DD.nx ρ → HD.nx σ H
  rt : ∀ v d H, Evo M.lc M.H0 H → Cok K M.lc M.hc H → Dv K M.lc (hide M.hd H) v d → DD.rt d → HD.rt v H
  bk : ∀ σ H ρ, At K M σ H ρ pv pd → DD.bk ρ → HD.bk σ H
  ct : ∀ σ H ρ, At K M σ H ρ pv pd → DD.ct ρ → HD.ct σ H
def SndS (K : Fg) (t : TS) (w : WS) : Prop := ∀ (M : Amb) (σ : L2.St) (H : Hp) (ρ : Rho) (pv : List V) (pd : List D) (DD : DEnds) (HD : Ends),
  At K M σ H ρ pv pd → w DD ρ → Fin K M pv pd DD HD → t HD σ H
structure DS (X : Cx) (st : Stmt) (t : TS) (w : WS) : Prop where
  ps : PS X st t
  sd : SndS X.K t w
structure DSs (X : Cx) (sts : List Stmt) (t : TS) (w : WS) : Prop where
  ps : PSs X sts t
  sd : SndS X.K t w
def wNext : WS := fun DD ρ => DD.nx ρ
def wSeq (w u : WS) : WS := fun DD ρ => w { DD with nx := u DD } ρ
def wAsg (wa : WE) (wg : WG) : WS := fun DD ρ => wa ρ fun d ρ1 => wg d ρ1 DD.nx
def wKeep (i : Nat) (wf : WF) : WS := fun DD ρ => wf ρ fun ds ρ1 => DD.nx (put ρ1 i (.own ds))
def wDrop (wa : WE) : WS := fun DD ρ => wa ρ fun _ ρ1 => DD.nx ρ1
def wRet (wa : WE) : WS := fun DD ρ => wa ρ fun d _ => DD.rt d
def wRetN : WS := fun DD _ => DD.rt .none
def wIfS (wt : WT) (w u : WS) : WS := fun DD ρ => wt ρ fun b ρ1 => if b = true then w DD ρ1 else u DD ρ1
def wBreak : WS := fun DD ρ => DD.bk ρ
def wCont : WS := fun DD ρ => DD.ct ρ
def wNever : WS := fun _ _ => False
def wPar (i j : Nat) (wa : WA) : WS := fun DD ρ => wa ρ fun ds ρ1 => match ds with
  | [a, b] => DD.nx (put (put ρ1 i (.val a)) j (.val b))
  | _ => False
def wAug (i : Nat) (w2 : D → D → (D → Prop) → Prop) (wa : WE) : WS := fun DD ρ => match look ρ i with
  | .val x => wa ρ fun y ρ1 => w2 x y fun z => DD.nx (put ρ1 i (.val z))
  | _ => False
def wWhile (wt : WT) (wb : WS) : WS := fun DD ρ => ∃ (I : Rho → Prop) (μ : Rho → Nat), I ρ ∧ ∀ ρ, I ρ → wt ρ fun b ρ1 => if b = true then
  wb { DD with nx := fun ρ' => I ρ' ∧ μ ρ' < μ ρ, ct := fun ρ' => I ρ' ∧ μ ρ' < μ ρ, bk := DD.nx } ρ1 else DD.nx ρ1
/-- a loop over the items of a list or a tuple -/
def wForD (ds : List D) (wg : WG) (wb : WS) : WS := fun DD ρ => ∃ I : Nat → Rho → Prop, I 0 ρ ∧ (∀ i x ρ, ds[i]? = some x → I i ρ → wg x ρ fun ρ1 => wb { DD with nx := I (i + 1), ct := I (i + 1), bk := DD.nx } ρ1) ∧ ∀ ρ, I ds.length ρ → DD.nx ρ
def wFor (wI : Rho → (List D → Rho → Prop) → Prop) (wg : WG) (wb : WS) : WS := fun DD ρ => wI ρ fun ds ρ1 => wForD ds wg wb DD ρ1
def SrcOk (K : Fg) (J : It) (v : V) (d : D) (ds : List D) : Prop := ∀ (M : Amb) (σ : L2.St) (H : Hp) (ρ : Rho) (pv : List V) (pd : List D), At K M σ H ρ (v :: pv) (d :: pd) →
  (∀ i (hi : i < ds.length), J.go i H ∧ ∀ x H', J.yld i H x H' → At K M σ H' ρ (x :: v :: pv) (ds[i] :: d :: pd)) ∧ J.stop ds.length H
abbrev WI := Rho → (List D → Rho → Prop) → Prop
def SndI (K : Fg) (wi : TI) (w : WI) : Prop := ∀ (M : Amb) (σ : L2.St) (H : Hp) (ρ : Rho) (pv : List V) (pd : List D) (P : List D → Rho → Prop) (R : It → Hp → Prop),
  At K M σ H ρ pv pd → w ρ P → (∀ J H1 ρ1 v d ds, At K M σ H1 ρ1 (v :: pv) (d :: pd) → SrcOk K J v d ds → P ds ρ1 → R J H1) → wi σ H R
structure DI (X : Cx) (tg iter : Expr) (wi : TI) (w : WI) : Prop where
  pi : PI X tg iter wi
  sd : SndI X.K wi w
def wiTup (wa : WE) : WI := fun ρ P => wa ρ fun d ρ1 => match d with
  | .tuple ds => P ds ρ1
  | _ => False
def wiLst (wa : WE) : WI := fun ρ P => wa ρ fun d ρ1 => match d with
  | .list ds => P ds ρ1
  | _ => False
def rngOk (j : Int) : Prop := -(2 ^ 62) ≤ j ∧ j < 2 ^ 62
def rngD (lo : Int) (n : Nat) : List D := (List.range n).map fun k => .int (lo + (k : Nat))
theorem rngD_len (lo : Int) (n : Nat) : (rngD lo n).length = n := by simp [rngD]
theorem rngD_get {lo : Int} {n i : Nat} {x : D} (h : (rngD lo n)[i]? = some x) : i < n ∧ x = .int (lo + (i : Nat)) := by
  unfold rngD at h
  rw [List.getElem?_map] at h
  cases q : (List.range n)[i]? with
  | none => rw [q] at h; cases h
  | some k =>
    rw [q] at h
    obtain ⟨h1, h2⟩ := List.getElem?_eq_some_iff.mp q
    simp at h1 h2
    cases h
    exact ⟨h1, by rw [h2]⟩
def wiR1 (wa : WA) : WI := fun ρ P => wa ρ fun ds ρ1 => match ds with
  | [.int j] => rngOk j ∧ P (rngD 0 j.toNat) ρ1
  | _ => False
def wiR2 (wa : WA) : WI := fun ρ P => wa ρ fun ds ρ1 => match ds with
  | [.int i, .int j] => rngOk i ∧ rngOk j ∧ P (rngD i (j - i).toNat) ρ1
  | _ => False
section
variable {X : Cx} {K : Fg} {a b e tg : Expr} {ta : TE} {wa : WE} {t : TA} {wr : WA} {p p2 : Pos}
theorem src_tup {l : Addr} {ds : List D} : SrcOk K (Itt K l) (.ref l) (.tuple ds) ds := fun M σ H ρ pv pd A => by
  obtain ⟨ow, B, hp⟩ := A
  cases hp with
  | cons g3 hp =>
    cases g3 with
    | @tup _ ys _ g3 g4 =>
      have hS : SqT K H l ys := same_t hide_le g3
      refine ⟨fun i hi => ?_, ⟨ys, hS, by rw [g4.length]; omega⟩⟩
      obtain ⟨y, gy, gyd⟩ := g4.get (List.getElem?_eq_getElem hi)
      refine ⟨⟨ys, y, hS, gy⟩, fun x H' hy => ?_⟩
      obtain ⟨rfl, fv⟩ := hy
      have ex : x = y := Option.some.inj ((fv _ hS).symm.trans gy)
      subst ex
      exact ⟨ow, B, .cons gyd (.cons (.tup g3 g4) hp)⟩
theorem src_lst {l : Addr} {ds : List D} : SrcOk K (Itl K l) (.ref l) (.list ds) ds := fun M σ H ρ pv pd A => by
  obtain ⟨ow, B, hp⟩ := A
  cases hp with
  | cons g3 hp =>
    cases g3 with
    | @lst _ ys _ g3 g4 =>
      have hS : SqL K H l ys := .of (hide_le _ _ g3)
      refine ⟨fun i hi => ?_, ⟨ys, hS, by rw [g4.length]; omega⟩⟩
      obtain ⟨y, gy, gyd⟩ := g4.get (List.getElem?_eq_getElem hi)
      refine ⟨⟨ys, y, hS, gy⟩, fun x H' hy => ?_⟩
      obtain ⟨rfl, fv⟩ := hy
      have ex : x = y := Option.some.inj ((fv _ hS).symm.trans gy)
      subst ex
      exact ⟨ow, B, .cons gyd (.cons (.lst g3 g4) hp)⟩
theorem src_rng {lo : Int} {n : Nat} {v : V} {d : D} : SrcOk K (Itr lo n) v d (rngD lo n) := fun M σ H ρ pv pd A => by
  refine ⟨fun i hi => ?_, by rw [rngD_len]; exact Nat.le_refl n⟩
  have hi' : i < n := by rwa [rngD_len] at hi
  refine ⟨hi', fun x H' hy => ?_⟩
  obtain ⟨rfl, rfl⟩ := hy
  obtain ⟨ow, B, hp⟩ := A
  have e : (rngD lo n)[i] = .int (lo + (i : Nat)) := (rngD_get (List.getElem?_eq_getElem hi)).2
  rw [e]
  exact ⟨ow, B, .cons (.int _) hp⟩
theorem At.dum {M : Amb} {σ : L2.St} {H : Hp} {ρ : Rho} {pv : List V} {pd : List D} (A : At K M σ H ρ pv pd) : At K M σ H ρ (.non :: pv) (.none :: pd) := by
  obtain ⟨ow, B, hp⟩ := A
  exact ⟨ow, B, .cons .non hp⟩
theorem di_tup (hi : DE X e ta wa) : DI X tg e (iTup X.K ta) (wiTup wa) := ⟨pi_tup hi.pe, fun M σ H ρ pv pd P R A h q => by
  refine hi.sd M σ H ρ pv pd _ _ A h fun v d H1 ρ1 A1 h1 => ?_
  obtain ⟨ds, rfl⟩ : ∃ ds, d = .tuple ds := by cases d <;> first | exact ⟨_, rfl⟩ | exact h1.elim
  have A2 := A1
  obtain ⟨ow, B, hp⟩ := A1
  cases hp with
  | cons g1 hp =>
    cases g1 with
    | @tup l xs _ g1 g2 => exact ⟨l, rfl, ⟨xs, same_t hide_le g1⟩, q _ _ _ _ _ _ A2 src_tup h1⟩⟩
theorem di_lst (hi : DE X e ta wa) : DI X tg e (iList X.K ta) (wiLst wa) := ⟨pi_list hi.pe, fun M σ H ρ pv pd P R A h q => by
  refine hi.sd M σ H ρ pv pd _ _ A h fun v d H1 ρ1 A1 h1 => ?_
  obtain ⟨ds, rfl⟩ : ∃ ds, d = .list ds := by cases d <;> first | exact ⟨_, rfl⟩ | exact h1.elim
  have A2 := A1
  obtain ⟨ow, B, hp⟩ := A1
  cases hp with
  | cons g1 hp =>
    cases g1 with
    | @lst l xs _ g1 g2 => exact ⟨l, rfl, ⟨xs, .of (hide_le _ _ g1)⟩, q _ _ _ _ _ _ A2 src_lst h1⟩⟩
theorem di_rng1 (hgl : Gl X "range") (hm : X.mg "range" = none) (ha : DA X [a] t wr) (hs : starEach [a] X.env = [(false, eval a X.env)] := by rfl) : DI X tg (.Call (.Name "range" p) [a] [] p2) (iRng1 t) (wiR1 wr) := ⟨pi_range1 hgl hm ha.pa hs, fun M σ H ρ pv pd P R A h q => by
  refine ha.sd M σ H ρ pv pd _ _ A h fun vs ds H1 ρ1 hl A1 h1 => ?_
  split at h1
  · next j =>
    have A2 := (At.popA A1 hl).dum
    obtain ⟨ow, B, hp⟩ := A1
    obtain ⟨v, rfl, gv⟩ := da1 (DvAll.split hl hp).1
    cases gv
    exact ⟨j, rfl, h1.1.1, h1.1.2, q _ _ _ _ _ _ A2 src_rng h1.2⟩
  · exact h1.elim⟩
theorem di_rng2 (hgl : Gl X "range") (hm : X.mg "range" = none) (ha : DA X [a, b] t wr) (hs : starEach [a, b] X.env = [(false, eval a X.env), (false, eval b X.env)] := by rfl) (hs2 : starEach [b] X.env = [(false, eval b X.env)] := by rfl) : DI X tg (.Call (.Name "range" p) [a, b] [] p2) (iRng2 t) (wiR2 wr) := ⟨pi_range2 hgl hm ha.pa hs hs2, fun M σ H ρ pv pd P R A h q => by
  refine ha.sd M σ H ρ pv pd _ _ A h fun vs ds H1 ρ1 hl A1 h1 => ?_
  split at h1
  · next i j =>
    have A2 := (At.popA A1 hl).dum
    obtain ⟨ow, B, hp⟩ := A1
    obtain ⟨v, v', rfl, gv, gv'⟩ := da2 (DvAll.split hl hp).1
    cases gv
    cases gv'
    exact ⟨i, j, rfl, ⟨h1.1.1, h1.1.2, h1.2.1.1, h1.2.1.2⟩, q _ _ _ _ _ _ A2 src_rng h1.2.2⟩
  · exact h1.elim⟩
end
section
variable {X : Cx} {K : Fg} {a b c e : Expr} {es : List Expr} {ta tb : TE} {wa wb : WE} {tt : TT} {wt : WT} {t : TA} {wr : WA} {pos p p2 : Pos} {g : TG} {wg : WG} {st : Stmt} {sts sts2 : List Stmt} {ts tu : TS} {w u : WS}
theorem dss_nil : DSs X [] tNext wNext := ⟨pss_nil, fun M σ H ρ pv pd DD HD A h F => F.nx σ H ρ A h⟩
theorem snds_seq (h1 : SndS K ts w) (h2 : SndS K tu u) : SndS K (tSeq ts tu) (wSeq w u) := fun M σ H ρ pv pd DD HD A h F =>
  h1 M σ H ρ pv pd _ { HD with nx := tu HD } A h ⟨fun σ' H' ρ' A' h' => h2 M σ' H' ρ' pv pd _ _ A' h' F, F.rt, F.bk, F.ct⟩
theorem dss_cons (h1 : DS X st ts w) (h2 : DSs X sts tu u) : DSs X (st :: sts) (tSeq ts tu) (wSeq w u) := ⟨pss_cons h1.ps h2.ps, snds_seq h1.sd h2.sd⟩
theorem dss_one (h1 : DS X st ts w) : DSs X [st] ts w := ⟨pss_one h1.ps, h1.sd⟩
theorem ds_pass : DS X (.Pass pos) tNext wNext := ⟨ps_pass, fun M σ H ρ pv pd DD HD A h F => F.nx σ H ρ A h⟩
theorem ds_break : DS X (.Break pos) tBreak wBreak := ⟨ps_break, fun M σ H ρ pv pd DD HD A h F => F.bk σ H ρ A h⟩
theorem ds_cont : DS X (.Continue pos) tCont wCont := ⟨ps_continue, fun M σ H ρ pv pd DD HD A h F => F.ct σ H ρ A h⟩
theorem ds_never : DS X st tNever wNever := ⟨ps_never, fun M σ H ρ pv pd DD HD A h F => h.elim⟩
theorem dss_never : DSs X sts tNever wNever := ⟨pss_never, fun M σ H ρ pv pd DD HD A h F => h.elim⟩
theorem ds_doc {x : Str} {j pos'} : DS X (.Expr (.Constant (.str x) j pos) pos') tNext wNext := ⟨ps_doc, fun M σ H ρ pv pd DD HD A h F => F.nx σ H ρ A h⟩
theorem snds_asg (ha : Snd K ta wa) (hg : SndG K g wg) : SndS K (tAsg ta g) (wAsg wa wg) := fun M σ H ρ pv pd DD HD A h F =>
  ha M σ H ρ pv pd _ _ A h fun v d H1 ρ1 A1 h1 => hg M σ H1 ρ1 pv pd v d _ _ A1 h1 fun σ' H' ρ' A' h' => F.nx σ' H' ρ' A' h'
theorem ds_set {i : Nat} {x : Str} {pos' : Pos} (hN : X.N.Nodup) (he : DE X e ta wa) (hi : X.N[i]? = some x := by rfl) (hx : Loc X.env.scope x := by first | exact .inl rfl | exact .inr rfl) (hs : swapsWith e (some (.Name x pos')) pos.line X.env = pure false := by rfl)
    (hf : X.fn x = true ∨ X.env.scope.names.lookup x = some .local := by first | exact .inl rfl | exact .inr rfl | assumption) : DS X (.Assign [.Name x pos'] e pos) (tAsg ta (gName i)) (wAsg wa (wgName i)) := ⟨ps_set hN hi hx he.pe hs hf, snds_asg he.sd (sndg_name i)⟩
theorem ds_asg {tg : Expr} (he : DE X e ta wa) (hg : DG X tg g wg) (hs : swapsWithSole [tg] e pos.line X.env = pure false := by rfl) (hw : swappedStores [tg] e X.env = pure none := by rfl) (h1 : (assignEach [tg] X.env).map (·.2) = [assign tg X.env] := by rfl) : DS X (.Assign [tg] e pos) (tAsg ta g) (wAsg wa wg) := ⟨ps_asg he.pe hg.pg hs hw h1, snds_asg he.sd hg.sd⟩
theorem ds_keep {i : Nat} {x : Str} {pos' : Pos} {wf : WF} (hN : X.N.Nodup) (he : DF X e ta wf) (hi : X.N[i]? = some x := by rfl) (hx : Loc X.env.scope x := by first | exact .inl rfl | exact .inr rfl) (hs : swapsWith e (some (.Name x pos')) pos.line X.env = pure false := by rfl)
    (hf : X.fn x = true ∨ X.env.scope.names.lookup x = some .local := by first | exact .inl rfl | exact .inr rfl | assumption) : DS X (.Assign [.Name x pos'] e pos) (tAsg ta (gName i)) (wKeep i wf) := ⟨ps_set hN hi hx he.pe hs hf, fun M σ H ρ pv pd DD HD A h F =>
  he.sd M σ H ρ pv pd _ _ A h fun p ds H' ρ' A' h' => F.nx _ _ _ (A'.keep i) h'⟩
theorem ds_expr (he : DE X e ta wa) (hs : swapsWith e none pos.line X.env = pure false := by rfl) : DS X (.Expr e pos) (tDrop ta) (wDrop wa) := ⟨ps_expr he.pe hs, fun M σ H ρ pv pd DD HD A h F => he.sd M σ H ρ pv pd _ _ A h fun v d H' ρ' A' h' => F.nx _ _ _ A'.pop h'⟩
theorem ds_ret (he : DE X e ta wa) : DS X (.Return (some e) pos) (tRet ta) (wRet wa) := ⟨ps_ret he.pe, fun M σ H ρ pv pd DD HD A h F => he.sd M σ H ρ pv pd _ _ A h fun v d H' ρ' A' h' => by
  obtain ⟨ow, B, hp⟩ := A'
  cases hp with
  | cons g1 g2 => exact F.rt v d H' B.evo B.cok (g1.mono (hide_same fun b o n h => ⟨fun z => n (.inl z), h⟩)) h'⟩
theorem ds_retN : DS X (.Return none pos) tRetN wRetN := ⟨ps_retN, fun M σ H ρ pv pd DD HD A h F => by
  obtain ⟨ow, B, hp⟩ := A
  exact F.rt _ _ H B.evo B.cok .non h⟩
theorem ds_if {c : Expr} (hc : DT X c tt wt) (ha : DSs X sts ts w) (hb : DSs X sts2 tu u) : DS X (.If c sts sts2 pos) (tIfS tt ts tu) (wIfS wt w u) := ⟨ps_if hc.pt ha.ps hb.ps, fun M σ H ρ pv pd DD HD A h F => by
  refine hc.sd M σ H ρ pv pd _ _ A h fun b H1 ρ1 A1 h1 => ?_
  cases b with
  | true =>
    rw [if_pos rfl] at h1 ⊢
    exact ha.sd M σ H1 ρ1 pv pd _ _ A1 h1 F
  | false =>
    rw [if_neg Bool.false_ne_true] at h1 ⊢
    exact hb.sd M σ H1 ρ1 pv pd _ _ A1 h1 F⟩
theorem ds_par {i j : Nat} {x y : Str} {px py pt : Pos} {kt k2 pt2} (hc : X.calm = true) (hN : X.N.Nodup) (ha : DA X [a, b] t wr) (hi : X.N[i]? = some x := by rfl) (hj : X.N[j]? = some y := by rfl) (hij : i ≠ j := by decide)
    (hx : X.env.scope.names.lookup x = some .local := by rfl) (hy : X.env.scope.names.lookup y = some .local := by rfl)
    (hw : swappedStores [.Tuple [.Name x px, .Name y py] kt pt] (.Tuple [a, b] k2 pt2) X.env = pure (some [x, y]) := by rfl)
    (hs : swapsWithSole [.Tuple [.Name x px, .Name y py] kt pt] (.Tuple [a, b] k2 pt2) pos.line X.env = pure false := by rfl) :
    DS X (.Assign [.Tuple [.Name x px, .Name y py] kt pt] (.Tuple [a, b] k2 pt2) pos) (tPar i j t) (wPar i j wr) := ⟨ps_par hc hN hi hj hij hx hy ha.pa hw hs, fun M σ H ρ pv pd DD HD A h F => by
  refine ha.sd M σ H ρ pv pd _ _ A h fun vs ds H1 ρ1 hl A1 h1 => ?_
  match ds, vs, hl, A1, h1 with
  | [d1, d2], [v1, v2], _, A1, h1 =>
    refine ⟨v1, v2, rfl, F.nx _ _ _ (At.put (At.put A1 i rfl rfl) j rfl rfl) h1⟩⟩
theorem snds_aug {i : Nat} {r : TIp} {w2 : D → D → (D → Prop) → Prop} (h2 : Sn2 K r w2) (ha : Snd K ta wa) : SndS K (tAug i ta r) (wAug i w2 wa) := fun M σ H ρ pv pd DD HD A h F => by
  unfold wAug at h
  split at h
  · next x e =>
    obtain ⟨ow, B, hp⟩ := A
    obtain ⟨v, h1, g1⟩ := B.val i x e
    refine ⟨v, h1, ?_⟩
    refine ha M σ H ρ (v :: pv) (x :: pd) _ _ ⟨ow, B, .cons g1 hp⟩ h fun y dy H1 ρ1 A1 h1 => ?_
    obtain ⟨ow1, B1, hp1⟩ := A1
    cases hp1 with
    | cons gy hp1 =>
      cases hp1 with
      | cons gx hp1 =>
        refine h2 M.lc (hdO M ow1) H1 v y x dy _ _ B1.hall gx gy h1 fun z d H' e g pp => ?_
        refine F.nx _ _ _ (At.put (v := z) (d := d) ⟨ow1, B1.step (.of e) (B1.cok.mono e), .cons g (hp1.mono (B1.vis (.of e)))⟩ i rfl rfl) pp
  · exact h.elim
theorem ds_aug {i : Nat} {x : Str} {op : Operator} {r : TIp} {w2 : D → D → (D → Prop) → Prop} {pos' : Pos} (hN : X.N.Nodup) (ho : PIp X op r) (h2 : Sn2 X.K r w2) (he : DE X e ta wa) (hi : X.N[i]? = some x := by rfl) (hx : Loc X.env.scope x := by first | exact .inl rfl | exact .inr rfl)
    (hf : X.fn x = true ∨ X.env.scope.names.lookup x = some .local := by first | exact .inl rfl | exact .inr rfl | assumption) : DS X (.AugAssign (.Name x pos') op e pos) (tAug i ta r) (wAug i w2 wa) := ⟨ps_aug hN hi hx he.pe ho hf, snds_aug h2 he.sd⟩
theorem ds_while {c : Expr} (hp : PassesOwn (model X.prog X.w) X.A X.env X.xe) (hc : DT X c tt wt) (hb : DSs X sts ts w) : DS X (.While c sts [] pos) (tWhile tt ts) (wWhile wt w) := ⟨ps_while hp hc.pt hb.ps, fun M σ H ρ pv pd DD HD A h F => by
  obtain ⟨I, μ, h0, hs⟩ := h
  refine ⟨fun m σ' H' => ∃ ρ', At X.K M σ' H' ρ' pv pd ∧ I ρ' ∧ μ ρ' = m, ⟨_, ρ, A, h0, rfl⟩, ?_⟩
  rintro m σ1 H1 ⟨ρ1, A1, i1, rfl⟩
  refine hc.sd M σ1 H1 ρ1 pv pd _ _ A1 (hs ρ1 i1) fun b H2 ρ2 A2 h2 => ?_
  cases b with
  | true =>
    rw [if_pos rfl] at h2 ⊢
    refine ⟨fun σ' H' => ∃ ρ', At X.K M σ' H' ρ' pv pd ∧ I ρ' ∧ μ ρ' < μ ρ1, fun σ' H' ⟨ρ', A', i', l⟩ => ⟨_, l, ρ', A', i', rfl⟩, ?_⟩
    exact hb.sd M σ1 H2 ρ2 pv pd _ _ A2 h2 ⟨fun σ' H' ρ' A' h' => ⟨ρ', A', h'⟩, F.rt, F.nx, fun σ' H' ρ' A' h' => ⟨ρ', A', h'⟩⟩
  | false =>
    rw [if_neg Bool.false_ne_true] at h2 ⊢
    exact F.nx _ _ _ A2 h2⟩
/-- what a loop or a comprehension walks: the items as data -/
theorem ds_for {iter : Expr} {wi : TI} {wI : Rho → (List D → Rho → Prop) → Prop} (hN : PassesOwn (model X.prog X.w) X.A X.env X.xe) (hc : X.calm = true) (hi : DI X a iter wi wI) (hg : DG X a g wg) (hb : DSs X sts ts w) (hfs : ∀ x, foldedSetIterable iter X.env x = pure x := by intro _; rfl) :
    DS X (.For a iter sts [] pos) (tFor wi g ts) (wFor wI wg w) := ⟨ps_for hN hc hi.pi hg.pg hb.ps hfs, fun M σ H ρ pv pd DD HD A h F => by
  refine hi.sd M σ H ρ pv pd _ _ A h fun J H1 ρ1 v d ds A1 sk h1 => ?_
  obtain ⟨I, h0, hs, hd⟩ := h1
  refine ⟨fun i m σ' H' => ∃ ρ', At X.K M σ' H' ρ' (v :: pv) (d :: pd) ∧ I i ρ' ∧ i + m = ds.length, ⟨ds.length, ρ1, A1, h0, by omega⟩, ?_⟩
  rintro i m σ2 H2 ⟨ρ2, A2, i2, em⟩
  by_cases hi : i < ds.length
  · obtain ⟨g1, g2⟩ := (sk M σ2 H2 ρ2 pv pd A2).1 i hi
    refine .inr ⟨g1, fun σ' H' => ∃ ρ', At X.K M σ' H' ρ' (v :: pv) (d :: pd) ∧ I (i + 1) ρ', fun σ' H' ⟨ρ', A', i'⟩ => ⟨m - 1, by omega, ρ', A', i', by omega⟩, fun x H' hy => ?_⟩
    refine hg.sd M σ2 _ ρ2 (v :: pv) (d :: pd) x ds[i] _ _ (g2 x H' hy) (hs i ds[i] ρ2 (List.getElem?_eq_getElem hi) i2) fun σ' H'' ρ' A' h' => ?_
    exact hb.sd M σ' H'' ρ' _ _ _ _ A' h' ⟨fun σ' H' ρ' A' h' => ⟨ρ', A', h'⟩, F.rt, fun σ' H' ρ' A' h' => F.nx _ _ _ A'.pop h', fun σ' H' ρ' A' h' => ⟨ρ', A', h'⟩⟩
  · have ei : i = ds.length := by omega
    subst ei
    exact .inl ⟨(sk M σ2 H2 ρ2 pv pd A2).2, F.nx _ _ _ A2.pop (hd _ i2)⟩⟩
end

/-! ## a def -/
def env0 (N : List Str) (ds : List D) : Rho := ds.map .val ++ List.replicate (N.length - ds.length) .un
theorem look_val : ∀ (ds : List D) (n i : Nat) (d : D), look (ds.map .val ++ List.replicate n .un) i = .val d → ds[i]? = some d
  | [], n, i, d, h => by
    exfalso
    induction n generalizing i with
    | zero => exact nomatch h
    | succ n ih =>
      cases i with
      | zero => exact nomatch h
      | succ i => exact ih i h
  | c :: ds, n, 0, d, h => by
    have : Slot.val c = .val d := h
    cases this
    rfl
  | c :: ds, n, i + 1, d, h => look_val ds n i d h
theorem look_own : ∀ (ds : List D) (n i : Nat) (es : List D), look (ds.map .val ++ List.replicate n .un) i ≠ .own es
  | [], n, i, es, h => by
    induction n generalizing i with
    | zero => exact nomatch h
    | succ n ih =>
      cases i with
      | zero => exact nomatch h
      | succ i => exact ih i h
  | c :: ds, n, 0, es, h => nomatch h
  | c :: ds, n, i + 1, es, h => look_own ds n i es h
section
variable {P : Program} {w : World} {K : Fg} {mg : Str → Option Value} {base : Heap}
theorem at_start {N : List Str} {lc : Option Addr} {hc hd : Addr → Prop} {H : Hp} {vs : List V} {ds : List D} (g : DvAll K lc (hide hd H) vs ds) (c : Cok K lc hc H) (s : ∀ b, hc b → hd b) (al : ∀ b, hd b → H b ≠ none) :
    At K ⟨lc, hc, hd, H, []⟩ (L2.start N vs) H (env0 N ds) [] [] := by
  have vis : Same (hide hd H) (hide (hdO ⟨lc, hc, hd, H, []⟩ fun _ => none) H) := hide_same fun b o n h => ⟨fun z => by
    rcases z with z | ⟨i, z⟩ | ⟨es, z⟩
    · exact n z
    · exact (nomatch z)
    · exact (nomatch z), h⟩
  refine ⟨fun _ => none, ?_, .nil⟩
  exact {
    evo := .refl H
    cok := c
    sub := s
    all := al
    len := by simp [L2.start, env0, g.length]
    val := fun i d h => by
      have e := look_val ds _ i d h
      obtain ⟨v, e1, e2⟩ := g.get e
      refine ⟨v, ?_, e2.mono vis⟩
      have hlt : i < vs.length := (List.getElem?_eq_some_iff.mp e1).1
      unfold L2.start
      rw [List.getElem?_append_left (by simpa using hlt), List.getElem?_map, e1]
      rfl
    own := fun i es h => absurd h (look_own ds _ i es)
    fre := fun i p h => nomatch h
    inj := fun i j p h => nomatch h
    gho := fun p es h => nomatch h
    gnd := .nil }
/-- THE RULE for a def -/
theorem fn_ok {x qual : Str} {st : Stmt} {f : Addr} {fd : FuncData} {N ps : List Str} {k : Nat} {pre : List D → Prop} {post : List D → D → Prop} (F : Fun K x qual st f fd) (S : FnScope N ps (defScope st)) (len : ∀ ds, pre ds → ds.length = ps.length)
    (body : ∀ (cdv : Value) (A : Around) (outer : List PySem.Env) (s : Shared) (H : Hp) (E : XK), Room k (A.deeper (envOfC qual (defScope st) s.heap.objs.size f cdv)) →
      ∃ t u, DSs (cxOf CX0 P w K mg base N qual (defScope st) f cdv A outer s H E).nox (defBody st) t u ∧ ∀ ds, pre ds → u { nx := fun _ => post ds .none, rt := post ds } (env0 N ds)) :
    FnOk P w K mg base CX0 (k + 1) f fd ps (SpD K pre post) := by
  refine F.ok S (fun vs H Q E h => ?_) (fun cdv A outer s H vs Q E hr h => ?_)
  · obtain ⟨lc, hc, hd, ds, g, c, sb, al, p, q⟩ := h
    rw [g.length]
    exact len ds p
  · obtain ⟨lc, hc, hd, ds, g, c, sb, al, p, q⟩ := h
    obtain ⟨t, u, b, hu⟩ := body cdv A outer s H E hr
    refine ⟨t, b.ps, b.sd ⟨lc, hc, hd, H, []⟩ (L2.start N vs) H (env0 N ds) [] [] _ _ (at_start g c sb al) (hu ds p) ⟨fun σ' H' ρ' A' h' => ?_, fun v d H' e c' g' h' => q v d H' e c' g' h', fun _ _ _ _ h => h.elim, fun _ _ _ _ h => h.elim⟩⟩
    obtain ⟨ow, B, _⟩ := A'
    exact q _ _ H' B.evo B.cok .non h'
end
end DL

namespace DL
open PySem PySem.Spec PyProof.Rows L2

/-! ## comprehensions -/
theorem put_put : ∀ (ρ : Rho) (i : Nat) (s t : Slot), put (put ρ i s) i t = put ρ i t
  | [], _, _, _ => rfl
  | _ :: r, 0, _, _ => rfl
  | x :: r, n + 1, s, t => congrArg (x :: ·) (put_put r n s t)
section
variable {X : Cx} {K : Fg} {M : Amb} {H H' : Hp} {σ : L2.St} {ρ : Rho} {pv : List V} {pd : List D} {ow : Nat → Option Addr} {p : Addr} {ds : List D}
/-- nothing is known of slot i any more -/
theorem At.unset (A : At K M σ H ρ pv pd) (i : Nat) {σ' : L2.St} (hl : σ'.length = σ.length) (e : ∀ j, j ≠ i → σ'[j]? = σ[j]?) : At K M σ' H (DL.put ρ i .un) pv pd := by
  obtain ⟨ow, A, h⟩ := A
  refine ⟨owOff ow i, ?_, h.mono (vis_off ow i H)⟩
  exact {
    evo := A.evo
    cok := A.cok
    sub := A.sub
    all := A.all
    len := by rw [put_length, hl]; exact A.len
    val := fun j d hj => by
      by_cases hji : j = i
      · subst hji
        rcases look_put ρ j .un with z | z <;> (rw [z] at hj; cases hj)
      · rw [look_put_ne _ _ _ _ hji] at hj
        obtain ⟨u, g1, g2⟩ := A.val j d hj
        exact ⟨u, by rw [e j hji]; exact g1, g2.mono (vis_off ow i H)⟩
    own := fun j es hj => by
      by_cases hji : j = i
      · subst hji
        rcases look_put ρ j .un with z | z <;> (rw [z] at hj; cases hj)
      · rw [look_put_ne _ _ _ _ hji] at hj
        obtain ⟨p', xs', g1, g2, g3, g4⟩ := A.own j es hj
        exact ⟨p', xs', by rw [owOff_ne ow hji]; exact g1, by rw [e j hji]; exact g2, g3, g4.mono (vis_off ow i H)⟩
    fre := fun j p hj => A.fre j p (owOff_some hj).2
    inj := fun j k p hj hk => A.inj j k p (owOff_some hj).2 (owOff_some hk).2
    gho := fun p ds h => by
      obtain ⟨h1, h2, xs, h3, h4⟩ := A.gho p ds h
      exact ⟨h1, fun j hj => h2 j (owOff_some hj).2, xs, h3, h4.mono (vis_off ow i H)⟩
    gnd := A.gnd }
theorem hdO_swap {ds es : List D} {b : Addr} (h : hdO (M.plus p ds) ow b) : hdO (M.plus p es) ow b := by
  rcases h with h | h | ⟨cs, h⟩
  · exact .inl h
  · exact .inr (.inl h)
  · rcases List.mem_cons.mp h with e | h
    · cases e
      exact .inr (.inr ⟨es, List.mem_cons_self ..⟩)
    · exact .inr (.inr ⟨cs, List.mem_cons_of_mem _ h⟩)
/-- a list that is being made gets another content -/
theorem AtW.ghset {es : List D} {ys : List V} (A : AtW K (M.plus p ds) σ H ρ ow) (g : DvAll K M.lc (hide (hdO (M.plus p ds) ow) H) ys es) : AtW K (M.plus p es) σ (upd H p (.lst ys)) ρ ow ∧ Same (hide (hdO (M.plus p ds) ow) H) (hide (hdO (M.plus p es) ow) (upd H p (.lst ys))) := by
  obtain ⟨h1, h2, xs, h3, h4⟩ := A.gho p ds (List.mem_cons_self ..)
  have hid : hdO (M.plus p ds) ow p := .inr (.inr ⟨ds, List.mem_cons_self ..⟩)
  have vis : Same (hide (hdO (M.plus p ds) ow) H) (hide (hdO (M.plus p es) ow) (upd H p (.lst ys))) := hide_same fun b o n h => by
    have hb : b ≠ p := fun z => n (z ▸ hid)
    exact ⟨fun z => n (hdO_swap z), by rw [upd_ne hb]; exact h⟩
  have nl : M.lc ≠ some p := A.nel h1
  have nd : ¬ M.hd p := A.ne h1
  refine ⟨?_, vis⟩
  exact {
    evo := fun b o n h => by
      have hb : b ≠ p := fun z => by
        subst z
        have : (M.plus b es).H0 b = none := h1
        rw [this] at h; cases h
      rw [upd_ne hb]; exact A.evo b o n h
    cok := fun b hb => by
      obtain ⟨⟨q, ns, pos, dig, cnt, e1, e2, e3, e4, e5, e6⟩, e7⟩ := A.cok b hb
      have hbp : b ≠ p := fun z => nl (z ▸ hb)
      have hqp : q ≠ p := fun z => nd (z ▸ A.sub q e6)
      refine ⟨⟨q, ns, pos, dig, cnt, by rw [upd_ne hbp]; exact e1, ?_, e3, e4, e5, e6⟩, e7⟩
      rcases e2 with (e2 | ⟨o, e2⟩) | e2
      · exact .inl (.inl (by rw [upd_ne hqp]; exact e2))
      · exact .inl (.inr ⟨o, by rw [upd_ne hqp]; exact e2⟩)
      · exact .inr e2
    sub := A.sub
    all := A.all
    len := A.len
    val := fun j d hj => by
      obtain ⟨u, g1, g2⟩ := A.val j d hj
      exact ⟨u, g1, g2.mono vis⟩
    own := fun j cs hj => by
      obtain ⟨p', xs', g1, g2, g3, g4⟩ := A.own j cs hj
      have hb : p' ≠ p := fun z => h2 j (z ▸ g1)
      exact ⟨p', xs', g1, g2, by rw [upd_ne hb]; exact g3, g4.mono vis⟩
    fre := fun j q hj => by
      have hb : q ≠ p := fun z => h2 j (z ▸ hj)
      rw [upd_ne hb]
      exact A.fre j q hj
    inj := A.inj
    gho := fun q cs h => by
      rcases List.mem_cons.mp h with z | z
      · cases z
        exact ⟨h1, h2, ys, upd_same, g.mono vis⟩
      · obtain ⟨k1, k2, zs, k3, k4⟩ := A.gho q cs (List.mem_cons_of_mem _ z)
        have hb : q ≠ p := fun w => by
          subst w
          exact (List.nodup_cons.mp A.gnd).1 (List.mem_map_of_mem (f := (·.1)) z)
        exact ⟨k1, k2, zs, by rw [upd_ne hb]; exact k3, k4.mono vis⟩
    gnd := A.gnd }
theorem At.grow {v : V} {d : D} {xs : List V} (A : At K (M.plus p ds) σ H ρ (v :: pv) (d :: pd)) (e : H p = some (.lst xs)) : At K (M.plus p (ds ++ [d])) σ (upd H p (.lst (xs ++ [v]))) ρ pv pd := by
  obtain ⟨ow, A, h⟩ := A
  obtain ⟨h1, h2, xs', h3, h4⟩ := A.gho p ds (List.mem_cons_self ..)
  cases h3.symm.trans e
  cases h with
  | cons g1 g2 =>
    obtain ⟨B, vis⟩ := A.ghset (h4.app (.cons g1 .nil))
    exact ⟨ow, B, g2.mono vis⟩
theorem At.gh (A : At K (M.plus p ds) σ H ρ pv pd) : ∃ xs, H p = some (.lst xs) ∧ xs.length = ds.length := by
  obtain ⟨ow, A, h⟩ := A
  obtain ⟨h1, h2, xs, h3, h4⟩ := A.gho p ds (List.mem_cons_self ..)
  exact ⟨xs, h3, h4.length⟩
end
def wCompD (ds : List D) (i : Nat) (wt : WT) (we : WE) : WF := fun ρ P => ∃ I : Nat → List D → Prop, I 0 [] ∧
  (∀ j x acc, ds[j]? = some x → I j acc → wt (put ρ i (.val x)) fun b ρ2 => ρ2 = put ρ i (.val x) ∧ if b = true then we ρ2 fun y ρ3 => ρ3 = put ρ i (.val x) ∧ acc.length < 100000 ∧ I (j + 1) (acc ++ [y]) else I (j + 1) acc) ∧
  ∀ acc, I ds.length acc → P acc (put ρ i .un)
def wComp (wI : WI) (i : Nat) (wt : WT) (we : WE) : WF := fun ρ P => wI ρ fun ds ρ1 => wCompD ds i wt we ρ1 P
def wYes : WT := fun ρ P => P true ρ
structure DTs (X : Cx) (ifs : List Expr) (t : TT) (w : WT) : Prop where
  pt : PTs X ifs t
  sd : SndT X.K t w
theorem dts_nil {X : Cx} : DTs X [] tYes wYes := ⟨pts_nil, fun M σ H ρ pv pd P Q A h q => q true H ρ A h⟩
theorem dts_one {X : Cx} {c : Expr} {t : TT} {w : WT} (h : DT X c t w) : DTs X [c] t w := ⟨pts_one h.pt, h.sd⟩
/-- the same in a block, whose own reading says nothing of the block's start -/
structure DEb (X : Cx) (e : Expr) (t : TE) (w : WE) : Prop where
  ex : ∃ t', DE X e t' w ∧ t' = t
structure DTb (X : Cx) (ifs : List Expr) (t : TT) (w : WT) : Prop where
  ex : ∃ t', DTs X ifs t' w ∧ t' = t
theorem DEb.de {X : Cx} {e : Expr} {t : TE} {w : WE} (h : DEb X e t w) : DE X e t w := by
  obtain ⟨t', h1, rfl⟩ := h.ex
  exact h1
theorem DTb.dt {X : Cx} {e : List Expr} {t : TT} {w : WT} (h : DTb X e t w) : DTs X e t w := by
  obtain ⟨t', h1, rfl⟩ := h.ex
  exact h1
theorem df_comp {X : Cx} {elt tg iter : Expr} {ifs : List Expr} {scope : Scope} {i : Nat} {x : Str} {pos : Pos} {wi : TI} {tt : TT} {te : TE} {wI : WI} {wt : WT} {we : WE} (hc : X.calm = true) (hN : X.N.Nodup) (hi : DI X tg iter wi wI) (ok : BlkOk X.N X.env.scope scope [(x, i)])
    (hg : ∀ (s : Shared) (H : Hp) (C : Addr) (cl : List (Str × Addr)) (fp : List Addr), PG (X.blk s H scope (compEnvC scope cl C X.env) fp) tg (gName i)) (ht' : ∀ (s : Shared) (H : Hp) (C : Addr) (cl : List (Str × Addr)) (fp : List Addr), DTb (X.blk s H scope (compEnvC scope cl C X.env) fp) ifs tt wt)
    (he' : ∀ (s : Shared) (H : Hp) (C : Addr) (cl : List (Str × Addr)) (fp : List Addr), DEb (X.blk s H scope (compEnvC scope cl C X.env) fp) elt te we) (hs : ∀ x, foldedSetIterable iter X.env x = pure x := by intro _; rfl) :
    DF X (.ListComp elt [⟨tg, iter, ifs, 0⟩] scope pos) (tLc wi (gName i) tt te [i]) (wComp wI i wt we) := by
  have ht := fun s H C cl fp => (ht' s H C cl fp).dt
  have he := fun s H C cl fp => (he' s H C cl fp).de
  have sT : SndT X.K tt wt := (ht X.s_0 (fun _ => none) 0 [] []).sd
  have sE : Snd X.K te we := (he X.s_0 (fun _ => none) 0 [] []).sd
  refine ⟨pe_lc (own := [(x, i)]) (g := gName i) hc hN hi.pi ok hg (fun s H C cl fp => (ht s H C cl fp).pt) (fun s H C cl fp => (he s H C cl fp).pe) hs, fun M σ H ρ pv pd P Q A h q => ?_⟩
  refine hi.sd M σ H ρ pv pd _ _ A h fun J H1 ρ1 v d ds A1 sk h1 => ?_
  obtain ⟨I, h0, hs, hd⟩ := h1
  intro D0 hD
  have w0 : ∀ σ' : L2.St, wipe σ' [i] = σ'.set i none := fun σ' => rfl
  have l0 : ∀ σ' : L2.St, (wipe σ' [i]).length = σ'.length := fun σ' => wipe_length _ _
  have A1' : At X.K M (wipe σ [i]) H1 (put ρ1 i .un) (v :: pv) (d :: pd) := A1.unset i (l0 σ) fun j hj => by rw [w0, List.getElem?_set_ne (fun z => hj z.symm)]
  refine ⟨fun j m H' => ∃ acc, At X.K (M.plus D0 acc) (wipe σ [i]) H' (put ρ1 i .un) (v :: pv) (d :: pd) ∧ I j acc ∧ j + m = ds.length, ⟨ds.length, [], ?_, h0, by omega⟩, ?_⟩
  · exact At.plus (vs := []) (ds := []) A1' rfl hD
  rintro j m H2 ⟨acc, A2, i2, em⟩
  by_cases hi : j < ds.length
  · obtain ⟨g1, g2⟩ := (sk _ _ H2 _ pv pd A2).1 j hi
    refine .inr ⟨g1, fun H' => ∃ acc, At X.K (M.plus D0 acc) (wipe σ [i]) H' (put ρ1 i .un) (v :: pv) (d :: pd) ∧ I (j + 1) acc, fun H' ⟨acc, A', i'⟩ => ⟨m - 1, by omega, acc, A', i', by omega⟩, fun y H' hy => ?_⟩
    have A3 : At X.K (M.plus D0 acc) ((wipe σ [i]).set i (some y)) H' (put ρ1 i (.val ds[j])) (v :: pv) (d :: pd) := by
      have := At.put (g2 y H' hy) i rfl rfl
      rwa [put_put] at this
    have back : ∀ {H' : Hp} {acc : List D}, At X.K (M.plus D0 acc) ((wipe σ [i]).set i (some y)) H' (put ρ1 i (.val ds[j])) (v :: pv) (d :: pd) → At X.K (M.plus D0 acc) (wipe σ [i]) H' (put ρ1 i .un) (v :: pv) (d :: pd) := fun {H' acc} A => by
      have := A.unset i (σ' := wipe σ [i]) (by rw [List.length_set]) fun k hk => by rw [List.getElem?_set_ne (fun z => hk z.symm)]
      rwa [put_put] at this
    refine ⟨by rw [w0, w0, List.set_set, List.set_set], ?_⟩
    refine sT _ _ _ _ _ _ _ _ A3 (hs j ds[j] acc (List.getElem?_eq_getElem hi) i2) fun b H3 ρ2 A4 h4 => ?_
    obtain ⟨rfl, h4⟩ := h4
    cases b with
    | true =>
      rw [if_pos rfl] at h4 ⊢
      refine sE _ _ _ _ _ _ _ _ A4 h4 fun z dz H4 ρ3 A5 h5 => ?_
      obtain ⟨rfl, hz, h5⟩ := h5
      obtain ⟨xs, e1, e2⟩ := A5.gh
      exact ⟨xs, e1, by rw [e2]; exact size_lt hz, _, back (A5.grow e1), h5⟩
    | false =>
      rw [if_neg Bool.false_ne_true] at h4 ⊢
      exact ⟨acc, back A4, h4⟩
  · have ei : j = ds.length := by omega
    subst ei
    refine .inl ⟨(sk _ _ H2 _ pv pd A2).2, q D0 acc H2 _ ?_ (hd acc i2)⟩
    have := A2.pop.unset i (σ' := σ) (l0 σ).symm fun k hk => by rw [w0, List.getElem?_set_ne (fun z => hk z.symm)]
    rwa [put_put] at this

/-! ## slices -/
section
variable {X : Cx} {K : Fg} {a e : Expr} {lo hi : Option Expr} {ta tb : TE} {wa wb : WE} {pos p2 : Pos}
abbrev WO := Rho → (Option Int → Rho → Prop) → Prop
def SndO (K : Fg) (t : TO) (w : WO) : Prop := ∀ (M : Amb) (σ : L2.St) (H : Hp) (ρ : Rho) (pv : List V) (pd : List D) (P : Option Int → Rho → Prop) (Q : Option Int → Hp → Prop),
  At K M σ H ρ pv pd → w ρ P → (∀ o H' ρ', At K M σ H' ρ' pv pd → P o ρ' → Q o H') → t σ H Q
structure DO (X : Cx) (e : Option Expr) (t : TO) (w : WO) : Prop where
  po : PO X e t
  sd : SndO X.K t w
def wNoPart : WO := fun ρ P => P none ρ
def wPart (wa : WE) : WO := fun ρ P => wa ρ fun d ρ1 => match d with
  | .int i => P (some i) ρ1
  | _ => False
theorem do_none : DO X none tNoPart wNoPart := ⟨po_none, fun M σ H ρ pv pd P Q A h q => q _ _ _ A h⟩
theorem do_some (h : DE X e ta wa) : DO X (some e) (tPart ta) (wPart wa) := ⟨po_some h.pe, fun M σ H ρ pv pd P Q A hw q => by
  refine h.sd M σ H ρ pv pd _ _ A hw fun v d H1 ρ1 A1 h1 => ?_
  have A2 := A1.pop
  obtain ⟨ow, B, hp⟩ := A1
  cases hp with
  | cons g1 hp =>
    cases g1 with
    | int i => exact ⟨i, rfl, q _ _ _ A2 h1⟩
    | _ => exact h1.elim⟩
def cutD (xs : List D) (lo hi : Option Int) : List D := (xs.drop (HT.sIx xs.length 0 lo)).take (HT.sIx xs.length xs.length hi - HT.sIx xs.length 0 lo)
theorem cut_dv {lc : Option Addr} {H : Hp} {ds : List D} {vs : List V} {lo hi : Option Int} (h : DvAll K lc H vs ds) : DvAll K lc H (cutV vs lo hi) (cutD ds lo hi) := by
  unfold cutV cutD
  rw [h.length]
  exact (h.drop _).take _
def wSlL (wa : WE) (w1 w2 : WO) : WF := fun ρ P => wa ρ fun d ρ1 => w1 ρ1 fun lo ρ2 => w2 ρ2 fun hi ρ3 => match d with
  | .list ds => P (cutD ds lo hi) ρ3
  | _ => False
variable {t1 t2 : TO} {w1 w2 : WO}
theorem df_slice (he : DE X e ta wa) (hl : DO X lo t1 w1) (hu : DO X hi t2 w2) : DF X (.Subscript e (.Slice lo hi none p2) pos) (tSl (rSlL X.K) ta t1 t2) (wSlL wa w1 w2) := ⟨pe_slice sl_list he.pe hl.po hu.po, fun M σ H ρ pv pd P Q A h q => by
  refine he.sd M σ H ρ pv pd _ _ A h fun v d H1 ρ1 A1 h1 => ?_
  refine hl.sd M σ H1 ρ1 _ _ _ _ A1 h1 fun lo H2 ρ2 A2 h2 => ?_
  refine hu.sd M σ H2 ρ2 _ _ _ _ A2 h2 fun hi H3 ρ3 A3 h3 => ?_
  obtain ⟨ow, B, hp⟩ := A3
  cases hp with
  | cons g1 hp =>
    obtain ⟨ds, rfl⟩ : ∃ ds, d = .list ds := by cases d <;> first | exact ⟨_, rfl⟩ | exact h3.elim
    cases g1 with
    | @lst l xs _ g1 g2 =>
      refine ⟨l, xs, rfl, .of (hide_le _ _ g1), fun p hp0 => q p _ _ _ (At.plus ⟨ow, B, (cut_dv g2).app hp⟩ (cut_dv g2).length hp0) h3⟩⟩
def wSlT (wa : WE) (w1 w2 : WO) : WE := fun ρ P => wa ρ fun d ρ1 => w1 ρ1 fun lo ρ2 => w2 ρ2 fun hi ρ3 => match d with
  | .tuple ds => P (.tuple (cutD ds lo hi)) ρ3
  | _ => False
theorem de_slice (he : DE X e ta wa) (hl : DO X lo t1 w1) (hu : DO X hi t2 w2) : DE X (.Subscript e (.Slice lo hi none p2) pos) (tSl (rSlA X.K) ta t1 t2) (wSlT wa w1 w2) := ⟨pe_slice sl_tupA he.pe hl.po hu.po, fun M σ H ρ pv pd P Q A h q => by
  refine he.sd M σ H ρ pv pd _ _ A h fun v d H1 ρ1 A1 h1 => ?_
  refine hl.sd M σ H1 ρ1 _ _ _ _ A1 h1 fun lo H2 ρ2 A2 h2 => ?_
  refine hu.sd M σ H2 ρ2 _ _ _ _ A2 h2 fun hi H3 ρ3 A3 h3 => ?_
  obtain ⟨ow, B, hp⟩ := A3
  cases hp with
  | cons g1 hp =>
    obtain ⟨ds, rfl⟩ : ∃ ds, d = .tuple ds := by cases d <;> first | exact ⟨_, rfl⟩ | exact h3.elim
    cases g1 with
    | @tup l xs _ g1 g2 =>
      refine ⟨l, xs, rfl, same_t hide_le g1, fun z => ?_, fun z p hp0 => ?_⟩
      · have e : cutD ds lo hi = ds := by
          have hl := g2.length
          rw [hl] at z
          unfold cutD
          rw [z.1, z.2]
          simp
        have h3' : P (.tuple (cutD ds lo hi)) ρ3 := h3
        rw [e] at h3'
        exact q _ _ _ _ ⟨ow, B, .cons (.tup g1 g2) hp⟩ h3'
      · have e := same_new (o := .tup (cutV xs lo hi)) hp0
        exact q _ _ _ _ ⟨ow, B.step (.of e) (B.cok.mono e), .cons (.tup (.of (new_vis B.hall hp0)) ((cut_dv g2).mono (vis_of e))) (hp.mono (B.vis (.of e)))⟩ h3⟩
end
end DL

namespace DL
open PySem PySem.Spec PyProof.Rows L2
/-- += of ints -/
def dAddI : D → D → (D → Prop) → Prop
  | .int i, .int j, P => P (.int (i + j))
  | _, _, _ => False
theorem sn2_iadd {K : Fg} : Sn2 K (rI0 fun i j => .int (i + j)) dAddI := sn2_I0 fun a b P h => by
  cases a <;> cases b <;> first | exact ⟨_, _, rfl, rfl, h⟩ | exact h.elim
def wFree (wf : WF) : WE := fun ρ P => wf ρ fun ds ρ1 => P (.list ds) ρ1
/-! ## facts about == of data -/
theorem eqOk_int (i j : Int) : eqOk (.int i) (.int j) := ⟨rfl, rfl, .inl (by simp [PyData.depth])⟩
theorem dEq_int {i j : Int} {P : D → Prop} (h : P (.bool (decide (i = j)))) : dEq (.int i) (.int j) P := ⟨eqOk_int i j, by
  have e : PyData.eqv (.int i) (.int j) = decide (i = j) := by simp [PyData.eqv, Bool.beq_eq_decide_eq]
  rw [e]; exact h⟩
theorem dNe_int {i j : Int} {P : D → Prop} (h : P (.bool (!decide (i = j)))) : dNe (.int i) (.int j) P := ⟨eqOk_int i j, by
  have e : PyData.eqv (.int i) (.int j) = decide (i = j) := by simp [PyData.eqv, Bool.beq_eq_decide_eq]
  rw [e]; exact h⟩
theorem dEq_ii {i j : Int} {P : D → Prop} : dEq (.int i) (.int j) P = P (.bool (decide (i = j))) := propext ⟨fun h => by
  have e : PyData.eqv (.int i) (.int j) = decide (i = j) := by simp [PyData.eqv, Bool.beq_eq_decide_eq]
  rw [← e]; exact h.2, dEq_int⟩
theorem dNe_ii {i j : Int} {P : D → Prop} : dNe (.int i) (.int j) P = P (.bool (!decide (i = j))) := propext ⟨fun h => by
  have e : PyData.eqv (.int i) (.int j) = decide (i = j) := by simp [PyData.eqv, Bool.beq_eq_decide_eq]
  rw [← e]; exact h.2, dNe_int⟩
theorem dIx_t {ds : List D} {i : Int} {P : D → Prop} {d : D} (h : atI ds i = some d) : dIx (.tuple ds) (.int i) P = P d := propext ⟨fun ⟨e, h1, h2⟩ => by
  rw [h] at h1; cases h1; exact h2, fun p => ⟨d, h, p⟩⟩
theorem dIx_t0 {a : D} {ds : List D} {P : D → Prop} : dIx (.tuple (a :: ds)) (.int 0) P = P a := dIx_t (atI_nat (j := 0) rfl)
theorem dIx_t1 {a b : D} {ds : List D} {P : D → Prop} : dIx (.tuple (a :: b :: ds)) (.int 1) P = P b := dIx_t (atI_nat (j := 1) rfl)
theorem dIx_t2 {a b c : D} {ds : List D} {P : D → Prop} : dIx (.tuple (a :: b :: c :: ds)) (.int 2) P = P c := dIx_t (atI_nat (j := 2) rfl)
theorem dIx_l {ds : List D} {i : Int} {P : D → Prop} {d : D} (h : atI ds i = some d) : dIx (.list ds) (.int i) P = P d := propext ⟨fun ⟨e, h1, h2⟩ => by
  rw [h] at h1; cases h1; exact h2, fun p => ⟨d, h, p⟩⟩
theorem dIx_l0 {a : D} {ds : List D} {P : D → Prop} : dIx (.list (a :: ds)) (.int 0) P = P a := dIx_l (atI_nat (j := 0) rfl)
theorem dIx_l1 {a b : D} {ds : List D} {P : D → Prop} : dIx (.list (a :: b :: ds)) (.int 1) P = P b := dIx_l (atI_nat (j := 1) rfl)
theorem dIx_l2 {a b c : D} {ds : List D} {P : D → Prop} : dIx (.list (a :: b :: c :: ds)) (.int 2) P = P c := dIx_l (atI_nat (j := 2) rfl)
theorem divOk_of {j : Int} {b : Nat} (h : j ≠ 0) (hb : j.natAbs < 2 ^ b) (h0 : 0 < b) (h9 : b ≤ 9000) : divOk j := ⟨h, Nat.lt_of_lt_of_le (PySem.Flt.log2_lt_of h0 hb) h9⟩
theorem mulOk_of {i j : Int} {a b : Nat} (ha : i.natAbs < 2 ^ a) (hb : j.natAbs < 2 ^ b) (h0 : 0 < a) (h1 : 0 < b) (h : a + b ≤ 1000000) : mulOk i j := .inr (wide_mul ha hb h0 h1 h)
end DL
namespace DL
open PySem PySem.Spec PyProof.Rows L2
theorem atI_in {α : Type} {xs : List α} {i : Int} (h0 : 0 ≤ i) (h1 : i < xs.length) : ∃ v, atI xs i = some v ∧ v ∈ xs ∧ xs[i.toNat]? = some v := by
  have hlt : i.toNat < xs.length := by omega
  refine ⟨xs[i.toNat], ?_, List.getElem_mem hlt, List.getElem?_eq_getElem hlt⟩
  have := atI_nat (xs := xs) (j := i.toNat) (v := xs[i.toNat]) (List.getElem?_eq_getElem hlt)
  rwa [Int.toNat_of_nonneg h0] at this
theorem dIx_mem {ds : List D} {i : Int} {P : D → Prop} (h0 : 0 ≤ i) (h1 : i < ds.length) (h : ∀ d, ds[i.toNat]? = some d → P d) : dIx (.list ds) (.int i) P := by
  obtain ⟨v, e, _, e2⟩ := atI_in h0 h1
  exact ⟨v, e, h v e2⟩
theorem dIx_memT {ds : List D} {i : Int} {P : D → Prop} (h0 : 0 ≤ i) (h1 : i < ds.length) (h : ∀ d, ds[i.toNat]? = some d → P d) : dIx (.tuple ds) (.int i) P := by
  obtain ⟨v, e, _, e2⟩ := atI_in h0 h1
  exact ⟨v, e, h v e2⟩
theorem wForD_of {ds : List D} {wg : WG} {wb : WS} {DD : DEnds} {ρ : Rho} (I : Nat → Rho → Prop) (h0 : I 0 ρ) (hs : ∀ i x ρ, ds[i]? = some x → I i ρ → wg x ρ fun ρ1 => wb { DD with nx := I (i + 1), ct := I (i + 1), bk := DD.nx } ρ1) (hd : ∀ ρ, I ds.length ρ → DD.nx ρ) : wForD ds wg wb DD ρ := ⟨I, h0, hs, hd⟩
theorem wForN_of {lo : Int} {n : Nat} {wg : WG} {wb : WS} {DD : DEnds} {ρ : Rho} (I : Nat → Rho → Prop) (h0 : I 0 ρ) (hs : ∀ i ρ, i < n → I i ρ → wg (.int (lo + i)) ρ fun ρ1 => wb { DD with nx := I (i + 1), ct := I (i + 1), bk := DD.nx } ρ1) (hd : ∀ ρ, I n ρ → DD.nx ρ) : wForD (rngD lo n) wg wb DD ρ :=
  ⟨I, h0, fun i x ρ hx hi => by
    obtain ⟨h1, rfl⟩ := rngD_get hx
    exact hs i ρ h1 hi, fun ρ h => hd ρ (by rwa [rngD_len] at h)⟩
theorem isi_ii (i : Int) : isiD "int" (.int i) = some true := by show kitB "int" "int" = some true; decide +kernel
theorem isi_ib (b : Bool) : isiD "int" (.bool b) = some true := by show kitB "bool" "int" = some true; decide +kernel
theorem isi_in : isiD "int" .none = some false := by show kitB "NoneType" "int" = some false; decide +kernel
theorem isi_is (s : Str) : isiD "int" (.str s) = some false := by show kitB "str" "int" = some false; decide +kernel
theorem isi_il (s : List D) : isiD "int" (.list s) = some false := by show kitB "list" "int" = some false; decide +kernel
theorem isi_it (s : List D) : isiD "int" (.tuple s) = some false := by show kitB "tuple" "int" = some false; decide +kernel
theorem isi_bi (i : Int) : isiD "bool" (.int i) = some false := by show kitB "int" "bool" = some false; decide +kernel
theorem isi_bb (b : Bool) : isiD "bool" (.bool b) = some true := by show kitB "bool" "bool" = some true; decide +kernel
theorem isi_bn : isiD "bool" .none = some false := by show kitB "NoneType" "bool" = some false; decide +kernel
theorem isi_bs (s : Str) : isiD "bool" (.str s) = some false := by show kitB "str" "bool" = some false; decide +kernel
theorem isi_bl (s : List D) : isiD "bool" (.list s) = some false := by show kitB "list" "bool" = some false; decide +kernel
theorem isi_bt (s : List D) : isiD "bool" (.tuple s) = some false := by show kitB "tuple" "bool" = some false; decide +kernel
theorem isi_ti (i : Int) : isiD "tuple" (.int i) = some false := by show kitB "int" "tuple" = some false; decide +kernel
theorem isi_tb (b : Bool) : isiD "tuple" (.bool b) = some false := by show kitB "bool" "tuple" = some false; decide +kernel
theorem isi_tn : isiD "tuple" .none = some false := by show kitB "NoneType" "tuple" = some false; decide +kernel
theorem isi_ts (s : Str) : isiD "tuple" (.str s) = some false := by show kitB "str" "tuple" = some false; decide +kernel
theorem isi_tl (s : List D) : isiD "tuple" (.list s) = some false := by show kitB "list" "tuple" = some false; decide +kernel
theorem isi_tt (s : List D) : isiD "tuple" (.tuple s) = some true := by show kitB "tuple" "tuple" = some true; decide +kernel
end DL

namespace DL
open PySem PySem.Spec PyProof.Rows L2
/-! ## math.isqrt, math.lcm -/
def bIsqrt : List D → (D → Prop) → Prop
  | [.int i], P => 0 ≤ i ∧ i.toNat.log2 < 13000 ∧ ∀ r : Nat, r * r ≤ i.toNat → i.toNat < (r + 1) * (r + 1) → P (.int (r : Nat))
  | _, _ => False
def rIsqrt : List V → Hp → VK → Prop := fun vs H Q => ∃ a : Int, vs = [.int a] ∧ 0 ≤ a ∧ a.toNat.log2 < 13000 ∧ Q (.int ((Float64.isqrt a.toNat : Nat) : Int)) H
theorem cr_isqrt {X : Cx} : CallR X (.builtin "math.isqrt") rIsqrt := by
  intro pins s σ H vs us Q I r h
  obtain ⟨a, rfl, h0, h1, q⟩ := h
  obtain ⟨u, rfl, ru⟩ := Vals.one r
  obtain ⟨t, rfl⟩ := ru
  exact call_function_meets PySem.W.MGF.kind_isqrt PySem.W.MGF.plain_isqrt PySem.W.MGF.entry_isqrt (PySem.W.MGF.args_isqrt _) (PySem.W.mg_run_isqrt a t (by omega) (by omega) (by omega)).meets ⟨.int _, H, I.tok _, ⟨_, rfl⟩, q⟩
theorem snc_isqrt {K : Fg} : SnC K rIsqrt bIsqrt := fun lc hd H xs as P Q al hx h q => by
  unfold bIsqrt at h
  split at h
  · obtain ⟨x, rfl, g⟩ := da1 hx
    cases g
    exact ⟨_, rfl, h.1, h.2.1, q _ _ H (Same.refl H) (.int _) (h.2.2 _ (Float64.isqrt_spec _).1 (Float64.isqrt_spec _).2)⟩
  · exact h.elim
def lcmOk (a b : Int) : Prop := a.natAbs.log2 < 13000 ∧ b.natAbs.log2 < 13000
def bLcm : List D → (D → Prop) → Prop
  | [.int i, .int j], P => lcmOk i j ∧ P (.int (Nat.lcm i.natAbs j.natAbs : Nat))
  | _, _ => False
def rLcm : List V → Hp → VK → Prop := fun vs H Q => ∃ a b : Int, vs = [.int a, .int b] ∧ lcmOk a b ∧ Q (.int ((Nat.lcm a.natAbs b.natAbs : Nat) : Int)) H
theorem log2_lt {n k : Nat} (h : n.log2 < k) : n < 2 ^ k := by
  by_cases h0 : n = 0
  · subst h0; exact Nat.pow_pos (by decide)
  · exact (Nat.log2_lt h0).mp h
theorem log2_le_of {n k : Nat} (hk : 0 < k) (h : n < 2 ^ k) : n.log2 < k := PySem.Flt.log2_lt_of hk h
set_option exponentiation.threshold 30000 in
theorem cr_lcm {X : Cx} : CallR X (.builtin "math.lcm") rLcm := by
  intro pins s σ H vs us Q I r h
  obtain ⟨a, b, rfl, ⟨h0, h1⟩, q⟩ := h
  obtain ⟨t, u, rfl⟩ := Vals.int2 r
  have l0 := log2_lt h0
  have l1 := log2_lt h1
  have e1 : Nat.lcm 1 a.natAbs = a.natAbs := by simp
  have hl : (Nat.lcm a.natAbs b.natAbs) < 2 ^ 26000 := by
    have : Nat.lcm a.natAbs b.natAbs ≤ a.natAbs * b.natAbs := Nat.div_le_self _ _
    have m := Nat.mul_lt_mul'' l0 l1
    rw [← Nat.pow_add] at m
    omega
  have g := PySem.W.mg_run_lcm a t b u
    (by
      have : (max 1 a.natAbs) < 2 ^ 13000 := by
        have := Nat.one_lt_two_pow (n := 13000) (by decide)
        omega
      have := log2_le_of (k := 13000) (by decide) this
      omega)
    (by
      have : (max a.natAbs b.natAbs) < 2 ^ 13000 := by omega
      have := log2_le_of (k := 13000) (by decide) this
      omega)
    (by
      rw [e1]
      show ((Nat.lcm a.natAbs b.natAbs : Nat) : Int).natAbs.log2 < bitsLine
      rw [Int.natAbs_natCast]
      have := log2_le_of (k := 26000) (by decide) hl
      have e : bitsLine = 134217728 := by decide
      omega)
  rw [e1] at g
  exact call_function_meets PySem.W.MGF.kind_lcm PySem.W.MGF.plain_lcm PySem.W.MGF.entry_lcm (PySem.W.MGF.args_lcm _ _) g.meets ⟨.int _, H, I.tok _, ⟨_, rfl⟩, q⟩
theorem snc_lcm {K : Fg} : SnC K rLcm bLcm := fun lc hd H xs as P Q al hx h q => by
  unfold bLcm at h
  split at h
  · obtain ⟨x, y, rfl, g, g'⟩ := da2 hx
    cases g
    cases g'
    exact ⟨_, _, rfl, h.1, q _ _ H (Same.refl H) (.int _) h.2⟩
  · exact h.elim
theorem fdiv_pos {a b : Int} (h : 0 ≤ b) : a.fdiv b = a / b := Int.fdiv_eq_ediv_of_nonneg a h
theorem absite (a : Int) : (if a < 0 then -a else a) = (a.natAbs : Int) := by split <;> omega
theorem lt_pow_of {n m k l : Nat} (h : n < 2 ^ k) (h1 : m ≤ n + 1) (h2 : k < l) : m < 2 ^ l := by
  have : 2 ^ (k + 1) ≤ 2 ^ l := Nat.pow_le_pow_right (by decide) h2
  have e : 2 ^ (k + 1) = 2 ^ k * 2 := Nat.pow_succ 2 k
  have p : 0 < 2 ^ k := Nat.pow_pos (by decide)
  omega
theorem abs_mul_le {x y : Int} {a b : Nat} (h1 : x.natAbs ≤ a) (h2 : y.natAbs ≤ b) : (x * y).natAbs ≤ a * b := by rw [Int.natAbs_mul]; exact Nat.mul_le_mul h1 h2
theorem fmod_bd {x m : Int} (hm : 0 < m) : 0 ≤ x.fmod m ∧ x.fmod m < m := ⟨Int.fmod_nonneg_of_pos x hm, Int.fmod_lt_of_pos x hm⟩
theorem e19 : (10 : Int) ^ (19 : Int).toNat = 10000000000000000000 := by decide
theorem p19 : CPow 10 19 := ⟨by decide, by decide, by decide⟩
theorem mem_cases {ds : List D} {i : Nat} {d : D} (h : ds[i]? = some d) : d ∈ ds := List.mem_of_getElem? h
theorem eqOk_t {xs ys : List Int} : eqOk (.tuple (xs.map .int)) (.tuple (ys.map .int)) := by
  have p : ∀ zs : List Int, PyData.plainAll (zs.map .int) = true := fun zs => by
    induction zs with
    | nil => rfl
    | cons z zs ih => simp [PyData.plainAll, PyData.plain, ih]
  have d : ∀ zs : List Int, PyData.depthAll (zs.map PyData.int) ≤ 1 := fun zs => by
    induction zs with
    | nil => simp [PyData.depthAll]
    | cons z zs ih => simp [PyData.depthAll, PyData.depth]; omega
  refine ⟨by simp [PyData.plain, p], by simp [PyData.plain, p], .inl ?_⟩
  have := d xs
  simp [PyData.depth]
  omega
theorem dEq_t2 {a b c d : Int} {P : D → Prop} : dEq (.tuple [.int a, .int b]) (.tuple [.int c, .int d]) P = P (.bool (decide (a = c ∧ b = d))) := propext ⟨fun h => by
  have e : PyData.eqv (.tuple [.int a, .int b]) (.tuple [.int c, .int d]) = decide (a = c ∧ b = d) := by simp [PyData.eqv, PyData.eqvAll, Bool.beq_eq_decide_eq]
  rw [← e]; exact h.2, fun h => ⟨eqOk_t (xs := [a, b]) (ys := [c, d]), by
  have e : PyData.eqv (.tuple [.int a, .int b]) (.tuple [.int c, .int d]) = decide (a = c ∧ b = d) := by simp [PyData.eqv, PyData.eqvAll, Bool.beq_eq_decide_eq]
  rw [e]; exact h⟩⟩
theorem dNe_t2 {a b c d : Int} {P : D → Prop} : dNe (.tuple [.int a, .int b]) (.tuple [.int c, .int d]) P = P (.bool (!decide (a = c ∧ b = d))) := propext ⟨fun h => by
  have e : PyData.eqv (.tuple [.int a, .int b]) (.tuple [.int c, .int d]) = decide (a = c ∧ b = d) := by simp [PyData.eqv, PyData.eqvAll, Bool.beq_eq_decide_eq]
  rw [← e]; exact h.2, fun h => ⟨eqOk_t (xs := [a, b]) (ys := [c, d]), by
  have e : PyData.eqv (.tuple [.int a, .int b]) (.tuple [.int c, .int d]) = decide (a = c ∧ b = d) := by simp [PyData.eqv, PyData.eqvAll, Bool.beq_eq_decide_eq]
  rw [e]; exact h⟩⟩
end DL

namespace DL
open PySem PySem.Spec PyProof.Rows L2

/-! ## lists that a name of the def owns: stores, and reading them without letting go -/
mutual
/-- no list lies within -/
def noList : D → Bool
  | .list _ => false
  | .tuple ds => noListA ds
  | .dict _ => false
  | _ => true
def noListA : List D → Bool
  | [] => true
  | d :: ds => noList d && noListA ds
end
section
variable {K : Fg} {lc : Option Addr} {H H' : Hp}
mutual
theorem Dv.strict (e : ∀ a o, H a = some o → (∀ xs, o ≠ .lst xs) → H' a = some o) : ∀ {d : D} {v : V}, noList d = true → Dv K lc H v d → Dv K lc H' v d
  | .none, _, _, h => by cases h; exact .non
  | .bool b, _, _, h => by cases h; exact .bl b
  | .int b, _, _, h => by cases h; exact .int b
  | .str b, _, _, h => by cases h; exact .str b
  | .list ds, _, n, h => by simp [noList] at n
  | .tuple ds, _, n, h => by
    cases h with
    | @tup a xs _ hs ha =>
      refine .tup ?_ (DvAll.strict e (by simpa [noList] using n) ha)
      rcases hs with (hs | ⟨o, hs⟩) | hs
      · exact .inl (.inl (e _ _ hs fun xs z => nomatch z))
      · exact .inl (.inr ⟨o, e _ _ hs fun xs z => nomatch z⟩)
      · exact .inr hs
  | .dict _, _, n, h => by simp [noList] at n
theorem DvAll.strict (e : ∀ a o, H a = some o → (∀ xs, o ≠ .lst xs) → H' a = some o) : ∀ {ds : List D} {vs : List V}, noListA ds = true → DvAll K lc H vs ds → DvAll K lc H' vs ds
  | [], _, _, h => by cases h; exact .nil
  | d :: ds, _, n, h => by
    cases h with
    | cons h1 h2 =>
      have q : noList d = true ∧ noListA ds = true := by simpa [noListA] using n
      exact .cons (Dv.strict e q.1 h1) (DvAll.strict e q.2 h2)
end
end
def noOw : Nat → Option Addr := fun _ => none
section
variable {K : Fg} {M : Amb} {H H' : Hp} {σ : L2.St} {ρ : Rho} {pv : List V} {pd : List D} {ow : Nat → Option Addr}
theorem hdO_noOw {b : Addr} (h : hdO M noOw b) : hdO M ow b := by
  rcases h with h | ⟨i, h⟩ | h
  · exact .inl h
  · exact nomatch h
  · exact .inr (.inr h)
theorem vis_noOw : Same (hide (hdO M ow) H) (hide (hdO M noOw) H) := hide_same fun b o n h => ⟨fun z => n (hdO_noOw z), h⟩
/-- data without lists doesn't meet what is owned -/
theorem AtW.strict (A : AtW K M σ H ρ ow) {v : V} {d : D} (n : noList d = true) (g : Dv K M.lc (hide (hdO M noOw) H) v d) : Dv K M.lc (hide (hdO M ow) H) v d :=
  Dv.strict (fun a o h hl => by
    obtain ⟨h1, h2⟩ := hide_some.mp h
    refine hide_some.mpr ⟨fun z => ?_, h2⟩
    rcases z with z | ⟨i, z⟩ | z
    · exact h1 (.inl z)
    · obtain ⟨f0, xs, f1⟩ := A.fre i a z
      rw [h2] at f1
      exact hl xs (Option.some.inj f1)
    · exact h1 (.inr (.inr z))) n g
/-- the owned list of slot i gets another content -/
theorem AtW.owset {i : Nat} {ds es : List D} {p : Addr} {ys : List V} (A : AtW K M σ H ρ ow) (e : look ρ i = .own ds) (hp : ow i = some p) (g : DvAll K M.lc (hide (hdO M ow) H) ys es) : AtW K M σ (upd H p (.lst ys)) (DL.put ρ i (.own es)) ow ∧ Same (hide (hdO M ow) H) (hide (hdO M ow) (upd H p (.lst ys))) := by
  obtain ⟨h1, xs, h3⟩ := A.fre i p hp
  have hid : hdO M ow p := .inr (.inl ⟨i, hp⟩)
  have vis : Same (hide (hdO M ow) H) (hide (hdO M ow) (upd H p (.lst ys))) := hide_same fun b o n h => by
    have hb : b ≠ p := fun z => n (z ▸ hid)
    exact ⟨n, by rw [upd_ne hb]; exact h⟩
  have nl : M.lc ≠ some p := A.nel h1
  have nd : ¬ M.hd p := A.ne h1
  refine ⟨?_, vis⟩
  exact {
    evo := fun b o n h => by
      have hb : b ≠ p := fun z => by
        subst z
        rw [h1] at h; cases h
      rw [upd_ne hb]; exact A.evo b o n h
    cok := fun b hb => by
      obtain ⟨⟨q, ns, pos, dig, cnt, e1, e2, e3, e4, e5, e6⟩, e7⟩ := A.cok b hb
      have hbp : b ≠ p := fun z => nl (z ▸ hb)
      have hqp : q ≠ p := fun z => nd (z ▸ A.sub q e6)
      refine ⟨⟨q, ns, pos, dig, cnt, by rw [upd_ne hbp]; exact e1, ?_, e3, e4, e5, e6⟩, e7⟩
      rcases e2 with (e2 | ⟨o, e2⟩) | e2
      · exact .inl (.inl (by rw [upd_ne hqp]; exact e2))
      · exact .inl (.inr ⟨o, by rw [upd_ne hqp]; exact e2⟩)
      · exact .inr e2
    sub := A.sub
    all := A.all
    len := by rw [put_length]; exact A.len
    val := fun j d hj => by
      by_cases hji : j = i
      · subst hji
        rcases look_put ρ j (.own es) with z | z <;> (rw [z] at hj; cases hj)
      · rw [look_put_ne _ _ _ _ hji] at hj
        obtain ⟨u, g1, g2⟩ := A.val j d hj
        exact ⟨u, g1, g2.mono vis⟩
    own := fun j cs hj => by
      by_cases hji : j = i
      · subst hji
        rcases look_put ρ j (.own es) with z | z
        · rw [z] at hj
          cases hj
          obtain ⟨p', xs', g1, g2, g3, g4⟩ := A.own j ds e
          cases hp.symm.trans g1
          exact ⟨p, ys, hp, g2, upd_same, g.mono vis⟩
        · rw [z] at hj; cases hj
      · rw [look_put_ne _ _ _ _ hji] at hj
        obtain ⟨p', xs', g1, g2, g3, g4⟩ := A.own j cs hj
        have hb : p' ≠ p := fun z => hji (A.inj j i p (z ▸ g1) hp)
        exact ⟨p', xs', g1, g2, by rw [upd_ne hb]; exact g3, g4.mono vis⟩
    fre := fun j q hj => by
      obtain ⟨f1, zs, f2⟩ := A.fre j q hj
      by_cases hb : q = p
      · subst hb
        exact ⟨f1, ys, upd_same⟩
      · exact ⟨f1, zs, by rw [upd_ne hb]; exact f2⟩
    inj := A.inj
    gho := fun q cs h => by
      obtain ⟨k1, k2, zs, k3, k4⟩ := A.gho q cs h
      have hb : q ≠ p := fun w => k2 i (w ▸ hp)
      exact ⟨k1, k2, zs, by rw [upd_ne hb]; exact k3, k4.mono vis⟩
    gnd := A.gnd }
end

/-! ### stores -/
def wApp (i : Nat) (wa : WE) : WS := fun DD ρ => match look ρ i with
  | .own _ => wa ρ fun d ρ1 => match look ρ1 i with
    | .own ds => ds.length < 100000 ∧ DD.nx (put ρ1 i (.own (ds ++ [d])))
    | _ => False
  | _ => False
def wSetIx (i : Nat) (wa wk : WE) : WS := fun DD ρ => wa ρ fun d ρ1 => match look ρ1 i with
  | .own _ => wk ρ1 fun k ρ2 => match k, look ρ2 i with
    | .int k, .own ds => ∃ j, ixN ds.length k = some j ∧ DD.nx (put ρ2 i (.own (ds.set j d)))
    | _, _ => False
  | _ => False
section
variable {X : Cx} {K : Fg} {a b e : Expr} {ta tb : TE} {wa wb : WE} {pos p p2 : Pos}
theorem ds_app {i : Nat} {x : Str} {px p1 p2 p3 : Pos} (he : DE X e ta wa) (hn : PE X (.Name x px) (tVar i)) (hbase : attributeBase (.Name x px) "append" X.env (eval (.Name x px) X.env) = eval (.Name x px) X.env := by rfl)
    (hfew : ((backTo p2 (starEach (e :: []) X.env)).all (fun x => !x.1) && (backToKw p2 (keywordEach [] X.env)).all (fun x => x.1.isSome) && decide ((e :: []).length + ([] : List Keyword).length + (if ([] : List Keyword).isEmpty then 0 else 1) < 30)) = true := by rfl)
    (hline : (p1.endLine == p2.line) = true := by rfl) (hs : starEach (e :: []) X.env = (false, eval e X.env) :: starEach [] X.env := by rfl) (hplain : (backTo p2 (starEach [] X.env)).any (·.1) = false := by rfl)
    (hsw : swapsWith (.Call (.Attribute (.Name x px) "append" p1) [e] [] p2) none p3.line X.env = pure false := by rfl) :
    DS X (.Expr (.Call (.Attribute (.Name x px) "append" p1) [e] [] p2) p3) (tDrop (tBM X.K "list" rAppend (tVar i) (tCons ta tNil))) (wApp i wa) :=
  ⟨ps_expr (pe_bm PySem.F.plainAttrs_list PySem.F.slot_list_append PySem.F.type_list_append mt_append hn (pa_cons he.pe pa_nil hs) hbase hfew hline hs hplain) hsw, fun M σ H ρ pv pd DD HD A h F => by
  have A0 := A
  obtain ⟨ow, B, hp⟩ := A
  unfold wApp at h
  split at h
  · next ds hds =>
    obtain ⟨q, xs, h1, h2, h3, h4⟩ := B.own i ds hds
    refine ⟨.ref q, h2, .inl ⟨rfl, xs, .of h3⟩, ?_⟩
    refine he.sd M σ H ρ pv pd _ _ A0 h fun v d H1 ρ1 A1 h1' => ?_
    split at h1'
    · next ds1 e1 =>
      obtain ⟨ow1, B1, hp1⟩ := A1
      cases hp1 with
      | cons gv hp1 =>
        obtain ⟨q1, xs1, k1, k2, k3, k4⟩ := B1.own i ds1 e1
        have : q1 = q := by
          rw [h2] at k2
          cases k2; rfl
        subst this
        refine ⟨q1, xs1, v, rfl, rfl, k3, ?_, ?_⟩
        · rw [k4.length]; exact size_lt h1'.1
        · obtain ⟨C, vis⟩ := B1.owset e1 k1 (k4.app (.cons gv .nil))
          exact F.nx _ _ _ ⟨ow1, C, hp1.mono vis⟩ h1'.2
    · exact h1'.elim
  · exact h.elim⟩
/-- x[k] = e, x a list of the def's own -/
theorem ds_setix {i : Nat} {x : Str} {px ps : Pos} (he : DE X e ta wa) (hk : DE X b tb wb) (hg : PG X (.Subscript (.Name x px) b p2) (gSub (tVar i) tb rSetL)) (hs : swapsWithSole [.Subscript (.Name x px) b p2] e ps.line X.env = pure false := by rfl) (hw : swappedStores [.Subscript (.Name x px) b p2] e X.env = pure none := by rfl)
    (h1 : (assignEach [.Subscript (.Name x px) b p2] X.env).map (·.2) = [assign (.Subscript (.Name x px) b p2) X.env] := by rfl)
    : DS X (.Assign [.Subscript (.Name x px) b p2] e ps) (tAsg ta (gSub (tVar i) tb rSetL)) (wSetIx i wa wb) :=
  ⟨ps_asg he.pe hg hs hw h1, fun M σ H ρ pv pd DD HD A h F => by
  refine he.sd M σ H ρ pv pd _ _ A h fun v d H1 ρ1 A1 h1 => ?_
  split at h1
  · next ds0 e0 =>
    have A1' := A1
    obtain ⟨ow0, B0, hp0⟩ := A1
    obtain ⟨q, xs0, k1, k2, k3, k4⟩ := B0.own i ds0 e0
    refine ⟨.ref q, k2, ?_⟩
    refine hk.sd M σ H1 ρ1 _ _ _ _ A1' h1 fun kk dk H2 ρ2 A2 h2 => ?_
    obtain ⟨ow2, B2, hp2⟩ := A2
    cases hp2 with
    | cons gk hp2 =>
      cases hp2 with
      | cons gv hp2 =>
        split at h2
        · next k ds e2 =>
          cases gk
          obtain ⟨j, ej, hnx⟩ := h2
          obtain ⟨q2, xs, l1, l2, l3, l4⟩ := B2.own i ds e2
          have : q2 = q := by
            rw [k2] at l2
            cases l2; rfl
          subst this
          obtain ⟨C, vis⟩ := B2.owset e2 l1 (l4.set gv j)
          exact ⟨q2, xs, k, j, rfl, rfl, l3, by rw [l4.length]; exact ej, F.nx _ _ _ ⟨ow2, C, hp2.mono vis⟩ hnx⟩
        · exact h2.elim
  · exact h1.elim⟩
end

/-! ### reading what is owned: names and ints alone, the heap stays as it is -/
def pureD : Rho → Nat → Option D := fun ρ i => match look ρ i with
  | .val d => some d
  | .own ds => some (.list ds)
  | .un => none
/-- a pure expression: its data from the names -/
abbrev WP := Rho → Option D
def SndP (K : Fg) (t : TE) (w : WP) : Prop := ∀ (M : Amb) (σ : L2.St) (H : Hp) (ρ : Rho) (ow : Nat → Option Addr) (d : D), AtW K M σ H ρ ow → w ρ = some d → ∃ v, Dv K M.lc (hide (hdO M noOw) H) v d ∧ ∀ Q : VK, Q v H → t σ H Q
structure DP (X : Cx) (e : Expr) (t : TE) (w : WP) : Prop where
  pe : PE X e t
  sd : SndP X.K t w
abbrev WPs := Rho → Option (List D)
def SndPs (K : Fg) (t : TA) (w : WPs) : Prop := ∀ (M : Amb) (σ : L2.St) (H : Hp) (ρ : Rho) (ow : Nat → Option Addr) (ds : List D), AtW K M σ H ρ ow → w ρ = some ds → ∃ vs, DvAll K M.lc (hide (hdO M noOw) H) vs ds ∧ ∀ Q : List V → Hp → Prop, Q vs H → t σ H Q
structure DPs (X : Cx) (es : List Expr) (t : TA) (w : WPs) : Prop where
  pa : PA X es t
  sd : SndPs X.K t w
def pNil : WPs := fun _ => some []
def pCons (a : WP) (r : WPs) : WPs := fun ρ => match a ρ, r ρ with
  | some d, some ds => some (d :: ds)
  | _, _ => none
def pName (i : Nat) : WP := fun ρ => pureD ρ i
def pC (d : D) : WP := fun _ => some d
section
variable {X : Cx} {K : Fg} {a b e : Expr} {es : List Expr} {ta tb : TE} {wa wb : WP} {t : TA} {wr : WPs} {pos p p2 : Pos}
theorem sndp_name (i : Nat) : SndP K (tVar i) (pName i) := fun M σ H ρ ow d A h => by
  unfold pName pureD at h
  split at h
  · next d' e =>
    cases h
    obtain ⟨v, h1, h2⟩ := A.val i _ e
    exact ⟨v, h2.mono vis_noOw, fun Q q => ⟨v, h1, q⟩⟩
  · next ds e =>
    cases h
    obtain ⟨q, xs, h1, h2, h3, h4⟩ := A.own i ds e
    refine ⟨.ref q, .lst (hide_some.mpr ⟨fun z => ?_, h3⟩) (h4.mono vis_noOw), fun Q q => ⟨_, h2, q⟩⟩
    rcases z with z | ⟨j, z⟩ | ⟨cs, z⟩
    · exact A.ne (A.fre i q h1).1 z
    · exact nomatch z
    · exact (A.gho q cs z).2.1 i h1
  · cases h
theorem dp_name (i : Nat) {x : Str} (hN : X.N[i]? = some x := by rfl) (hv : Vis X.env.scope x := by first | exact Or.inl rfl | exact Or.inr (Or.inl rfl) | exact Or.inr (Or.inr rfl)) (hd : (x == ("__debug__" : Str)) = false := by decide)
    (hcd : (x == ("__classdict__" : Str)) = false := by decide) : DP X (.Name x pos) (tVar i) (pName i) := ⟨pe_var hN hv hd hcd, sndp_name i⟩
theorem dp_int {i : Int} {j} : DP X (.Constant (.int i) j pos) (tC (.int i)) (pC (.int i)) := ⟨pe_int, fun M σ H ρ ow d A h => by cases h; exact ⟨_, .int i, fun Q q => q⟩⟩
theorem dps_nil : DPs X [] tNil pNil := ⟨pa_nil, fun M σ H ρ ow ds A h => by cases h; exact ⟨[], .nil, fun Q q => q⟩⟩
theorem dps_cons (ha : DP X e ta wa) (hr : DPs X es t wr) (hs : starEach (e :: es) X.env = (false, eval e X.env) :: starEach es X.env := by rfl) : DPs X (e :: es) (tCons ta t) (pCons wa wr) := ⟨pa_cons ha.pe hr.pa hs, fun M σ H ρ ow ds A h => by
  unfold pCons at h
  split at h
  · next d r e1 e2 =>
    cases h
    obtain ⟨v, g1, q1⟩ := ha.sd M σ H ρ ow d A e1
    obtain ⟨vs, g2, q2⟩ := hr.sd M σ H ρ ow r A e2
    exact ⟨v :: vs, .cons g1 g2, fun Q q => q1 _ (q2 _ q)⟩
  · cases h⟩
def wCallP (pre : List D → Prop) (post : List D → D → Prop) (wp : WPs) : WE := fun ρ P => match wp ρ with
  | some ds => pre ds ∧ ∀ d, post ds d → noList d = true ∧ P d ρ
  | none => False
theorem AtW.hallN {M : Amb} {σ : L2.St} {H : Hp} {ρ : Rho} {ow : Nat → Option Addr} (A : AtW K M σ H ρ ow) (b : Addr) (z : hdO M noOw b) : H b ≠ none := A.hall b (hdO_noOw z)
theorem snd_callP {pre : List D → Prop} {post : List D → D → Prop} {E : XK} (h : SndPs K t wr) : Snd K (tCall (SpD K pre post) [] E t) (wCallP pre post wr) := fun M σ H ρ pv pd P Q A hw q => by
  unfold wCallP at hw
  split at hw
  · next ds e1 =>
    obtain ⟨ow, B, hp⟩ := A
    obtain ⟨vs, g, k⟩ := h M σ H ρ ow ds B e1
    refine k _ ?_
    show SpD K pre post (vs ++ []) H Q E
    rw [List.append_nil]
    refine ⟨M.lc, M.hc, hdO M noOw, ds, g, B.cok, fun b z => .inl (B.sub b z), B.hallN, hw.1, fun v d H' e c g p => ?_⟩
    obtain ⟨nl, pp⟩ := hw.2 d p
    have B' := B.step e c
    exact q v d H' ρ ⟨ow, B', .cons (B'.strict nl g) (hp.mono (B.vis e))⟩ pp
  · exact hw.elim
theorem de_callP {CX : CXT} {k : Nat} {f : Addr} {fd : FuncData} {ps : List Str} {pre : List D → Prop} {post : List D → D → Prop} {E : XK} {x : Str} {K' : Fg} (F : FnOk X.prog X.w X.K X.mg X.base CX k f fd ps (SpD K' pre post)) (hr : Room k X.A) (hg : Gl X x) (hm : X.mg x = some (.ref f))
    (hk : PySem.W.keepIn X.K (.ref f) = true) (hb : Binds X.K fd ps []) (hx : Passes CX X E) (ha : DPs X (e :: es) t wr) (hK : X.K = K' := by rfl) (hdb : (x == ("__debug__" : Str)) = false := by decide) (he : starEach (e :: es) X.env = (false, eval e X.env) :: starEach es X.env := by rfl)
    (hpl : (backTo pos (starEach es X.env)).any (·.1) = false := by rfl) : DE X (.Call (.Name x p) (e :: es) [] pos) (tCall (SpD K' pre post) [] E t) (wCallP pre post wr) :=
  ⟨pe_call F hr hg hm hk hb .nil hx ha.pa hdb he hpl, by subst hK; exact snd_callP ha.sd⟩
/-- a comparison, an item of what names hold -/
def wBinP (w2 : D → D → (D → Prop) → Prop) (wa wb : WP) : WE := fun ρ P => match wa ρ, wb ρ with
  | some a, some b => w2 a b fun d => noList d = true ∧ P d ρ
  | _, _ => False
theorem snd_opP {r : R2} {w2 : D → D → (D → Prop) → Prop} (h2 : Sn2 K r w2) (ha : SndP K ta wa) (hb : SndP K tb wb) : Snd K (tOp r ta tb) (wBinP w2 wa wb) := fun M σ H ρ pv pd P Q A hw q => by
  unfold wBinP at hw
  split at hw
  · next x y e1 e2 =>
    obtain ⟨ow, B, hp⟩ := A
    obtain ⟨v, g1, k1⟩ := ha M σ H ρ ow x B e1
    obtain ⟨u, g2, k2⟩ := hb M σ H ρ ow y B e2
    refine k1 _ (k2 _ ?_)
    refine h2 M.lc (hdO M noOw) H v u x y _ _ B.hallN g1 g2 hw fun z d H' e g p => ?_
    have B' := B.step (.of e) (B.cok.mono e)
    exact q z d H' ρ ⟨ow, B', .cons (B'.strict p.1 g) (hp.mono (B.vis (.of e)))⟩ p.2
  · exact hw.elim
theorem de_cmpP {op : CmpOp} {r : R2} {w2 : D → D → (D → Prop) → Prop} (ho : OpR X (compareOp op) r) (h2 : Sn2 X.K r w2) (ha : DP X a ta wa) (hb : DP X b tb wb) (hm : behindInMarks op b = false := by first | exact nomark _ | rfl) : DE X (.Compare a [op] [b] pos) (tOp r ta tb) (wBinP w2 wa wb) := ⟨pe_cmpR ho ha.pe hb.pe hm, snd_opP h2 ha.sd hb.sd⟩
theorem dt_cmpP {op : CmpOp} {r : R2} {w2 : D → D → (D → Prop) → Prop} (ho : OpR X (compareOp op) r) (h2 : Sn2 X.K r w2) (ha : DP X a ta wa) (hb : DP X b tb wb) (hm : behindInMarks op b = false := by first | exact nomark _ | rfl) : DT X (.Compare a [op] [b] pos) (tTest (tOp r ta tb)) (wTest (wBinP w2 wa wb)) := ⟨pt_cmpR ho ha.pe hb.pe hm, snd_test (snd_opP h2 ha.sd hb.sd)⟩
theorem de_ixP {r : R2} {w2 : D → D → (D → Prop) → Prop} (ho : IxR X r) (h2 : Sn2 X.K r w2) (ha : DP X a ta wa) (hb : DP X b tb wb) (hs : PlainIx b := by exact fun _ _ => rfl) : DE X (.Subscript a b pos) (tOp r ta tb) (wBinP w2 wa wb) := ⟨pe_ix ho ha.pe hb.pe hs, snd_opP h2 ha.sd hb.sd⟩
def wTruP (wa : WP) : WT := fun ρ P => match wa ρ with
  | some a => match truD a with
    | some b => P b ρ
    | none => False
  | none => False
theorem dt_truP (ha : DP X a ta wa) (he : ∀ whole, isTrue a X.env whole = (do let v ← whole; standAt a.pos; holding [v] (truthy v)) := by intro _; rfl) :
    DT X a (fun σ H Q => ta σ H fun x H' => ∃ k, TruV X.K x H' k ∧ Q k H') (wTruP wa) := ⟨pt_truth ha.pe he, fun M σ H ρ pv pd P Q A hw q => by
  unfold wTruP at hw
  split at hw
  · next x e1 =>
    split at hw
    · next b e2 =>
      have A' := A
      obtain ⟨ow, B, hp⟩ := A
      obtain ⟨v, g1, k1⟩ := ha.sd M σ H ρ ow x B e1
      exact k1 _ ⟨b, tru_of e2 g1, q _ _ _ A' hw⟩
    · exact hw.elim
  · exact hw.elim⟩
def wBP (wc : List D → (D → Prop) → Prop) (wp : WPs) : WE := fun ρ P => match wp ρ with
  | some ds => wc ds fun d => noList d = true ∧ P d ρ
  | none => False
theorem snd_bP {r : List V → Hp → VK → Prop} {wc : List D → (D → Prop) → Prop} (hsn : SnC K r wc) (h : SndPs K t wr) : Snd K (tCB r t) (wBP wc wr) := fun M σ H ρ pv pd P Q A hw q => by
  unfold wBP at hw
  split at hw
  · next ds e1 =>
    obtain ⟨ow, B, hp⟩ := A
    obtain ⟨vs, g, k⟩ := h M σ H ρ ow ds B e1
    refine k _ ?_
    refine hsn M.lc (hdO M noOw) H vs ds _ _ B.hallN g hw fun v d H' e g p => ?_
    have B' := B.step (.of e) (B.cok.mono e)
    exact q v d H' ρ ⟨ow, B', .cons (B'.strict p.1 g) (hp.mono (B.vis (.of e)))⟩ p.2
  · exact hw.elim
theorem de_callBP {id : String} {x : Str} {r : List V → Hp → VK → Prop} {wc : List D → (D → Prop) → Prop} (hc : CallR X (.builtin id) r) (hs : SnC X.K r wc) (hg : Gl X x) (hm : X.mg x = none) (hv : bootBuiltins x = some (.builtin id)) (ha : DPs X (e :: es) t wr) (hn : x ≠ "__name__" := by decide)
    (hdb : (x == ("__debug__" : Str)) = false := by decide) (he : starEach (e :: es) X.env = (false, eval e X.env) :: starEach es X.env := by rfl) (hpl : (backTo pos (starEach es X.env)).any (·.1) = false := by rfl) : DE X (.Call (.Name x p) (e :: es) [] pos) (tCB r t) (wBP wc wr) :=
  ⟨pe_callB hc hg hm hv ha.pa hn hdb he hpl, snd_bP hs ha.sd⟩
/-- list(x) of an owned list: a new list of the same items, no list among them -/
def wFBP (wc : List D → (List D → Prop) → Prop) (wp : WPs) : WF := fun ρ P => match wp ρ with
  | some ds => wc ds fun es => noListA es = true ∧ P es ρ
  | none => False
theorem df_listP (hg : Gl X "list") (hm : X.mg "list" = none) (ha : DPs X (e :: es) t wr) (he : starEach (e :: es) X.env = (false, eval e X.env) :: starEach es X.env := by rfl) (hpl : (backTo pos (starEach es X.env)).any (·.1) = false := by rfl) :
    DF X (.Call (.Name "list" p) (e :: es) [] pos) (tCB (rListV X.K) t) (wFBP fList wr) := ⟨pe_callTy call_list_of hg hm (by decide +kernel) ha.pa (by decide) (by decide) he hpl, fun M σ H ρ pv pd P Q A hw q => by
  unfold wFBP at hw
  split at hw
  · next ds e1 =>
    obtain ⟨ow, B, hp⟩ := A
    obtain ⟨vs, g, k⟩ := ha.sd M σ H ρ ow ds B e1
    refine k _ ?_
    refine snf_list M.lc (hdO M noOw) H vs ds _ _ B.hallN g hw fun ys cs p g hn pp => ?_
    have gs : DvAll X.K M.lc (hide (hdO M ow) H) ys cs := DvAll.strict (fun a o h hl => by
      obtain ⟨h1, h2⟩ := hide_some.mp h
      refine hide_some.mpr ⟨fun z => ?_, h2⟩
      rcases z with z | ⟨i, z⟩ | z
      · exact h1 (.inl z)
      · obtain ⟨f0, xs, f1⟩ := B.fre i a z
        rw [h2] at f1
        exact hl xs (Option.some.inj f1)
      · exact h1 (.inr (.inr z))) pp.1 g
    exact q p cs _ ρ (At.plus ⟨ow, B, gs.app hp⟩ gs.length hn) pp.2
  · exact hw.elim⟩
end
end DL

namespace DL
open PySem PySem.Spec PyProof.Rows L2
/-! ## range with a step above zero -/
def rngC (lo c : Int) (n : Nat) : List D := (List.range n).map fun k => .int (lo + (k : Nat) * c)
theorem rngC_len (lo c : Int) (n : Nat) : (rngC lo c n).length = n := by simp [rngC]
theorem rngC_get {lo c : Int} {n i : Nat} {x : D} (h : (rngC lo c n)[i]? = some x) : i < n ∧ x = .int (lo + (i : Nat) * c) := by
  unfold rngC at h
  rw [List.getElem?_map] at h
  cases q : (List.range n)[i]? with
  | none => rw [q] at h; cases h
  | some k =>
    rw [q] at h
    obtain ⟨h1, h2⟩ := List.getElem?_eq_some_iff.mp q
    simp at h1 h2
    cases h
    exact ⟨h1, by rw [h2]⟩
def stepN (i j c : Int) : Nat := ((j - i + c - 1) / c).toNat
def wiR3 (wa : WA) : WI := fun ρ P => wa ρ fun ds ρ1 => match ds with
  | [.int i, .int j, .int c] => rngOk i ∧ rngOk j ∧ 0 < c ∧ c < 1000000 ∧ P (rngC i c (stepN i j c)) ρ1
  | _ => False
theorem src_rngC {K : Fg} {lo c : Int} {n : Nat} {v : V} {d : D} : SrcOk K (Itc lo c n) v d (rngC lo c n) := fun M σ H ρ pv pd A => by
  refine ⟨fun i hi => ?_, by rw [rngC_len]; exact Nat.le_refl n⟩
  have hi' : i < n := by rwa [rngC_len] at hi
  refine ⟨hi', fun x H' hy => ?_⟩
  obtain ⟨rfl, rfl⟩ := hy
  obtain ⟨ow, B, hp⟩ := A
  have e : (rngC lo c n)[i] = .int (lo + (i : Nat) * c) := (rngC_get (List.getElem?_eq_getElem hi)).2
  rw [e]
  exact ⟨ow, B, .cons (.int _) hp⟩
theorem rgC_pos {i j c : Int} (hi : rngOk i) (hj : rngOk j) (h0 : 0 < c) (h1 : c < 1000000) : RgC i j c (stepN i j c) := by
  obtain ⟨i1, i2⟩ := hi
  obtain ⟨j1, j2⟩ := hj
  have sz : Builtin.Range.rangeSize i j c = ((stepN i j c : Nat) : Int) := by
    unfold Builtin.Range.rangeSize stepN
    rw [if_pos h0]
    split
    · next h =>
      have e : j - i + c - 1 = (j - i - 1) + c := by omega
      rw [e, Int.add_ediv_of_dvd_right (Int.dvd_refl c), Int.ediv_self (by omega)]
      have := Int.ediv_nonneg (show 0 ≤ j - i - 1 by omega) (Int.le_of_lt h0)
      omega
    · next h =>
      have : (j - i + c - 1) / c ≤ 0 := by
        have : (j - i + c - 1) / c < 1 := Int.ediv_lt_of_lt_mul h0 (by omega)
        omega
      omega
  have szl : Builtin.Range.rangeSize i j c ≤ 2 ^ 63 - 1 ∧ 0 ≤ Builtin.Range.rangeSize i j c := by
    refine ⟨?_, by rw [sz]; exact Int.natCast_nonneg _⟩
    unfold Builtin.Range.rangeSize
    rw [if_pos h0]
    have p62 : (2 : Int) ^ 62 = 4611686018427387904 := by decide
    have p63 : (2 : Int) ^ 63 = 9223372036854775808 := by decide
    split
    · have := Int.ediv_le_self (a := j - i - 1) c (by omega)
      omega
    · omega
  have p62 : (2 : Int) ^ 62 = 4611686018427387904 := by decide
  have p63 : (2 : Int) ^ 63 = 9223372036854775808 := by decide
  have fits : ∀ x : Int, -9223372036854775808 ≤ x → x ≤ 9223372036854775807 → Builtin.Range.rangeFitsLong x = true := fun x h1 h2 => by
    unfold Builtin.Range.rangeFitsLong
    simp
    omega
  refine ⟨by omega, by omega, ?_, sz⟩
  unfold Builtin.Range.small
  rw [fits i (by omega) (by omega), fits j (by omega) (by omega), fits c (by omega) (by omega), fits _ (by omega) (by omega), if_pos h0, fits _ (by omega) (by omega)]
  simp
theorem da3 {K : Fg} {lc : Option Addr} {H : Hp} {xs : List V} {a b c : D} (h : DvAll K lc H xs [a, b, c]) : ∃ x y z, xs = [x, y, z] ∧ Dv K lc H x a ∧ Dv K lc H y b ∧ Dv K lc H z c := by
  cases h with
  | cons h1 h2 =>
    obtain ⟨y, z, rfl, h3, h4⟩ := da2 h2
    exact ⟨_, _, _, rfl, h1, h3, h4⟩
theorem di_rng3 {X : Cx} {tg a b c : Expr} {t : TA} {wr : WA} {p p2 : Pos} (hgl : Gl X "range") (hm : X.mg "range" = none) (ha : DA X [a, b, c] t wr) (hs : starEach [a, b, c] X.env = (false, eval a X.env) :: starEach [b, c] X.env := by rfl) (hpl : (backTo p2 (starEach [b, c] X.env)).any (·.1) = false := by rfl) :
    DI X tg (.Call (.Name "range" p) [a, b, c] [] p2) (iRng3 t) (wiR3 wr) := ⟨pi_range3 hgl hm ha.pa hs hpl, fun M σ H ρ pv pd P R A h q => by
  refine ha.sd M σ H ρ pv pd _ _ A h fun vs ds H1 ρ1 hl A1 h1 => ?_
  split at h1
  · next i j c =>
    have A2 := (At.popA A1 hl).dum
    obtain ⟨ow, B, hp⟩ := A1
    obtain ⟨v, v', v'', rfl, gv, gv', gv''⟩ := da3 (DvAll.split hl hp).1
    cases gv
    cases gv'
    cases gv''
    exact ⟨i, j, c, _, rfl, rgC_pos h1.1 h1.2.1 h1.2.2.1 h1.2.2.2.1, q _ _ _ _ _ _ A2 src_rngC h1.2.2.2.2⟩
  · exact h1.elim⟩
theorem wForC_of {lo c : Int} {n : Nat} {wg : WG} {wb : WS} {DD : DEnds} {ρ : Rho} (I : Nat → Rho → Prop) (h0 : I 0 ρ) (hs : ∀ i ρ, i < n → I i ρ → wg (.int (lo + i * c)) ρ fun ρ1 => wb { DD with nx := I (i + 1), ct := I (i + 1), bk := DD.nx } ρ1) (hd : ∀ ρ, I n ρ → DD.nx ρ) : wForD (rngC lo c n) wg wb DD ρ :=
  ⟨I, h0, fun i x ρ hx hi => by
    obtain ⟨h1, rfl⟩ := rngC_get hx
    exact hs i ρ h1 hi, fun ρ h => hd ρ (by rwa [rngC_len] at h)⟩
theorem eqOk_bb (a b : Bool) : eqOk (.bool a) (.bool b) := ⟨rfl, rfl, .inl (by simp [PyData.depth])⟩
theorem dNe_bb {a b : Bool} {P : D → Prop} : dNe (.bool a) (.bool b) P = P (.bool (!(a == b))) := propext ⟨fun h => by
  have e : PyData.eqv (.bool a) (.bool b) = (a == b) := by simp [PyData.eqv]
  rw [← e]; exact h.2, fun h => ⟨eqOk_bb a b, by
  have e : PyData.eqv (.bool a) (.bool b) = (a == b) := by simp [PyData.eqv]
  rw [e]; exact h⟩⟩
theorem dEq_bb {a b : Bool} {P : D → Prop} : dEq (.bool a) (.bool b) P = P (.bool (a == b)) := propext ⟨fun h => by
  have e : PyData.eqv (.bool a) (.bool b) = (a == b) := by simp [PyData.eqv]
  rw [← e]; exact h.2, fun h => ⟨eqOk_bb a b, by
  have e : PyData.eqv (.bool a) (.bool b) = (a == b) := by simp [PyData.eqv]
  rw [e]; exact h⟩⟩
end DL

namespace DL
open PySem PySem.Spec PyProof.Rows L2
/-! ## a call that is never reached -/
def pre_never : List D → Prop := fun _ => False
def post_never : List D → D → Prop := fun _ _ => False
theorem fn_never {P : Program} {w : World} {K K' : Fg} {mg : Str → Option Value} {base : Heap} {CX : CXT} {k : Nat} {f : Addr} {fd : FuncData} {ps : List Str} : FnOk P w K mg base CX k f fd ps (SpD K' pre_never post_never) where
  len := fun vs H Q E h => by
    obtain ⟨_, _, _, _, _, _, _, _, p, _⟩ := h
    exact p.elim
  run := fun A outer s H args us vs Q E _ _ _ _ h => by
    obtain ⟨_, _, _, _, _, _, _, _, p, _⟩ := h
    exact p.elim
/-! ## own[i + j] -/
section
variable {X : Cx} {K : Fg} {a b e : Expr} {ta tb : TE} {wa wb : WP} {pos : Pos}
def pAdd (wa wb : WP) : WP := fun ρ => match wa ρ, wb ρ with
  | some (.int i), some (.int j) => some (.int (i + j))
  | _, _ => none
def pSub (wa wb : WP) : WP := fun ρ => match wa ρ, wb ρ with
  | some (.int i), some (.int j) => some (.int (i - j))
  | _, _ => none
theorem dp_add (ha : DP X a ta wa) (hb : DP X b tb wb) : DP X (.BinOp a .Add b pos) (tOp (rAddD X.K) ta tb) (pAdd wa wb) := ⟨pe_op op_addD ha.pe hb.pe, fun M σ H ρ ow d A h => by
  unfold pAdd at h
  split at h
  · next i j e1 e2 =>
    cases h
    obtain ⟨v, g1, k1⟩ := ha.sd M σ H ρ ow _ A e1
    obtain ⟨u, g2, k2⟩ := hb.sd M σ H ρ ow _ A e2
    cases g1
    cases g2
    exact ⟨_, .int _, fun Q q => k1 _ (k2 _ (.inl ⟨_, _, rfl, rfl, q⟩))⟩
  · cases h⟩
theorem dp_sub (ha : DP X a ta wa) (hb : DP X b tb wb) : DP X (.BinOp a .Sub b pos) (tOp (rI0 fun i j => .int (i - j)) ta tb) (pSub wa wb) := ⟨pe_op op_sub ha.pe hb.pe, fun M σ H ρ ow d A h => by
  unfold pSub at h
  split at h
  · next i j e1 e2 =>
    cases h
    obtain ⟨v, g1, k1⟩ := ha.sd M σ H ρ ow _ A e1
    obtain ⟨u, g2, k2⟩ := hb.sd M σ H ρ ow _ A e2
    cases g1
    cases g2
    exact ⟨_, .int _, fun Q q => k1 _ (k2 _ ⟨_, _, rfl, rfl, q⟩)⟩
  · cases h⟩
end
/-! ## equality of texts -/
theorem dEq_ss {a b : Str} {P : D → Prop} : dEq (.str a) (.str b) P = P (.bool (a == b)) := propext ⟨fun h => by
  have e : PyData.eqv (.str a) (.str b) = (a == b) := by simp [PyData.eqv]
  rw [← e]; exact h.2, fun h => ⟨⟨rfl, rfl, .inl (by simp [PyData.depth])⟩, by
  have e : PyData.eqv (.str a) (.str b) = (a == b) := by simp [PyData.eqv]
  rw [e]; exact h⟩⟩
theorem dNe_ss {a b : Str} {P : D → Prop} : dNe (.str a) (.str b) P = P (.bool (!(a == b))) := propext ⟨fun h => by
  have e : PyData.eqv (.str a) (.str b) = (a == b) := by simp [PyData.eqv]
  rw [← e]; exact h.2, fun h => ⟨⟨rfl, rfl, .inl (by simp [PyData.depth])⟩, by
  have e : PyData.eqv (.str a) (.str b) = (a == b) := by simp [PyData.eqv]
  rw [e]; exact h⟩⟩
abbrev tQ : Str := Str.ofString "Q"
abbrev tF : Str := Str.ofString "F"
abbrev tP : Str := Str.ofString "P"
abbrev tZ : Str := Str.ofString "Z"
theorem s_QQ : (Str.ofString "Q" == Str.ofString "Q") = true := by decide +kernel
theorem s_FF : (Str.ofString "F" == Str.ofString "F") = true := by decide +kernel
theorem s_PP : (Str.ofString "P" == Str.ofString "P") = true := by decide +kernel
theorem s_ZZ : (Str.ofString "Z" == Str.ofString "Z") = true := by decide +kernel
theorem s_QF : (Str.ofString "Q" == Str.ofString "F") = false := by decide +kernel
theorem s_QP : (Str.ofString "Q" == Str.ofString "P") = false := by decide +kernel
theorem s_QZ : (Str.ofString "Q" == Str.ofString "Z") = false := by decide +kernel
theorem s_FQ : (Str.ofString "F" == Str.ofString "Q") = false := by decide +kernel
theorem s_FP : (Str.ofString "F" == Str.ofString "P") = false := by decide +kernel
theorem s_FZ : (Str.ofString "F" == Str.ofString "Z") = false := by decide +kernel
theorem s_PQ : (Str.ofString "P" == Str.ofString "Q") = false := by decide +kernel
theorem s_PF : (Str.ofString "P" == Str.ofString "F") = false := by decide +kernel
theorem s_PZ : (Str.ofString "P" == Str.ofString "Z") = false := by decide +kernel
theorem s_ZQ : (Str.ofString "Z" == Str.ofString "Q") = false := by decide +kernel
theorem s_ZF : (Str.ofString "Z" == Str.ofString "F") = false := by decide +kernel
theorem s_ZP : (Str.ofString "Z" == Str.ofString "P") = false := by decide +kernel
/-- equality of what is equal or not for a known reason -/
theorem dEq_of {x y : D} {b : Bool} {P : D → Prop} (h : eqOk x y) (e : PyData.eqv x y = b) : dEq x y P = P (.bool b) := propext ⟨fun z => e ▸ z.2, fun z => ⟨h, by rw [e]; exact z⟩⟩
theorem dNe_of {x y : D} {b : Bool} {P : D → Prop} (h : eqOk x y) (e : PyData.eqv x y = b) : dNe x y P = P (.bool (!b)) := propext ⟨fun z => e ▸ z.2, fun z => ⟨h, by rw [e]; exact z⟩⟩
end DL
namespace DL
open PySem PySem.Spec PyProof.Rows L2
theorem cutD_pre {xs : List D} {m : Nat} (h : m ≤ xs.length) : cutD xs none (some (m : Int)) = xs.take m := by
  unfold cutD
  rw [HT.sIx_none, HT.sIx_nat, Nat.min_eq_left h, Nat.sub_zero, List.drop_zero]
theorem cutD_suf {xs : List D} {m : Nat} (h : m ≤ xs.length) : cutD xs (some (m : Int)) none = xs.drop m := by
  unfold cutD
  rw [HT.sIx_none, HT.sIx_nat, Nat.min_eq_left h]
  exact List.take_of_length_le (by simp)
end DL
namespace DL
open PySem PySem.Spec PyProof.Rows L2
/-- a comprehension over range(N), without a condition, its items g j -/
theorem wCompR_of {N i : Nat} {we : WE} {ρ : Rho} {P : List D → Rho → Prop} (g : Nat → D) (hN : N ≤ 100000)
    (hs : ∀ (j : Nat) (Q : D → Rho → Prop), j < N → Q (g j) (put ρ i (.val (.int j))) → we (put ρ i (.val (.int j))) Q)
    (hP : P ((List.range N).map g) (put ρ i .un)) : wCompD (rngD 0 N) i wYes we ρ P := by
  refine ⟨fun j acc => acc = (List.range j).map g, rfl, fun j x acc hx hI => ?_, fun acc hI => ?_⟩
  · obtain ⟨h1, rfl⟩ := rngD_get hx
    subst hI
    refine ⟨rfl, ?_⟩
    rw [if_pos rfl, Int.zero_add]
    refine hs j _ h1 ⟨rfl, by simp; omega, ?_⟩
    show _ = (List.range (j + 1)).map g
    rw [List.range_succ, List.map_append]
    rfl
  · rw [rngD_len] at hI
    subst hI
    exact hP
end DL
namespace DL
open PySem PySem.Spec PyProof.Rows L2
/-- a comprehension over given items, without a condition, its answer es -/
theorem wCompL_of {ds es : List D} {i : Nat} {we : WE} {ρ : Rho} {P : List D → Rho → Prop} (hl : es.length = ds.length) (hN : ds.length ≤ 100000)
    (hs : ∀ (j : Nat) (x y : D) (Q : D → Rho → Prop), ds[j]? = some x → es[j]? = some y → Q y (put ρ i (.val x)) → we (put ρ i (.val x)) Q)
    (hP : P es (put ρ i .un)) : wCompD ds i wYes we ρ P := by
  refine ⟨fun j acc => acc = es.take j, rfl, fun j x acc hx hI => ?_, fun acc hI => ?_⟩
  · subst hI
    refine ⟨rfl, ?_⟩
    rw [if_pos rfl]
    have hj : j < ds.length := (List.getElem?_eq_some_iff.mp hx).1
    have hy : es[j]? = some es[j] := List.getElem?_eq_getElem (by omega)
    refine hs j x es[j] _ hx hy ⟨rfl, by simp; omega, ?_⟩
    show _ = es.take (j + 1)
    rw [List.take_succ, hy]
    rfl
  · rw [← hl, List.take_length] at hI
    subst hI
    exact hP
end DL

namespace DL
open PySem PySem.Spec PyProof.Rows L2
/-! ## enumerate(list), enumerate(list, start=k): pairs of a number and an item -/
def Itn (K : Fg) (k0 : Int) (a : Addr) : It where
  go i H := ∃ (ys : List V) (y : V), SqL K H a ys ∧ ys[i]? = some y
  yld i H v H' := ∃ T y, v = V.ref T ∧ H T = none ∧ H' = upd H T (.tup [.int (k0 + (i : Nat)), y]) ∧ (∀ ys, SqL K H a ys → ys[i]? = some y)
  stop i H := ∃ ys : List V, SqL K H a ys ∧ ys.length = i
def tnE (k0 : Int) (a e c : Addr) (i : Nat) (h : Heap) : Prop := (∃ old, IsEnum h e c (k0 + (i : Nat)) old) ∧ (h.IsListIter c a i ∧ e ≠ c)
theorem mem2 {b e c : Addr} (h : b ∈ [e, c]) : b = e ∨ b = c := by simpa using h
theorem turn_n {P : Program} {w : World} {K : Fg} {es : List Expr} {kk : Nat} {tp : Pos} (k0 : Int) (a e c : Addr) : Turn P w K (.Tuple es kk tp) (Itn K k0 a) [e, c] e (tnE k0 a e c) where
  mem := List.mem_cons_self ..
  obj i h st b hb := by
    have ⟨⟨_, he⟩, ⟨o, ho, _, hd⟩, _⟩ := st
    cases mem2 hb with
    | inl z => subst z; exact ⟨_, he, fun v q => nomatch q⟩
    | inr z => subst z; exact ⟨o, ho, fun v q => by rw [hd] at q; cases q⟩
  keep i h h' st k := by
    have ⟨⟨old, he⟩, hi, hne⟩ := st
    exact ⟨⟨old, k e (List.mem_cons_self ..) _ he⟩, (hi.at fun o q => k c (by simp) o q), hne⟩
  item := by
    intro X hP hw hK hc i pins s σ H E I hf st hg
    cases hP; cases hw; cases hK
    have ⟨⟨old, he⟩, hit, hne⟩ := st
    have ⟨ys, y, hq, hy⟩ := hg
    obtain ⟨its, rv, pl, _⟩ := I.list hq
    obtain ⟨u, hu, ru⟩ := rv.get hy
    have le := Heap.lt_size he
    have lc : c < s.heap.objs.size := by have ⟨_, q, _⟩ := hit; exact Heap.lt_size q
    have nea : e ≠ a := fun z => by
      have ⟨o, q1, q2⟩ := pl.isList
      rw [z] at he
      have z2 := q1.symm.trans he
      injection z2 with z2
      rw [z2] at q2
      exact absurd q2.1 (by simp)
    have hh := I.ok.hd hc
    have nca : a ≠ c := fun z => by
      have ⟨o, q1, q2⟩ := pl.isList
      have ⟨o', q3, q4, _⟩ := hit
      rw [← z] at q3
      have z2 := q1.symm.trans q3
      injection z2 with z2
      rw [z2] at q2
      exact absurd (q4.symm.trans q2.1) (by simp)
    have hlt : i < its.toArray.size := by
      have := (List.getElem?_eq_some_iff.mp hu).1
      simpa using this
    refine wpAny_pyNext_enum_itemC (Draws.list (A := X.A.in1) hh c a nca its.toArray) he ⟨hit, pl.isList⟩ hlt hne (by simp [hne, nea]) (fun x h1 tk hx ho hst1 hT hsz hk => ⟨_, rfl, wpAny_letOwnedTupleGo_enum (s := { s with heap := h1, toks := tk + 1 }) ho (fun h2 he2 sb => ?_)⟩)
    have hit1 := hst1.1
    have ex : x = u := by
      have : its[i]? = some x := by simpa using hx
      exact Option.some.inj (this.symm.trans hu)
    subst ex
    have hT2 := (sb.2 _ (Nat.ne_of_gt le)).trans hT
    have new : ObjOk X.prog X.w (upd H s.heap.objs.size (.tup [.int (k0 + (i : Nat)), y])) h2 s.heap.objs.size (.tup [.int (k0 + (i : Nat)), y]) := by
      refine ⟨?_, [.int (k0 + (i : Nat)) tk, x], .cons ⟨_, rfl⟩ (.cons ru .nil), _, hT2, rfl, _, rfl⟩
      show 2 ≤ sizeLine
      decide
    have I1 : Inv X pins σ (upd H s.heap.objs.size (.tup [.int (k0 + (i : Nat)), y])) { s with heap := h2, toks := tk + 1 } := by
      refine I.turnedNew (ch := [e, c]) (fun b ob hb q => ?_) hf (Nat.le_refl _) new
      have be : b ≠ e := fun z => hb (by simp [z])
      have bc : b ≠ c := fun z => hb (by simp [z])
      exact (sb.2 b be).trans (hk b ob be bc q)
    refine ⟨.ref s.heap.objs.size, _, I1, rfl, ⟨_, y, rfl, I.hok.fresh (Nat.le_refl _), rfl, fun zs hz => ?_⟩, ⟨⟨x, ?_⟩, hit1.at (fun o q => (sb.2 c (Ne.symm hne)).trans q), hne⟩, fun b hb => ?_⟩
    · rw [I.list_inj hz hq]; exact hy
    · rw [show k0 + ((i + 1 : Nat) : Int) = k0 + (i : Nat) + 1 by omega]
      exact he2
    · have hb' : b < s.heap.objs.size := by
        rcases mem2 hb with z | z <;> (rw [z]; assumption)
      rw [upd_ne (Nat.ne_of_lt hb')]
      exact (hf b hb).1
  done := by
    intro X hP hw hK hc i pins s σ H E I hf st hg
    cases hP; cases hw; cases hK
    have ⟨⟨old, he⟩, hit, hne⟩ := st
    have ⟨ys, hq, hy⟩ := hg
    obtain ⟨its, rv, pl, _⟩ := I.list hq
    have ⟨f0, f1, f2, f3, f4, f5⟩ := hf c (by simp)
    have hl := rv.length
    have hh := I.ok.hd hc
    have nca : a ≠ c := fun z => by
      have ⟨o, q1, q2⟩ := pl.isList
      have ⟨o', q3, q4, _⟩ := hit
      rw [← z] at q3
      have z2 := q1.symm.trans q3
      injection z2 with z2
      rw [z2] at q2
      exact absurd (q4.symm.trans q2.1) (by simp)
    refine wpAny_pyNext_enum_endD (Draws.list (A := X.A.in1) hh c a nca its.toArray) he ⟨?_, pl.isList⟩ (fun h' eb => ⟨rfl, ?_⟩)
    · have e : its.toArray.size = i := by simp; omega
      rw [e]; exact hit
    exact I.turned (t' := s.toks) (fun b o hb q => eb b o hb q) f0 f1 f3 f4 f5
  self A i s Q E st h := by
    have ⟨⟨_, he⟩, _⟩ := st
    exact wpAny_pyIter_enum he h
def iEnumD (K : Fg) (ta : TA) : TI := fun σ H R => ta σ H fun vs H1 => ∃ a ys, vs = [V.ref a] ∧ SqL K H1 a ys ∧ R (Itn K 0 a) H1
def iEnumS (K : Fg) (ta tb : TA) : TI := fun σ H R => ta σ H fun vs H1 => tb σ H1 fun ks H2 => ∃ a ys k, vs = [V.ref a] ∧ ks = [V.int k] ∧ -(2 ^ 62) ≤ k ∧ k < 2 ^ 62 ∧ SqL K H2 a ys ∧ R (Itn K k a) H2
theorem callWith_typeKw {M : Model} {A : Around} {E : Value → Shared → Prop} {s : Shared} {pos : Pos} {T : String} {first : List Value} {args : List (Bool × Sem Value)} {kws : List (Option Str × Sem Value)} {Q : Value → Shared → Prop} (hp : args.any (·.1) = false) (hk : kws.any (·.1.isNone) = false)
    (h : wpAny M A (evalArgs (.type T) true args kws) (fun a s1 => wpAny M A (call (.type T) (first ++ a.pos) a.kw) Q E s1) E s) : wpAny M A (callWith pos (.type T) first args kws) Q E s := by
  rw [callWith]
  refine wpAny_bind (wpAny_holding (wpAny_mono h (fun a s1 h1 => ?_) fun _ _ z => z))
  refine wpAny_bind (wpAny_standAt ?_)
  simp only [hp, hk, Bool.or_false]
  refine wpAny_bind (wpAny_pure (wpAny_bind (wpAny_mono h1 (fun r s2 hr => ?_) fun _ _ z => z)))
  exact wpAny_bind (wpAny_holding (wpAny_point (wpAny_pure hr)))
theorem vals_one {vs : List V} {us : List Value} {v : V} (h : Vals vs us) (e : vs = [v]) : ∃ u, us = [u] ∧ RelV v u := by
  subst e
  cases h with
  | cons r rr => cases rr; exact ⟨_, rfl, r⟩
theorem new2 {X : Cx} {pins : List (Addr × Obj)} {σ : L2.St} {H : Hp} {s : Shared} (I : Inv X pins σ H s) (b : Addr) (hb : b ∈ [s.heap.objs.size + 1, s.heap.objs.size]) : FpOk X pins H b := by
  have hle : s.heap.objs.size ≤ b := by
    rcases mem2 hb with z | z
    · rw [z]; exact Nat.le_succ _
    · rw [z]; exact Nat.le_refl _
  exact I.fpOk hle (I.hok.fresh hle)
section
variable {X : Cx} {e e2 : Expr} {ta tb : TA} {p pos tp kp : Pos} {es : List Expr} {kk : Nat}
theorem pi_enumD (hg : Gl X "enumerate") (hm : X.mg "enumerate" = none) (ha : PA X [e] ta) (hs : starEach [e] X.env = [(false, eval e X.env)] := by rfl) : PI X (.Tuple es kk tp) (.Call (.Name "enumerate" p) [e] [] pos) (iEnumD X.K ta) := by
  refine ⟨fun pins s σ H R I h => Call_ (ld_blt I hg hm boot_enumerate (PyProof.Rows.callWith_type1 (thn (ha.run pos pins s σ H _ I h) fun us s1 ⟨vs, H1, I1, r1, q1⟩ => ?_) hs rfl))⟩
  obtain ⟨a, ys, ex, hq, q⟩ := q1
  obtain ⟨u, rfl, ru⟩ := vals_one r1 ex
  cases ru
  obtain ⟨its, rv, pl, _⟩ := I1.list hq
  refine call_enumerate_list pl.isList (fun h1 he hit hsz hk => wpAny_pyIter_enum he ?_)
  exact ⟨s1.heap.objs.size + 1, [s1.heap.objs.size + 1, s1.heap.objs.size], _, _, H1, rfl, I1.kept (t' := s1.toks) hk, turn_n 0 a (s1.heap.objs.size + 1) s1.heap.objs.size, ⟨⟨.none, he⟩, hit, Nat.succ_ne_self _⟩, new2 (I1.kept (t' := s1.toks) hk |> fun _ => I1), q⟩
theorem pi_enumS (hg : Gl X "enumerate") (hm : X.mg "enumerate" = none) (ha : PA X [e] ta) (hb : PK X [⟨some (Str.ofString "start"), e2, kp⟩] tb) (hs : backTo pos (starEach [e] X.env) = [(false, eval e X.env)] := by rfl)
    (hall : (backToKw pos (keywordEach [⟨some (Str.ofString "start"), e2, kp⟩] X.env)).all (·.1.isSome) = true := by rfl) (hno : (backToKw pos (keywordEach [⟨some (Str.ofString "start"), e2, kp⟩] X.env)).any (·.1.isNone) = false := by rfl)
    (hks : (backToKw pos (keywordEach [⟨some (Str.ofString "start"), e2, kp⟩] X.env)).filterMap (·.1) = [Str.ofString "start"] := by rfl) :
    PI X (.Tuple es kk tp) (.Call (.Name "enumerate" p) [e] [⟨some (Str.ofString "start"), e2, kp⟩] pos) (iEnumS X.K ta tb) := by
  refine ⟨fun pins s σ H R I h => wpAny_Call_Name_kw (ld_blt I hg hm boot_enumerate (callWith_typeKw (by rw [hs]; rfl) hno ?_))⟩
  rw [hs]
  refine PyProof.Rows.evalArgs_kwB hall ?_
  have hr := ha.run pos pins s σ H _ I h
  rw [hs] at hr
  refine thn hr fun us s1 ⟨vs, H1, I1, r1, q1⟩ => thn (hb.run pos pins s1 σ H1 _ I1 q1) fun ws s2 ⟨zs, H2, I2, r2, q2⟩ => ?_
  rw [hks]
  obtain ⟨a, ys, k, ex, ez, k0, k1, hq, q⟩ := q2
  obtain ⟨u, rfl, ru⟩ := vals_one r1 ex
  obtain ⟨z, rfl, rz⟩ := vals_one r2 ez
  cases ru
  obtain ⟨t, rfl⟩ := rz
  obtain ⟨its, rv, pl, _⟩ := I2.list hq
  refine enum_begins_start (begins_list a its.toArray) pl.isList (by omega) (by omega) (fun h1 he hit hsz hk => wpAny_pyIter_enum he ?_)
  refine ⟨s2.heap.objs.size + 1, [s2.heap.objs.size + 1, s2.heap.objs.size], _, _, H2, rfl, I2.kept (t' := s2.toks) hk, turn_n k a (s2.heap.objs.size + 1) s2.heap.objs.size, ⟨⟨.none, ?_⟩, ⟨_, hit, rfl, rfl⟩, Nat.succ_ne_self _⟩, new2 I2, q⟩
  rw [show k + ((0 : Nat) : Int) = k by omega]
  exact he
end
/-- the pairs -/
def enD (k0 : Int) (ds : List D) : List D := ds.mapIdx fun i d => .tuple [.int (k0 + (i : Nat)), d]
theorem enD_len (k0 : Int) (ds : List D) : (enD k0 ds).length = ds.length := by simp [enD]
theorem enD_get {k0 : Int} {ds : List D} {i : Nat} {x : D} (h : (enD k0 ds)[i]? = some x) : ∃ d, ds[i]? = some d ∧ x = .tuple [.int (k0 + (i : Nat)), d] := by
  unfold enD at h
  rw [List.getElem?_mapIdx] at h
  cases q : ds[i]? with
  | none => rw [q] at h; cases h
  | some d => rw [q] at h; cases h; exact ⟨d, rfl, rfl⟩
theorem src_n {K : Fg} {k0 : Int} {l : Addr} {ds : List D} : SrcOk K (Itn K k0 l) (.ref l) (.list ds) (enD k0 ds) := fun M σ H ρ pv pd A => by
  obtain ⟨ow, B, hp⟩ := A
  cases hp with
  | cons g3 hp =>
    cases g3 with
    | @lst _ ys _ g3 g4 =>
      have hS : SqL K H l ys := .of (hide_le _ _ g3)
      refine ⟨fun i hi => ?_, ⟨ys, hS, by rw [g4.length, enD_len]⟩⟩
      have hi' : i < ds.length := by rwa [enD_len] at hi
      obtain ⟨y, gy, gyd⟩ := g4.get (List.getElem?_eq_getElem hi')
      refine ⟨⟨ys, y, hS, gy⟩, fun x H' hy => ?_⟩
      obtain ⟨T, z, rfl, hT, rfl, fv⟩ := hy
      have ex : z = y := Option.some.inj ((fv _ hS).symm.trans gy)
      subst ex
      obtain ⟨d, hd, ee⟩ := enD_get (List.getElem?_eq_getElem hi)
      rw [ee]
      have : d = ds[i] := Option.some.inj (hd.symm.trans (List.getElem?_eq_getElem hi'))
      subst this
      have e : Same H (upd H T (.tup [.int (k0 + (i : Nat)), z])) := same_new hT
      refine ⟨ow, B.step (.of e) (B.cok.mono e), .cons (.tup (.of (new_vis B.hall hT)) (.cons (.int _) (.cons (gyd.mono (vis_of e)) .nil))) ?_⟩
      exact DvAll.mono (vis_of e) (.cons (.lst g3 g4) hp)
def wiEnum (wr : WA) : WI := fun ρ P => wr ρ fun ds ρ1 => match ds with
  | [.list es] => P (enD 0 es) ρ1
  | _ => False
def wiEnumS (wr wk : WA) : WI := fun ρ P => wr ρ fun ds ρ1 => wk ρ1 fun ks ρ2 => match ds, ks with
  | [.list es], [.int k] => rngOk k ∧ P (enD k es) ρ2
  | _, _ => False
section
variable {X : Cx} {K : Fg} {a b e tg : Expr} {ta tb : TE} {wa wb : WE} {t u : TA} {wr wk : WA} {p pos tp kp : Pos} {es : List Expr} {kk : Nat}
theorem di_enum (hg : Gl X "enumerate") (hm : X.mg "enumerate" = none) (ha : DA X [e] t wr) (hs : starEach [e] X.env = [(false, eval e X.env)] := by rfl) : DI X (.Tuple es kk tp) (.Call (.Name "enumerate" p) [e] [] pos) (iEnumD X.K t) (wiEnum wr) := ⟨pi_enumD hg hm ha.pa hs, fun M σ H ρ pv pd P R A h q => by
  refine ha.sd M σ H ρ pv pd _ _ A h fun vs ds H1 ρ1 hl A1 h1 => ?_
  split at h1
  · next es' =>
    obtain ⟨ow, B, hp⟩ := A1
    obtain ⟨g1, g2⟩ := DvAll.split hl hp
    obtain ⟨v, rfl, gv⟩ := da1 g1
    cases gv with
    | lst g3 g4 => exact ⟨_, _, rfl, .of (hide_le _ _ g3), q _ _ _ _ _ _ ⟨ow, B, .cons (.lst g3 g4) g2⟩ src_n h1⟩
  · exact h1.elim⟩
theorem di_enumS (hg : Gl X "enumerate") (hm : X.mg "enumerate" = none) (ha : DA X [e] t wr) (hb : DE X b tb wb) (hs : backTo pos (starEach [e] X.env) = [(false, eval e X.env)] := by rfl)
    (hall : (backToKw pos (keywordEach [⟨some (Str.ofString "start"), b, kp⟩] X.env)).all (·.1.isSome) = true := by rfl) (hno : (backToKw pos (keywordEach [⟨some (Str.ofString "start"), b, kp⟩] X.env)).any (·.1.isNone) = false := by rfl)
    (hks : (backToKw pos (keywordEach [⟨some (Str.ofString "start"), b, kp⟩] X.env)).filterMap (·.1) = [Str.ofString "start"] := by rfl) (hst : starEach [b] X.env = (false, eval b X.env) :: starEach [] X.env := by rfl) :
    DI X (.Tuple es kk tp) (.Call (.Name "enumerate" p) [e] [⟨some (Str.ofString "start"), b, kp⟩] pos) (iEnumS X.K t (tCons tb tNil)) (wiEnumS wr (wCons wb wNil)) := ⟨pi_enumS hg hm ha.pa (pk_cons hb.pe pk_nil) hs hall hno hks, fun M σ H ρ pv pd P R A h q => by
  refine ha.sd M σ H ρ pv pd _ _ A h fun vs ds H1 ρ1 hl A1 h1 => ?_
  refine (da_cons hb da_nil hst).sd M σ H1 ρ1 _ _ _ _ A1 h1 fun zs ks H2 ρ2 hl2 A2 h2 => ?_
  split at h2
  · next es' k =>
    obtain ⟨ow, B, hp⟩ := A2
    obtain ⟨g1, g2⟩ := DvAll.split hl2 hp
    obtain ⟨g3, g4⟩ := DvAll.split hl g2
    obtain ⟨v, rfl, gv⟩ := da1 g3
    obtain ⟨z, rfl, gz⟩ := da1 g1
    cases gz
    cases gv with
    | lst g5 g6 => exact ⟨_, _, k, rfl, rfl, h2.1.1, h2.1.2, .of (hide_le _ _ g5), q _ _ _ _ _ _ ⟨ow, B, .cons (.lst g5 g6) g4⟩ src_n h2.2⟩
  · exact h2.elim⟩
end
/-! ## own[k] op= e, own.pop() -/
def rGetL : V → V → Hp → VK → Prop := fun o i H Q => ∃ p xs k v, o = V.ref p ∧ i = V.int k ∧ H p = some (.lst xs) ∧ 0 ≤ k ∧ xs[k.toNat]? = some v ∧ Q v H
theorem get_lst {X : Cx} : PGet X rGetL := by
  intro pins s σ H o i ov iv Q I ro ri h
  obtain ⟨p, xs, k, v, rfl, rfl, hp, h0, hv, q⟩ := h
  cases ro
  obtain ⟨t, rfl⟩ := ri
  obtain ⟨its, r, pl, hz⟩ := I.list (.of hp)
  obtain ⟨u, hu, ru⟩ := r.get hv
  have hlt := (List.getElem?_eq_some_iff.mp hv).1
  have hn := line63
  exact wpAny_getItem_list pl.isList h0 (by omega) (by simpa using hu) ⟨v, H, I, ru, q⟩
def wAugIx (i : Nat) (op : Int → Int → Int) (wk : WP) (we : WE) : WS := fun DD ρ => match look ρ i, wk ρ with
  | .own ds, some (.int k) => 0 ≤ k ∧ k.toNat < ds.length ∧ ∃ x, ds[k.toNat]? = some (.int x) ∧ we ρ fun y ρ1 => match y, look ρ1 i with
    | .int y, .own ds1 => ds1 = ds ∧ DD.nx (put ρ1 i (.own (ds.set k.toNat (.int (op x y)))))
    | _, _ => False
  | _, _ => False
theorem ixN_nat {n : Nat} {k : Int} (h : 0 ≤ k) (hk : k.toNat < n) : ixN n k = some k.toNat := by
  unfold ixN
  rw [if_pos h, if_pos (by omega)]
section
variable {X : Cx} {K : Fg} {a b e : Expr} {ta tb : TE} {wa wb : WE} {wk : WP} {pos p p2 : Pos}
theorem snds_augix {i : Nat} {op : Int → Int → Int} (hk : SndP K tb wk) (he : Snd K ta wa) : SndS K (tAugS (tVar i) tb ta rGetL (ipI op) rSetL) (wAugIx i op wk wa) := fun M σ H ρ pv pd DD HD A h F => by
  have A0 := A
  obtain ⟨ow, B, hp⟩ := A
  unfold wAugIx at h
  split at h
  · next ds k e1 e2 =>
    obtain ⟨h0, hlt, x, hx, h⟩ := h
    obtain ⟨q, xs, h1, h2, h3, h4⟩ := B.own i ds e1
    refine ⟨.ref q, h2, ?_⟩
    obtain ⟨kv, gk, hQ⟩ := hk M σ H ρ ow _ B e2
    cases gk
    refine hQ _ ?_
    obtain ⟨xv, hxv, gx⟩ := h4.get hx
    cases gx
    refine ⟨q, xs, k, _, rfl, rfl, h3, h0, hxv, ?_⟩
    refine he M σ H ρ pv pd _ _ A0 h fun y dy H1 ρ1 A1 h' => ?_
    split at h'
    · next y ds1 e3 =>
      obtain ⟨rfl, h'⟩ := h'
      obtain ⟨ow1, B1, hp1⟩ := A1
      cases hp1 with
      | cons gy hp1 =>
        cases gy
        refine ⟨x, y, rfl, rfl, ?_⟩
        obtain ⟨q1, xs1, k1, k2, k3, k4⟩ := B1.own i ds1 e3
        have : q1 = q := by
          rw [h2] at k2
          cases k2; rfl
        subst this
        obtain ⟨C, vis⟩ := B1.owset e3 k1 (k4.set (.int (op x y)) k.toNat)
        refine ⟨q1, xs1, k, k.toNat, rfl, rfl, k3, ixN_nat h0 (by rw [k4.length]; exact hlt), F.nx _ _ _ ⟨ow1, C, hp1.mono vis⟩ h'⟩
    · exact h'.elim
  · exact h.elim
theorem ds_augix {i : Nat} {x : Str} {px p3 : Pos} {op : Operator} {f : Int → Int → Int} (ho : PIp X op (ipI f)) (hn : PE X (.Name x px) (tVar i)) (hk : DP X b tb wk) (he : DE X e ta wa)
    (ha : ∀ ov iv new, augStore b ov iv new = (do holding [new, ov, iv] (setItem ov iv new); release [new, ov, iv] []; pure .next) := by intros; rfl) : DS X (.AugAssign (.Subscript (.Name x px) b p2) op e p3) (tAugS (tVar i) tb ta rGetL (ipI f) rSetL) (wAugIx i f wk wa) :=
  ⟨ps_augS hn hk.pe get_lst he.pe ho set_list ha, snds_augix hk.sd he.sd⟩
def wPop (i : Nat) : WE := fun ρ P => match look ρ i with
  | .own ds => ∃ d, ds[ds.length - 1]? = some d ∧ P d (put ρ i (.own ds.dropLast))
  | _ => False
theorem snd_pop {i : Nat} : Snd K (tBM0 K "list" rPop (tVar i)) (wPop i) := fun M σ H ρ pv pd P Q A h q => by
  obtain ⟨ow, B, hp⟩ := A
  unfold wPop at h
  split at h
  · next ds e1 =>
    obtain ⟨d, hd, h⟩ := h
    obtain ⟨a, xs, h1, h2, h3, h4⟩ := B.own i ds e1
    obtain ⟨v, hv, gv⟩ := h4.get hd
    obtain ⟨C, vis⟩ := B.owset e1 h1 h4.dropLast
    exact ⟨.ref a, h2, .inl ⟨rfl, xs, .of h3⟩, a, xs, v, rfl, rfl, h3, by rw [h4.length]; exact hv, q v d _ _ ⟨ow, C, .cons (gv.mono vis) (hp.mono vis)⟩ h⟩
  · exact h.elim
theorem de_pop {i : Nat} {x : Str} {px p1 : Pos} (hn : PE X (.Name x px) (tVar i)) (hbase : attributeBase (.Name x px) "pop" X.env (eval (.Name x px) X.env) = eval (.Name x px) X.env := by rfl) (hline : (p1.endLine == p2.line) = true := by rfl) :
    DE X (.Call (.Attribute (.Name x px) "pop" p1) [] [] p2) (tBM0 X.K "list" rPop (tVar i)) (wPop i) := ⟨pe_bm0 PySem.F.plainAttrs_list PySem.F.slot_list_pop PySem.F.type_list_pop mt_pop hn hbase hline, snd_pop⟩
/-! ## k.bit_length(), k >> j, k & j -/
def wBits (wa : WE) : WE := fun ρ P => wa ρ fun x ρ1 => match x with
  | .int i => P (.int (Builtin.Int.intBits i : Nat)) ρ1
  | _ => False
theorem de_bits {p1 : Pos} (ha : DE X a ta wa) (hbase : attributeBase a "bit_length" X.env (eval a X.env) = eval a X.env := by rfl) (hline : (p1.endLine == p2.line) = true := by rfl) :
    DE X (.Call (.Attribute a "bit_length" p1) [] [] p2) (tBits ta) (wBits wa) := ⟨pe_bits ha.pe hbase hline, fun M σ H ρ pv pd P Q A h q => by
  refine ha.sd M σ H ρ pv pd _ _ A h fun x dx H1 ρ1 A1 h1 => ?_
  split at h1
  · next i =>
    have A2 := A1.pop
    obtain ⟨ow, B, hp⟩ := A1
    cases hp with
    | cons g hp =>
      cases g
      obtain ⟨ow2, B2, hp2⟩ := A2
      exact ⟨i, rfl, q _ _ _ _ ⟨ow2, B2, .cons (.int _) hp2⟩ h1⟩
  · exact h1.elim⟩
def dShr : D → D → (D → Prop) → Prop
  | .int i, .int j, P => 0 ≤ j ∧ P (.int (i / 2 ^ j.toNat))
  | _, _, _ => False
def dAnd : D → D → (D → Prop) → Prop
  | .int i, .int j, P => P (.int (Builtin.bitAnd i j))
  | _, _, _ => False
theorem sn2_shr : Sn2 K (rI (fun _ j => 0 ≤ j) fun i j => .int (i / 2 ^ j.toNat)) dShr := fun lc hd H x y a b P Q al hx hy h q => by
  cases a <;> cases b <;> first | exact h.elim | skip
  cases hx
  cases hy
  exact ⟨_, _, rfl, rfl, h.1, q _ _ H (Same.refl H) (.int _) h.2⟩
theorem sn2_and : Sn2 K (rI0 fun i j => .int (Builtin.bitAnd i j)) dAnd := fun lc hd H x y a b P Q al hx hy h q => by
  cases a <;> cases b <;> first | exact h.elim | skip
  cases hx
  cases hy
  exact ⟨_, _, rfl, rfl, q _ _ H (Same.refl H) (.int _) h⟩
theorem bitAnd_one (i : Int) : Builtin.bitAnd i 1 = i % 2 := by
  have h := Bits.bit_at (x := i) 0
  simpa using h
/-! ## range(i, j, -1) -/
def wiR3n (wa : WA) : WI := fun ρ P => wa ρ fun ds ρ1 => match ds with
  | [.int i, .int j, .int c] => rngOk i ∧ rngOk j ∧ c = -1 ∧ P (rngC i (-1) (i - j).toNat) ρ1
  | _ => False
theorem di_rng3n {tg c : Expr} {t : TA} {wr : WA} (hgl : Gl X "range") (hm : X.mg "range" = none) (ha : DA X [a, b, c] t wr) (hs : starEach [a, b, c] X.env = (false, eval a X.env) :: starEach [b, c] X.env := by rfl) (hpl : (backTo p2 (starEach [b, c] X.env)).any (·.1) = false := by rfl) :
    DI X tg (.Call (.Name "range" p) [a, b, c] [] p2) (iRng3 t) (wiR3n wr) := ⟨pi_range3 hgl hm ha.pa hs hpl, fun M σ H ρ pv pd P R A h q => by
  refine ha.sd M σ H ρ pv pd _ _ A h fun vs ds H1 ρ1 hl A1 h1 => ?_
  split at h1
  · next i j c =>
    have A2 := (At.popA A1 hl).dum
    obtain ⟨ow, B, hp⟩ := A1
    obtain ⟨x, y, z, rfl, gx, gy, gz⟩ := da3 (DvAll.split hl hp).1
    cases gx
    cases gy
    cases gz
    obtain ⟨hi, hj, rfl, h1⟩ := h1
    exact ⟨i, j, -1, _, rfl, RgC.neg hi.1 hi.2 hj.1 hj.2, q _ _ _ _ _ _ A2 src_rngC h1⟩
  · exact h1.elim⟩
end
end DL
namespace DL
open PySem PySem.Spec PyProof.Rows L2
/-- a comprehension over a range with a condition, the answers known -/
theorem wCompF_of {lo : Int} {N i : Nat} {wt : WT} {we : WE} {ρ : Rho} {P : List D → Rho → Prop} (c : Nat → Bool) (g : Nat → D) (hN : N ≤ 100000)
    (ht : ∀ (j : Nat) (Q : Bool → Rho → Prop), j < N → Q (c j) (put ρ i (.val (.int (lo + j)))) → wt (put ρ i (.val (.int (lo + j)))) Q)
    (hs : ∀ (j : Nat) (Q : D → Rho → Prop), j < N → c j = true → Q (g j) (put ρ i (.val (.int (lo + j)))) → we (put ρ i (.val (.int (lo + j)))) Q)
    (hP : P (((List.range N).filter c).map g) (put ρ i .un)) : wCompD (rngD lo N) i wt we ρ P := by
  refine ⟨fun j acc => acc = ((List.range j).filter c).map g, rfl, fun j x acc hx hI => ?_, fun acc hI => ?_⟩
  · obtain ⟨h1, rfl⟩ := rngD_get hx
    subst hI
    refine ht j _ h1 ⟨rfl, ?_⟩
    have e : List.range (j + 1) = List.range j ++ [j] := List.range_succ
    cases hc : c j with
    | true =>
      rw [if_pos rfl]
      refine hs j _ h1 hc ⟨rfl, ?_, ?_⟩
      · have := List.length_filter_le c (List.range j)
        rw [List.length_range] at this
        rw [List.length_map]; omega
      · show _ = ((List.range (j + 1)).filter c).map g
        rw [e, List.filter_append, List.map_append]
        simp [hc]
    | false =>
      rw [if_neg Bool.false_ne_true]
      show _ = ((List.range (j + 1)).filter c).map g
      rw [e, List.filter_append]
      simp [hc]
  · rw [rngD_len] at hI
    subst hI
    exact hP
/-- a comprehension over a range without a condition, of its items known only what R says -/
theorem wCompG_of {N i : Nat} {we : WE} {ρ : Rho} {P : List D → Rho → Prop} (R : Nat → D → Prop) (hN : N ≤ 100000)
    (hs : ∀ (j : Nat) (Q : D → Rho → Prop), j < N → (∀ y, R j y → Q y (put ρ i (.val (.int j)))) → we (put ρ i (.val (.int j))) Q)
    (hP : ∀ ys : List D, ys.length = N → (∀ j y, ys[j]? = some y → R j y) → P ys (put ρ i .un)) : wCompD (rngD 0 N) i wYes we ρ P := by
  refine ⟨fun j acc => acc.length = j ∧ ∀ k y, acc[k]? = some y → R k y, ⟨rfl, fun k y h => by simp at h⟩, fun j x acc hx hI => ?_, fun acc hI => ?_⟩
  · obtain ⟨h1, rfl⟩ := rngD_get hx
    refine ⟨rfl, ?_⟩
    rw [if_pos rfl, Int.zero_add]
    refine hs j _ h1 fun y hy => ⟨rfl, by omega, by simp [hI.1], fun k z hz => ?_⟩
    rw [List.getElem?_append] at hz
    split at hz
    · exact hI.2 k z hz
    · next c =>
      have e : k = j := by
        have := (List.getElem?_eq_some_iff.mp hz).1
        simp at this; omega
      subst e
      rw [hI.1, Nat.sub_self] at hz
      cases hz
      exact hy
  · rw [rngD_len] at hI
    exact hP acc hI.1 hI.2
theorem bools_map {α : Type} (b : α → Bool) (l : List α) : bools (l.map fun k => .bool (b k)) = some (l.map b) := by
  induction l with
  | nil => rfl
  | cons a l ih =>
    show (bools (l.map fun k => .bool (b k))).map (b a :: ·) = _
    rw [ih]; rfl
/-- a comprehension over given items without a condition, of its answers known only what R says -/
theorem wCompLG_of {ds : List D} {i : Nat} {we : WE} {ρ : Rho} {P : List D → Rho → Prop} (R : D → D → Prop) (hN : ds.length ≤ 100000)
    (hs : ∀ (x : D) (Q : D → Rho → Prop), x ∈ ds → (∀ y, R x y → Q y (put ρ i (.val x))) → we (put ρ i (.val x)) Q)
    (hP : ∀ ys : List D, ys.length = ds.length → (∀ (j : Nat) (x y : D), ds[j]? = some x → ys[j]? = some y → R x y) → P ys (put ρ i .un)) : wCompD ds i wYes we ρ P := by
  refine ⟨fun j acc => acc.length = j ∧ ∀ k x y, ds[k]? = some x → acc[k]? = some y → R x y, ⟨rfl, fun k x y _ h => by simp at h⟩, fun j x acc hx hI => ?_, fun acc hI => hP acc hI.1 hI.2⟩
  refine ⟨rfl, ?_⟩
  rw [if_pos rfl]
  have hj := (List.getElem?_eq_some_iff.mp hx).1
  refine hs x _ (List.mem_of_getElem? hx) fun y hy => ⟨rfl, by omega, by simp [hI.1], fun k z u hz hu => ?_⟩
  rw [List.getElem?_append] at hu
  split at hu
  · exact hI.2 k z u hz hu
  · next c =>
    have e : k = j := by
      have := (List.getElem?_eq_some_iff.mp hu).1
      simp at this; omega
    subst e
    rw [hI.1, Nat.sub_self] at hu
    cases hu
    rw [hx] at hz
    cases hz
    exact hy
theorem bools_rel {p : D → Prop} : ∀ {ds ys : List D}, ys.length = ds.length → (∀ (j : Nat) (x y : D), ds[j]? = some x → ys[j]? = some y → ∃ b : Bool, y = PyData.bool b ∧ (b = true ↔ p x)) → ∃ bs, bools ys = some bs ∧ (bs.all id = true ↔ ∀ x ∈ ds, p x)
  | [], [], _, _ => ⟨[], rfl, by simp⟩
  | [], _ :: _, h, _ => by simp at h
  | _ :: _, [], h, _ => by simp at h
  | d :: ds, y :: ys, hl, h => by
    obtain ⟨b, rfl, hb⟩ := h 0 d y rfl rfl
    obtain ⟨bs, e, hbs⟩ := bools_rel (p := p) (ds := ds) (ys := ys) (by simpa using hl) fun j x z hx hz => h (j + 1) x z (by simpa using hx) (by simpa using hz)
    refine ⟨b :: bs, by simp [bools, e], ?_⟩
    rw [List.all_cons, Bool.and_eq_true, hbs]
    simp only [List.mem_cons, forall_eq_or_imp, id]
    rw [hb]
/-- y = [..], a statement of its own -/
theorem ds_setLc {X : Cx} {elt tg iter : Expr} {ifs : List Expr} {scope : Scope} {i j : Nat} {x y : Str} {pos py spos : Pos} {wi : TI} {tt : TT} {te : TE} {wI : WI} {wt : WT} {we : WE} (hc : X.calm = true) (hN : X.N.Nodup) (hi : DI X tg iter wi wI) (ok : BlkOk X.N X.env.scope scope [(x, i)])
    (hg : ∀ (s : Shared) (H : Hp) (C : Addr) (cl : List (Str × Addr)) (fp : List Addr), PG (X.blk s H scope (compEnvC scope cl C X.env) fp) tg (gName i)) (ht : ∀ (s : Shared) (H : Hp) (C : Addr) (cl : List (Str × Addr)) (fp : List Addr), DTb (X.blk s H scope (compEnvC scope cl C X.env) fp) ifs tt wt)
    (he : ∀ (s : Shared) (H : Hp) (C : Addr) (cl : List (Str × Addr)) (fp : List Addr), DEb (X.blk s H scope (compEnvC scope cl C X.env) fp) elt te we) (hy : X.N[j]? = some y) (hyl : X.env.scope.names.lookup y = some .local)
    (hsw : swapsWith (.ListComp elt [⟨tg, iter, ifs, 0⟩] scope pos) (some (.Name y py)) spos.line X.env = pure true) (hs : ∀ x, foldedSetIterable iter X.env x = pure x := by intro _; rfl) :
    DS X (.Assign [.Name y py] (.ListComp elt [⟨tg, iter, ifs, 0⟩] scope pos) spos) (tAsg (tLc wi (gName i) tt te [i]) (gName j)) (wAsg (fun ρ P => wComp wI i wt we ρ fun ds ρ1 => P (.list ds) ρ1) (wgName j)) :=
  ⟨ps_setLc (own := [(x, i)]) hc hN hy hyl hsw hi.pi ok hg (fun s H C cl fp => (ht s H C cl fp).dt.pt) (fun s H C cl fp => (he s H C cl fp).de.pe) hs, snds_asg (df_comp (pos := pos) hc hN hi ok hg ht he hs).de.sd (sndg_name j)⟩
theorem ds_keepLc {X : Cx} {elt tg iter : Expr} {ifs : List Expr} {scope : Scope} {i j : Nat} {x y : Str} {pos py spos : Pos} {wi : TI} {tt : TT} {te : TE} {wI : WI} {wt : WT} {we : WE} (hc : X.calm = true) (hN : X.N.Nodup) (hi : DI X tg iter wi wI) (ok : BlkOk X.N X.env.scope scope [(x, i)])
    (hg : ∀ (s : Shared) (H : Hp) (C : Addr) (cl : List (Str × Addr)) (fp : List Addr), PG (X.blk s H scope (compEnvC scope cl C X.env) fp) tg (gName i)) (ht : ∀ (s : Shared) (H : Hp) (C : Addr) (cl : List (Str × Addr)) (fp : List Addr), DTb (X.blk s H scope (compEnvC scope cl C X.env) fp) ifs tt wt)
    (he : ∀ (s : Shared) (H : Hp) (C : Addr) (cl : List (Str × Addr)) (fp : List Addr), DEb (X.blk s H scope (compEnvC scope cl C X.env) fp) elt te we) (hy : X.N[j]? = some y) (hyl : X.env.scope.names.lookup y = some .local)
    (hsw : swapsWith (.ListComp elt [⟨tg, iter, ifs, 0⟩] scope pos) (some (.Name y py)) spos.line X.env = pure true) (hs : ∀ x, foldedSetIterable iter X.env x = pure x := by intro _; rfl) :
    DS X (.Assign [.Name y py] (.ListComp elt [⟨tg, iter, ifs, 0⟩] scope pos) spos) (tAsg (tLc wi (gName i) tt te [i]) (gName j)) (wKeep j (wComp wI i wt we)) :=
  ⟨ps_setLc (own := [(x, i)]) hc hN hy hyl hsw hi.pi ok hg (fun s H C cl fp => (ht s H C cl fp).dt.pt) (fun s H C cl fp => (he s H C cl fp).de.pe) hs, fun M σ H ρ pv pd DD HD A h F =>
    (df_comp (pos := pos) hc hN hi ok hg ht he hs).sd M σ H ρ pv pd _ _ A h fun p ds H' ρ' A' h' => F.nx _ _ _ (A'.keep j) h'⟩
theorem relab {sc : Scope} {e : PySem.Env} : relabel sc e = relS sc e.scope := rfl
/-- *= of ints -/
theorem ip_mulD {X : Cx} : PIp X .Mult (rI mulOk fun i j => .int (i * j)) := by
  intro pins s σ H x y v u Q I r1 r2 h
  obtain ⟨i, j, e1, e2, c, q⟩ := h
  subst e1; subst e2
  obtain ⟨t, rfl⟩ := r1
  obtain ⟨t', rfl⟩ := r2
  rcases c with c | c
  · exact imul_int ⟨.int _, H, I.tok _, ⟨_, rfl⟩, q⟩ c.ok
  · exact imul_int ⟨.int _, H, I.tok _, ⟨_, rfl⟩, q⟩ c.ok
def dMulI : D → D → (D → Prop) → Prop
  | .int i, .int j, P => mulOk i j ∧ P (.int (i * j))
  | _, _, _ => False
theorem sn2_mulI {K : Fg} : Sn2 K (rI mulOk fun i j => .int (i * j)) dMulI := sn2_I fun a b P h => by
  cases a <;> cases b <;> first | exact ⟨_, _, rfl, rfl, h.1, h.2⟩ | exact h.elim
end DL

namespace DL
open PySem PySem.Spec PyProof.Rows L2 RT
/-! ## a list comprehension with two names: for a, b in .. -/
def putP (ρ : Rho) (i k : Nat) (a b : D) : Rho := put (put ρ i (.val a)) k (.val b)
def unP (ρ : Rho) (i k : Nat) : Rho := put (put ρ i .un) k .un
def wComp2D (ds : List D) (i k : Nat) (wt : WT) (we : WE) : WF := fun ρ P => ∃ I : Nat → List D → Prop, I 0 [] ∧
  (∀ j x acc, ds[j]? = some x → I j acc → ∃ a b, x = .tuple [a, b] ∧ wt (putP ρ i k a b) fun c ρ2 => ρ2 = putP ρ i k a b ∧ if c = true then we ρ2 fun y ρ3 => ρ3 = putP ρ i k a b ∧ acc.length < 100000 ∧ I (j + 1) (acc ++ [y]) else I (j + 1) acc) ∧
  ∀ acc, I ds.length acc → P acc (unP ρ i k)
/-- what is walked, where more than one value is held -/
def SrcOkS (K : Fg) (J : It) (vs : List V) (dd : List D) (es : List D) : Prop := ∀ (M : Amb) (σ : L2.St) (H : Hp) (ρ : Rho) (pv : List V) (pd : List D), At K M σ H ρ (vs ++ pv) (dd ++ pd) →
  (∀ i (hi : i < es.length), J.go i H ∧ ∀ x H', J.yld i H x H' → At K M σ H' ρ (x :: (vs ++ pv)) (es[i] :: (dd ++ pd))) ∧ J.stop es.length H
theorem put_put_ne : ∀ {ρ : Rho} {i k : Nat} {a b : Slot}, i ≠ k → put (put ρ i a) k b = put (put ρ k b) i a
  | [], _, _, _, _, _ => rfl
  | _ :: _, 0, 0, _, _, h => absurd rfl h
  | _ :: _, 0, _ + 1, _, _, _ => rfl
  | _ :: _, _ + 1, 0, _, _, _ => rfl
  | t :: r, n + 1, m + 1, a, b, h => congrArg (t :: ·) (put_put_ne (ρ := r) fun z => h (congrArg (· + 1) z))
section
variable {K : Fg}
abbrev gPair (K : Fg) (i k : Nat) : TG := gTup K 2 (gCons (gName i) (gCons (gName k) gNil))
theorem comp2_core {M : Amb} {σ : L2.St} {H1 : Hp} {ρ1 : Rho} {pv : List V} {pd : List D} {vs : List V} {dd ds : List D} {J : It} {i k : Nat} {tt : TT} {te : TE} {wt : WT} {we : WE} {P : List D → Rho → Prop} {Q : VK} (hik : i ≠ k) (hl : vs.length = dd.length) (sT : SndT K tt wt) (sE : Snd K te we) (sk : SrcOkS K J vs dd ds) (A1 : At K M σ H1 ρ1 (vs ++ pv) (dd ++ pd)) (h1 : wComp2D ds i k wt we ρ1 P)
    (q : ∀ (p : Addr) (es : List D) (H' : Hp) (ρ' : Rho), At K (M.plus p es) σ H' ρ' pv pd → P es ρ' → Q (.ref p) H') :
    ∀ D, H1 D = none → ∃ W : Nat → Nat → Hp → Prop, (∃ m, W 0 m (upd H1 D (.lst []))) ∧ ∀ j m H, W j m H →
      (J.stop j H ∧ Q (.ref D) H) ∨ (J.go j H ∧ ∃ Nx : Hp → Prop, (∀ H', Nx H' → ∃ m', m' < m ∧ W (j + 1) m' H') ∧ ∀ x H', J.yld j H x H' → gPair K i k x (wipe σ [i, k]) H' fun σ2 H2 => wipe σ2 [i, k] = wipe σ [i, k] ∧ tt σ2 H2 fun b H3 =>
        if b = true then te σ2 H3 fun y H4 => ∃ acc, H4 D = some (.lst acc) ∧ acc.length < sizeLine ∧ Nx (upd H4 D (.lst (acc ++ [y]))) else Nx H3) := by
  obtain ⟨I, h0, hs, hd⟩ := h1
  intro D0 hD
  have w0 : ∀ σ' : L2.St, wipe σ' [i, k] = (σ'.set k none).set i none := fun σ' => rfl
  have l0 : ∀ σ' : L2.St, (wipe σ' [i, k]).length = σ'.length := fun σ' => wipe_length _ _
  have A1' : At K M (wipe σ [i, k]) H1 (unP ρ1 i k) (vs ++ pv) (dd ++ pd) := by
    have B := A1.unset k (σ' := σ.set k none) (by rw [List.length_set]) fun j hj => by rw [List.getElem?_set_ne (fun z => hj z.symm)]
    have := B.unset i (σ' := wipe σ [i, k]) (by rw [w0, List.length_set]) fun j hj => by rw [w0, List.getElem?_set_ne (fun z => hj z.symm)]
    rwa [put_put_ne (Ne.symm hik)] at this
  refine ⟨fun j m H' => ∃ acc, At K (M.plus D0 acc) (wipe σ [i, k]) H' (unP ρ1 i k) (vs ++ pv) (dd ++ pd) ∧ I j acc ∧ j + m = ds.length, ⟨ds.length, [], ?_, h0, by omega⟩, ?_⟩
  · exact At.plus (vs := []) (ds := []) A1' rfl hD
  rintro j m H2 ⟨acc, A2, i2, em⟩
  by_cases hi : j < ds.length
  · obtain ⟨g1, g2⟩ := (sk _ _ H2 _ pv pd A2).1 j hi
    refine .inr ⟨g1, fun H' => ∃ acc, At K (M.plus D0 acc) (wipe σ [i, k]) H' (unP ρ1 i k) (vs ++ pv) (dd ++ pd) ∧ I (j + 1) acc, fun H' ⟨acc, A', i'⟩ => ⟨m - 1, by omega, acc, A', i', by omega⟩, fun y H' hy => ?_⟩
    obtain ⟨a, b, ex, hw⟩ := hs j ds[j] acc (List.getElem?_eq_getElem hi) i2
    have A3 := g2 y H' hy
    rw [ex] at A3
    obtain ⟨ow, B, hp⟩ := A3
    cases hp with
    | cons g3 hp =>
      cases g3 with
      | @tup ya xs _ g4 g5 =>
        cases g5 with
        | @cons va _ _ _ ga g5 =>
          cases g5 with
          | @cons vb _ _ _ gb g5 =>
            cases g5
            refine ⟨ya, [va, vb], rfl, same_t hide_le g4, rfl, va, [vb], rfl, vb, [], rfl, rfl, ?_⟩
            have A4 : At K (M.plus D0 acc) (((wipe σ [i, k]).set i (some va)).set k (some vb)) H' (putP ρ1 i k a b) (vs ++ pv) (dd ++ pd) := by
              have e1 : put (put (unP ρ1 i k) i (.val a)) k (.val b) = putP ρ1 i k a b := by
                unfold unP putP
                rw [put_put_ne (Ne.symm hik), put_put, put_put]
              rw [← e1]
              have C : At K (M.plus D0 acc) (wipe σ [i, k]) H' (unP ρ1 i k) (va :: vb :: (vs ++ pv)) (a :: b :: (dd ++ pd)) := ⟨ow, B, .cons ga (.cons gb hp)⟩
              exact (C.put i rfl rfl).put k rfl rfl
            have back : ∀ {H' : Hp} {acc : List D}, At K (M.plus D0 acc) (((wipe σ [i, k]).set i (some va)).set k (some vb)) H' (putP ρ1 i k a b) (vs ++ pv) (dd ++ pd) → At K (M.plus D0 acc) (wipe σ [i, k]) H' (unP ρ1 i k) (vs ++ pv) (dd ++ pd) := fun {H' acc} A => by
              have B1 := A.unset k (σ' := (wipe σ [i, k]).set i (some va)) (by simp only [List.length_set]) fun n hn => by rw [List.getElem?_set_ne (fun z => hn z.symm)]
              have B2 := B1.unset i (σ' := wipe σ [i, k]) (by simp only [List.length_set]) fun n hn => by rw [List.getElem?_set_ne (fun z => hn z.symm)]
              have e1 : put (put (putP ρ1 i k a b) k .un) i .un = unP ρ1 i k := by
                unfold unP putP
                rw [put_put, put_put_ne (Ne.symm hik), put_put]
              rwa [e1] at B2
            refine ⟨?_, ?_⟩
            · have e : ∀ τ : L2.St, (((τ.set i (some va)).set k (some vb)).set k none).set i none = (τ.set k none).set i none := fun τ => by
                rw [List.set_set, List.set_comm _ _ hik, List.set_set]
              have e2 : ∀ τ : L2.St, (((τ.set k none).set i none).set k none).set i none = (τ.set k none).set i none := fun τ => by
                have e3 : ((τ.set k none).set i none).set k none = ((τ.set k none).set k none).set i none := List.set_comm _ _ hik
                rw [e3, List.set_set, List.set_set]
              rw [w0, w0, e, e2]
            refine sT _ _ _ _ _ _ _ _ A4 hw fun c H3 ρ2 A5 h4 => ?_
            obtain ⟨rfl, h4⟩ := h4
            cases c with
            | true =>
              rw [if_pos rfl] at h4 ⊢
              refine sE _ _ _ _ _ _ _ _ A5 h4 fun z dz H4 ρ3 A6 h5 => ?_
              obtain ⟨rfl, hz, h5⟩ := h5
              obtain ⟨xs, e1, e2⟩ := A6.gh
              exact ⟨xs, e1, by rw [e2]; exact size_lt hz, _, back (A6.grow e1), h5⟩
            | false =>
              rw [if_neg Bool.false_ne_true] at h4 ⊢
              exact ⟨acc, back A5, h4⟩
  · have ei : j = ds.length := by omega
    subst ei
    refine .inl ⟨(sk _ _ H2 _ pv pd A2).2, q D0 acc H2 _ ?_ (hd acc i2)⟩
    have B1 := (A2.popA hl).unset i (σ' := (wipe σ [i, k]).set i (σ[i]?.getD none)) (by simp only [List.length_set]) fun n hn => by rw [List.getElem?_set_ne (fun z => hn z.symm)]
    have B2 := B1.unset k (σ' := σ) (by simp only [List.length_set]; exact (l0 σ).symm) fun n hn => ?_
    · have e1 : put (put (unP ρ1 i k) i .un) k .un = unP ρ1 i k := by
        unfold unP
        rw [put_put_ne (Ne.symm hik), put_put, put_put]
      rwa [e1] at B2
    · by_cases c : n = i
      · subst c
        by_cases d : n < σ.length
        · rw [List.getElem?_set_self (by rw [l0]; exact d), List.getElem?_eq_getElem d]; rfl
        · rw [List.getElem?_eq_none (by omega), List.getElem?_eq_none (by rw [List.length_set, l0]; omega)]
      · rw [List.getElem?_set_ne (fun z => c z.symm), w0, List.getElem?_set_ne (fun z => c z.symm), List.getElem?_set_ne (fun z => hn z.symm)]
/-! what is walked so: zip of two lists, enumerate of a list -/
def zipD (xs ys : List D) : List D := List.zipWith (fun x y => .tuple [x, y]) xs ys
theorem zipD_len (xs ys : List D) : (zipD xs ys).length = min xs.length ys.length := by simp [zipD]
theorem zipD_get {xs ys : List D} {i : Nat} {z : D} (h : (zipD xs ys)[i]? = some z) : ∃ x y, xs[i]? = some x ∧ ys[i]? = some y ∧ z = .tuple [x, y] := by
  unfold zipD at h
  rw [List.getElem?_zipWith] at h
  cases e1 : xs[i]? with
  | none => rw [e1] at h; cases h
  | some x =>
    cases e2 : ys[i]? with
    | none => rw [e1, e2] at h; cases h
    | some y => rw [e1, e2] at h; cases h; exact ⟨x, y, rfl, rfl, rfl⟩
theorem srcS_of {J : It} {v : V} {d : D} {es : List D} (h : SrcOk K J v d es) : SrcOkS K J [v] [d] es := fun M σ H ρ pv pd A => h M σ H ρ pv pd A
theorem srcS_zip {a b : Addr} {xs ys : List D} : SrcOkS K (Itz K a b) [.ref a, .ref b] [.list xs, .list ys] (zipD xs ys) := fun M σ H ρ pv pd A => by
  obtain ⟨ow, B, hp⟩ := A
  cases hp with
  | cons g1 hp =>
    cases hp with
    | cons g2 hp =>
      cases g1 with
      | @lst _ us _ g3 g4 =>
        cases g2 with
        | @lst _ vs _ g5 g6 =>
          have hS : SqL K H a us := .of (hide_le _ _ g3)
          have hT : SqL K H b vs := .of (hide_le _ _ g5)
          refine ⟨fun i hi => ?_, us, vs, hS, hT, ?_⟩
          · rw [zipD_len] at hi
            have h1 : i < xs.length := by omega
            have h2 : i < ys.length := by omega
            obtain ⟨y, gy, gyd⟩ := g4.get (List.getElem?_eq_getElem h1)
            obtain ⟨w, gw, gwd⟩ := g6.get (List.getElem?_eq_getElem h2)
            refine ⟨⟨us, vs, y, w, hS, hT, gy, gw⟩, fun x H' hy => ?_⟩
            obtain ⟨T, z, z2, rfl, hT0, rfl, f1, f2⟩ := hy
            have ex : z = y := Option.some.inj ((f1 _ hS).symm.trans gy)
            have ex2 : z2 = w := Option.some.inj ((f2 _ hT).symm.trans gw)
            subst ex ex2
            obtain ⟨d1, d2, k1, k2, ee⟩ := zipD_get (List.getElem?_eq_getElem (by rw [zipD_len]; omega : i < (zipD xs ys).length))
            rw [ee]
            have : d1 = xs[i] := Option.some.inj (k1.symm.trans (List.getElem?_eq_getElem h1))
            subst this
            have : d2 = ys[i] := Option.some.inj (k2.symm.trans (List.getElem?_eq_getElem h2))
            subst this
            have e : Same H (upd H T (.tup [z, z2])) := same_new hT0
            refine ⟨ow, B.step (.of e) (B.cok.mono e), .cons (.tup (.of (new_vis B.hall hT0)) (.cons (gyd.mono (vis_of e)) (.cons (gwd.mono (vis_of e)) .nil))) ?_⟩
            exact DvAll.mono (vis_of e) (.cons (.lst g3 g4) (.cons (.lst g5 g6) hp))
          · rw [zipD_len, g4.length, g6.length]; omega
end
def wComp2 (wI : WI) (i k : Nat) (wt : WT) (we : WE) : WF := fun ρ P => wI ρ fun ds ρ1 => wComp2D ds i k wt we ρ1 P
def wCompZ (wr : WA) (i k : Nat) (wt : WT) (we : WE) : WF := fun ρ P => wr ρ fun ds ρ1 => match ds with
  | [.list xs, .list ys] => wComp2D (zipD xs ys) i k wt we ρ1 P
  | _ => False
section
variable {X : Cx} {elt tg iter : Expr} {ifs : List Expr} {scope : Scope} {i k : Nat} {x y : Str} {pos : Pos} {wi : TI} {tt : TT} {te : TE} {wI : WI} {wt : WT} {we : WE} {wr : WA} {tr : TA} {e1 e2 : Expr} {es : List Expr} {kk : Nat} {tp p cp : Pos}
theorem df_comp2 (hik : i ≠ k) (hc : X.calm = true) (hN : X.N.Nodup) (hi : DI X tg iter wi wI) (ok : BlkOk X.N X.env.scope scope [(x, i), (y, k)])
    (hg : ∀ (s : Shared) (H : Hp) (C : Addr) (cl : List (Str × Addr)) (fp : List Addr), PG (X.blk s H scope (compEnvC scope cl C X.env) fp) tg (gPair X.K i k)) (ht' : ∀ (s : Shared) (H : Hp) (C : Addr) (cl : List (Str × Addr)) (fp : List Addr), DTb (X.blk s H scope (compEnvC scope cl C X.env) fp) ifs tt wt)
    (he' : ∀ (s : Shared) (H : Hp) (C : Addr) (cl : List (Str × Addr)) (fp : List Addr), DEb (X.blk s H scope (compEnvC scope cl C X.env) fp) elt te we) (hs : ∀ x, foldedSetIterable iter X.env x = pure x := by intro _; rfl) :
    DF X (.ListComp elt [⟨tg, iter, ifs, 0⟩] scope pos) (tLc wi (gPair X.K i k) tt te [i, k]) (wComp2 wI i k wt we) := by
  have ht := fun s H C cl fp => (ht' s H C cl fp).dt
  have he := fun s H C cl fp => (he' s H C cl fp).de
  have sT : SndT X.K tt wt := (ht X.s_0 (fun _ => none) 0 [] []).sd
  have sE : Snd X.K te we := (he X.s_0 (fun _ => none) 0 [] []).sd
  refine ⟨pe_lc (own := [(x, i), (y, k)]) (g := gPair X.K i k) hc hN hi.pi ok hg (fun s H C cl fp => (ht s H C cl fp).pt) (fun s H C cl fp => (he s H C cl fp).pe) hs, fun M σ H ρ pv pd P Q A h q => ?_⟩
  exact hi.sd M σ H ρ pv pd _ _ A h fun J H1 ρ1 v d ds A1 sk h1 => comp2_core hik (vs := [v]) (dd := [d]) rfl sT sE (srcS_of sk) A1 h1 q
theorem df_compZ (hgz : Gl X "zip") (hmz : X.mg "zip" = none) (hik : i ≠ k) (hc : X.calm = true) (hN : X.N.Nodup) (ha : DA X [e1, e2] tr wr) (ok : BlkOk X.N X.env.scope scope [(x, i), (y, k)])
    (hg : ∀ (s : Shared) (H : Hp) (C : Addr) (cl : List (Str × Addr)) (fp : List Addr), PG (X.blk s H scope (compEnvC scope cl C X.env) fp) (.Tuple es kk tp) (gPair X.K i k)) (ht' : ∀ (s : Shared) (H : Hp) (C : Addr) (cl : List (Str × Addr)) (fp : List Addr), DTb (X.blk s H scope (compEnvC scope cl C X.env) fp) ifs tt wt)
    (he' : ∀ (s : Shared) (H : Hp) (C : Addr) (cl : List (Str × Addr)) (fp : List Addr), DEb (X.blk s H scope (compEnvC scope cl C X.env) fp) elt te we) (hz : starEach [e1, e2] X.env = (false, eval e1 X.env) :: starEach [e2] X.env := by rfl) (hpl : (backTo cp (starEach [e2] X.env)).any (·.1) = false := by rfl) (hs : ∀ x, foldedSetIterable (.Call (.Name "zip" p) [e1, e2] [] cp) X.env x = pure x := by intro _; rfl) :
    DF X (.ListComp elt [⟨.Tuple es kk tp, .Call (.Name "zip" p) [e1, e2] [] cp, ifs, 0⟩] scope pos) (tLc (iZip X.K tr) (gPair X.K i k) tt te [i, k]) (wCompZ wr i k wt we) := by
  have ht := fun s H C cl fp => (ht' s H C cl fp).dt
  have he := fun s H C cl fp => (he' s H C cl fp).de
  have sT : SndT X.K tt wt := (ht X.s_0 (fun _ => none) 0 [] []).sd
  have sE : Snd X.K te we := (he X.s_0 (fun _ => none) 0 [] []).sd
  refine ⟨pe_lc (own := [(x, i), (y, k)]) (g := gPair X.K i k) hc hN (pi_zip hgz hmz ha.pa hz hpl) ok hg (fun s H C cl fp => (ht s H C cl fp).pt) (fun s H C cl fp => (he s H C cl fp).pe) hs, fun M σ H ρ pv pd P Q A h q => ?_⟩
  refine ha.sd M σ H ρ pv pd _ _ A h fun vs ds H1 ρ1 hl A1 h1 => ?_
  split at h1
  · next xs ys =>
    obtain ⟨ow, B, hp⟩ := A1
    obtain ⟨g1, g2⟩ := DvAll.split hl hp
    cases g1 with
    | cons ga g1 =>
      cases g1 with
      | cons gb g1 =>
        cases g1
        cases ga with
        | @lst a us _ g3 g4 =>
          cases gb with
          | @lst b vs _ g5 g6 =>
            exact ⟨_, _, us, vs, rfl, .of (hide_le _ _ g3), .of (hide_le _ _ g5), comp2_core hik (vs := [.ref a, .ref b]) (dd := [.list xs, .list ys]) rfl sT sE srcS_zip ⟨ow, B, .cons (.lst g3 g4) (.cons (.lst g5 g6) g2)⟩ h1 q⟩
  · exact h1.elim
end
/-! ## reversed(list), reversed(tuple) -/
theorem src_rev {K : Fg} {a : Addr} {ds : List D} {n : Nat} (hn : n = ds.length) : SrcOk K (Itv K a n) (.ref a) (.list ds) ds.reverse := fun M σ H ρ pv pd A => by
  subst hn
  obtain ⟨ow, B, hp⟩ := A
  cases hp with
  | cons g3 hp =>
    cases g3 with
    | @lst _ ys _ g3 g4 =>
      have hS : SqL K H a ys := .of (hide_le _ _ g3)
      refine ⟨fun i hi => ?_, by rw [List.length_reverse]; exact Nat.le_refl _⟩
      have hi' : i < ds.length := by rwa [List.length_reverse] at hi
      obtain ⟨y, gy, gyd⟩ := g4.get (List.getElem?_eq_getElem (show ds.length - 1 - i < ds.length by omega))
      refine ⟨⟨hi', ys, y, hS, gy⟩, fun x H' hy => ?_⟩
      obtain ⟨rfl, fv⟩ := hy
      have ex : x = y := Option.some.inj ((fv _ hS).symm.trans gy)
      subst ex
      rw [List.getElem_reverse]
      exact ⟨ow, B, .cons gyd (.cons (.lst g3 g4) hp)⟩
theorem src_revT {K : Fg} {a : Addr} {ds : List D} {n : Nat} (hn : n = ds.length) : SrcOk K (ItvT K a n) (.ref a) (.tuple ds) ds.reverse := fun M σ H ρ pv pd A => by
  subst hn
  obtain ⟨ow, B, hp⟩ := A
  cases hp with
  | cons g3 hp =>
    cases g3 with
    | @tup _ ys _ g3 g4 =>
      have hS : SqT K H a ys := same_t hide_le g3
      refine ⟨fun i hi => ?_, by rw [List.length_reverse]; exact Nat.le_refl _⟩
      have hi' : i < ds.length := by rwa [List.length_reverse] at hi
      obtain ⟨y, gy, gyd⟩ := g4.get (List.getElem?_eq_getElem (show ds.length - 1 - i < ds.length by omega))
      refine ⟨⟨hi', ys, y, hS, gy⟩, fun x H' hy => ?_⟩
      obtain ⟨rfl, fv⟩ := hy
      have ex : x = y := Option.some.inj ((fv _ hS).symm.trans gy)
      subst ex
      rw [List.getElem_reverse]
      exact ⟨ow, B, .cons gyd (.cons (.tup g3 g4) hp)⟩
def wiRev (wa : WE) : WI := fun ρ P => wa ρ fun d ρ1 => match d with
  | .list ds => P ds.reverse ρ1
  | .tuple ds => P ds.reverse ρ1
  | _ => False
section
variable {X : Cx} {tg e : Expr} {ta : TE} {wa : WE} {p pos : Pos}
theorem di_rev (hg : Gl X "reversed") (hm : X.mg "reversed" = none) (ha : DE X e ta wa) (hz : starEach [e] X.env = (false, eval e X.env) :: starEach [] X.env := by rfl) : DI X tg (.Call (.Name "reversed" p) [e] [] pos) (iRevA X.K ta) (wiRev wa) := ⟨pi_revA hg hm ha.pe hz, fun M σ H ρ pv pd P R A h q => by
  refine ha.sd M σ H ρ pv pd _ _ A h fun v d H1 ρ1 A1 h1 => ?_
  split at h1
  · next ds =>
    obtain ⟨ow, B, hp⟩ := A1
    cases hp with
    | cons g1 hp =>
      cases g1 with
      | @lst a ys _ g3 g4 => exact ⟨a, ys, rfl, .inl ⟨.of (hide_le _ _ g3), q _ _ _ _ _ _ ⟨ow, B, .cons (.lst g3 g4) hp⟩ (src_rev g4.length) h1⟩⟩
  · next ds =>
    obtain ⟨ow, B, hp⟩ := A1
    cases hp with
    | cons g1 hp =>
      cases g1 with
      | @tup a ys _ g3 g4 => exact ⟨a, ys, rfl, .inr ⟨same_t hide_le g3, q _ _ _ _ _ _ ⟨ow, B, .cons (.tup g3 g4) hp⟩ (src_revT g4.length) h1⟩⟩
  · exact h1.elim⟩
end
end DL
namespace DL
open PySem PySem.Spec PyProof.Rows L2
/-- the same over given pairs, without a condition, its answer es -/
theorem wComp2L_of {ds es : List D} {i k : Nat} {we : WE} {ρ : Rho} {P : List D → Rho → Prop} (hl : es.length = ds.length) (hN : ds.length ≤ 100000)
    (hs : ∀ (j : Nat) (x y : D), ds[j]? = some x → es[j]? = some y → ∃ a b, x = .tuple [a, b] ∧ ∀ (Q : D → Rho → Prop), Q y (putP ρ i k a b) → we (putP ρ i k a b) Q)
    (hP : P es (unP ρ i k)) : wComp2D ds i k wYes we ρ P := by
  refine ⟨fun j acc => acc = es.take j, rfl, fun j x acc hx hI => ?_, fun acc hI => ?_⟩
  · subst hI
    have hj : j < ds.length := (List.getElem?_eq_some_iff.mp hx).1
    have hy : es[j]? = some es[j] := List.getElem?_eq_getElem (by omega)
    obtain ⟨a, b, e, h⟩ := hs j x es[j] hx hy
    refine ⟨a, b, e, rfl, ?_⟩
    rw [if_pos rfl]
    refine h _ ⟨rfl, by simp; omega, ?_⟩
    show _ = es.take (j + 1)
    rw [List.take_succ, hy]
    rfl
  · rw [← hl, List.take_length] at hI
    subst hI
    exact hP
end DL
namespace DL
open PySem PySem.Spec PyProof.Rows L2
theorem ds_setLcZ {X : Cx} {elt : Expr} {ifs : List Expr} {scope : Scope} {i k j : Nat} {x y z : Str} {pos py spos : Pos} {tt : TT} {te : TE} {wt : WT} {we : WE} {wr : WA} {tr : TA} {e1 e2 : Expr} {es : List Expr} {kk : Nat} {tp p cp : Pos} (hgz : Gl X "zip") (hmz : X.mg "zip" = none) (hik : i ≠ k) (hc : X.calm = true) (hN : X.N.Nodup) (ha : DA X [e1, e2] tr wr) (ok : BlkOk X.N X.env.scope scope [(x, i), (y, k)])
    (hg : ∀ (s : Shared) (H : Hp) (C : Addr) (cl : List (Str × Addr)) (fp : List Addr), PG (X.blk s H scope (compEnvC scope cl C X.env) fp) (.Tuple es kk tp) (gPair X.K i k)) (ht : ∀ (s : Shared) (H : Hp) (C : Addr) (cl : List (Str × Addr)) (fp : List Addr), DTb (X.blk s H scope (compEnvC scope cl C X.env) fp) ifs tt wt)
    (he : ∀ (s : Shared) (H : Hp) (C : Addr) (cl : List (Str × Addr)) (fp : List Addr), DEb (X.blk s H scope (compEnvC scope cl C X.env) fp) elt te we) (hy : X.N[j]? = some z) (hyl : X.env.scope.names.lookup z = some .local)
    (hsw : swapsWith (.ListComp elt [⟨.Tuple es kk tp, .Call (.Name "zip" p) [e1, e2] [] cp, ifs, 0⟩] scope pos) (some (.Name z py)) spos.line X.env = pure true) (hz : starEach [e1, e2] X.env = (false, eval e1 X.env) :: starEach [e2] X.env := by rfl) (hpl : (backTo cp (starEach [e2] X.env)).any (·.1) = false := by rfl) (hs : ∀ x, foldedSetIterable (.Call (.Name "zip" p) [e1, e2] [] cp) X.env x = pure x := by intro _; rfl) :
    DS X (.Assign [.Name z py] (.ListComp elt [⟨.Tuple es kk tp, .Call (.Name "zip" p) [e1, e2] [] cp, ifs, 0⟩] scope pos) spos) (tAsg (tLc (iZip X.K tr) (gPair X.K i k) tt te [i, k]) (gName j)) (wAsg (fun ρ P => wCompZ wr i k wt we ρ fun ds ρ1 => P (.list ds) ρ1) (wgName j)) :=
  ⟨ps_setLc (own := [(x, i), (y, k)]) hc hN hy hyl hsw (pi_zip hgz hmz ha.pa hz hpl) ok hg (fun s H C cl fp => (ht s H C cl fp).dt.pt) (fun s H C cl fp => (he s H C cl fp).de.pe) hs, snds_asg (df_compZ (pos := pos) hgz hmz hik hc hN ha ok hg ht he hz hpl hs).de.sd (sndg_name j)⟩
end DL
namespace DL
open PySem PySem.Spec PyProof.Rows L2
/-! a list and a list, as a new one that nobody else holds -/
def fCat : D → D → (List D → Prop) → Prop
  | .list a, .list b, P => a.length + b.length ≤ 100000 ∧ P (a ++ b)
  | _, _, _ => False
theorem snf_cat {K : Fg} : SnF2 K rCat fCat := fun lc hd H x y a b P Q al hx hy h q => by
  unfold fCat at h
  split at h
  · cases hy with
    | lst g3 g4 =>
      cases hx with
      | lst g1 g2 => exact ⟨_, _, _, _, rfl, rfl, hide_le _ _ g1, hide_le _ _ g3, by rw [g2.length, g4.length]; exact size_ok h.1, fun p hp => q _ _ p (g2.app g4) hp h.2⟩
  · exact h.elim
theorem df_cat {X : Cx} {a b : Expr} {ta tb : TE} {wa wb : WE} {pos : Pos} (ha : DE X a ta wa) (hb : DE X b tb wb) : DF X (.BinOp a .Add b pos) (tOp rCat ta tb) (wFBin fCat wa wb) := ⟨pe_op op_cat ha.pe hb.pe, sndF_op snf_cat ha.sd hb.sd⟩
end DL
namespace DL
open PySem PySem.Spec PyProof.Rows L2
/-- slot j is forgotten before the walk -/
def wiUn (j : Nat) (wI : WI) : WI := fun ρ P => wI ρ fun ds ρ1 => P ds (put ρ1 j .un)
theorem di_un {X : Cx} {tg iter : Expr} {wi : TI} {wI : WI} (j : Nat) (h : DI X tg iter wi wI) : DI X tg iter wi (wiUn j wI) := ⟨h.pi, fun M σ H ρ pv pd P R A hw q => h.sd M σ H ρ pv pd _ _ A hw fun J H1 ρ1 v d ds A1 sk h1 => q J H1 (put ρ1 j .un) v d ds (A1.unset j rfl fun _ _ => rfl) sk h1⟩
end DL
namespace DL
open PySem PySem.Spec PyProof.Rows L2
/-- the same where the items made are known by what holds of them -/
theorem wComp2G_of {ds : List D} {i k : Nat} {we : WE} {ρ : Rho} {P : List D → Rho → Prop} (R : Nat → D → Prop) (hN : ds.length ≤ 100000)
    (hs : ∀ (j : Nat) (x : D), ds[j]? = some x → ∃ a b, x = .tuple [a, b] ∧ ∀ (Q : D → Rho → Prop), (∀ y, R j y → Q y (putP ρ i k a b)) → we (putP ρ i k a b) Q)
    (hP : ∀ ys : List D, ys.length = ds.length → (∀ j y, ys[j]? = some y → R j y) → P ys (unP ρ i k)) : wComp2D ds i k wYes we ρ P := by
  refine ⟨fun j acc => acc.length = j ∧ ∀ n y, acc[n]? = some y → R n y, ⟨rfl, fun n y h => by cases h⟩, fun j x acc hx hI => ?_, fun acc hI => hP acc hI.1 hI.2⟩
  obtain ⟨h1, h2⟩ := hI
  have hj : j < ds.length := (List.getElem?_eq_some_iff.mp hx).1
  obtain ⟨a, b, e, h⟩ := hs j x hx
  refine ⟨a, b, e, rfl, ?_⟩
  rw [if_pos rfl]
  refine h _ fun y hy => ⟨rfl, by omega, by rw [List.length_append, h1]; rfl, fun n z hz => ?_⟩
  rw [List.getElem?_append] at hz
  split at hz
  · exact h2 n z hz
  · next c =>
    rw [List.getElem?_singleton] at hz
    split at hz
    · cases hz
      obtain rfl : n = j := by omega
      exact hy
    · cases hz
end DL
namespace DL
open PySem PySem.Spec PyProof.Rows L2
/-! a list taken apart into names -/
def wgLst (n : Nat) (u : WGs) : WG := fun d ρ P => match d with
  | .list ds => ds.length = n ∧ u ds ρ P
  | _ => False
theorem dg_lst {X : Cx} {es : List Expr} {gs : TGs} {u : WGs} {pos : Pos} {n k : Nat} (hc : X.calm = true) (h : DGs X es gs u) (hn : (assignEach es X.env).length = n := by rfl) (hst : (assignEach es X.env).findIdx? (·.1) = none := by rfl) : DG X (.Tuple es k pos) (gUnl X.K n gs) (wgLst n u) := ⟨pg_unl hc h.pg hn hst, fun M σ H ρ pv pd v d P Q A hw q => by
  cases d <;> first | exact hw.elim | skip
  obtain ⟨ow, B, hp⟩ := A
  cases hp with
  | cons g1 hp =>
    cases g1 with
    | lst g1 g2 =>
      exact ⟨_, _, rfl, .of (hide_le _ _ g1), by rw [g2.length]; exact hw.1, h.sd M σ H ρ pv pd _ _ _ _ g2.length ⟨ow, B, g2.app hp⟩ hw.2 q⟩⟩
end DL

namespace HT
open PySem PySem.Spec PyProof.Rows
section
variable {prog : Program} {w : World} {A : Around} {E : Value → Shared → Prop} {s : Shared}
theorem adjust_rev (n : Nat) : Builtin.Slice.sliceAdjust none none (-1) (n : Int) = ((n : Int) - 1, -1) := rfl
theorem places_rev (n : Nat) : Builtin.Slice.slicePlaces ((n : Int) - 1) (-1) (-1) = n := by
  unfold Builtin.Slice.slicePlaces
  rw [if_neg (by omega), show (- -1 : Int) = 1 by decide, Int.ediv_one]
  split <;> omega
theorem fm_map {α β : Type} {f : α → Option β} {g : α → β} : ∀ {l : List α}, (∀ m ∈ l, f m = some (g m)) → l.filterMap f = l.map g
  | [], _ => rfl
  | a :: l, h => by
    rw [List.filterMap_cons, h a (List.mem_cons_self ..), List.map_cons, fm_map fun m hm => h m (List.mem_cons_of_mem _ hm)]
theorem sliceApplied_rev {sl : Addr} {u : Tok} {n : Nat} {Q : Int × Int × Nat → Shared → Prop} (hs : s.heap.IsSliceOf sl .none .none (.int (-1) u))
    (h : Q ((n : Int) - 1, -1, n) s) : wpAny (model prog w) A (Builtin.Slice.sliceApplied (.ref sl) (pure (n : Int))) Q E s := by
  obtain ⟨os, hos, hcs, hds⟩ := id hs
  unfold Builtin.Slice.sliceApplied Builtin.Slice.sliceFields
  refine wpAny_bind (wpAny_bind (wpAny_field hos hds (x := .none) rfl (wpAny_bind (wpAny_field hos hds (x := .none) rfl (wpAny_bind (wpAny_field hos hds (x := .int (-1) u) rfl (wpAny_pure ?_)))))))
  refine wpAny_bind (slicePart_int ?_)
  show wpAny _ _ (if ((-1 : Int) == 0) = true then _ else _) _ _ s
  rw [if_neg (by decide)]
  refine wpAny_bind (slicePart_none (wpAny_bind (slicePart_none (wpAny_bind (wpAny_pure ?_)))))
  show wpAny _ _ (match Builtin.Slice.sliceAdjust none none (-1) (n : Int) with | (lo, hi) => pure (lo, (-1 : Int), Builtin.Slice.slicePlaces lo hi (-1))) _ _ s
  rw [adjust_rev n]
  show wpAny _ _ (pure ((n : Int) - 1, (-1 : Int), Builtin.Slice.slicePlaces ((n : Int) - 1) (-1) (-1))) _ _ s
  rw [places_rev]
  exact wpAny_pure h
theorem pick_rev (xs : Array Value) : ((List.range xs.size).filterMap fun (m : Nat) => xs[(((xs.size : Nat) : Int) - 1 + (m : Int) * (-1)).toNat]?).toArray = xs.toList.reverse.toArray := by
  congr 1
  refine List.ext_getElem? fun i => ?_
  have e : (List.range xs.size).filterMap (fun (m : Nat) => xs[(((xs.size : Nat) : Int) - 1 + (m : Int) * (-1)).toNat]?) = (List.range xs.size).map fun m => xs.toList[xs.size - 1 - m]?.getD .none := by
    refine fm_map fun m hm => ?_
    have hm := List.mem_range.mp hm
    have t : (((xs.size : Nat) : Int) - 1 + (m : Int) * (-1)).toNat = xs.size - 1 - m := by omega
    rw [t]
    have h2 : xs.size - 1 - m < xs.size := by omega
    simp [h2]
  rw [e, List.getElem?_map]
  by_cases c : i < xs.size
  · rw [List.getElem?_range c, List.getElem?_reverse (by simpa using c)]
    have h2 : xs.size - 1 - i < xs.size := by omega
    simp [h2]
  · rw [List.getElem?_eq_none (by simpa using c), List.getElem?_eq_none (by simpa using c)]; rfl
theorem getItem_tuple_rev {t sl : Addr} {items : Array Value} {u : Tok} {Q : Value → Shared → Prop} (ht : IsTup s.heap t items) (hs : s.heap.IsSliceOf sl .none .none (.int (-1) u))
    (h : Q (.ref s.heap.objs.size) { s with heap := s.heap.push { cls := .type "tuple", data := .seq items.toList.reverse.toArray } })
    (hsz : items.size ≤ sizeLine) : wpAny (model prog w) A (getItem (.ref t) (.ref sl)) Q E s := by
  have htake : sizeOk (.seq items.toList.reverse.toArray) := by
    show items.toList.reverse.toArray.size ≤ sizeLine
    simpa using hsz
  obtain ⟨os, hos, hcs, hds⟩ := id hs
  have hTs : s.TypeIs (.ref sl) "slice" := ⟨os, hos, hcs⟩
  unfold getItem
  try with_reducible refine wpAny_holding ?_
  first | refine wpAny_bind (wpAny_pure ?_) | skip
  refine wpAny_bind (wpAny_sequenceKey ht.typeIs (by decide) ?_)
  refine wpAny_bind (wpAny_callSpecial?_slot (name := Str.ofString "__getitem__") ht.typeIs PyProof.Rows.slot_tuple_getitem
    (wpAny_call_entry PyProof.Rows.slot_tuple_getitem ht.typeIs entry_tuple_getitem ?_ (args_tuple_getitem _ _)))
  show wpAny _ _ (Builtin.Tuple.tupleItemsOf (.ref t) >>= _) _ _ s
  refine wpAny_bind (tupleItemsOf_ ht ?_)
  refine wpAny_bind (wpAny_typeOf hTs ?_)
  rw [if_pos (by decide)]
  refine wpAny_bind (sliceApplied_rev hs ?_)
  have hno : ¬ ((((items.size : Int) - 1) == 0 && (-1 : Int) == 1 && items.size == items.size) = true) := by simp
  show wpAny _ _ (if (((items.size : Int) - 1) == 0 && (-1 : Int) == 1 && items.size == items.size) = true then _ else _) _ _ s
  rw [if_neg hno, pick_rev]
  first
    | exact wpAny_bind (m := Builtin.Tuple.tupleExact _) (wpAny_newObj_type (wpAny_pure ⟨_, rfl, wpAny_pure h⟩) htake)
    | exact wpAny_bind (m := Builtin.Tuple.tupleExact _) (wpAny_newObj_type (wpAny_bind (wpAny_pure (wpAny_pure ⟨_, rfl, wpAny_pure h⟩))) htake)
    | exact wpAny_bind (wpAny_bind (m := Builtin.Tuple.tupleExact _) (wpAny_newObj_type (wpAny_pure (wpAny_pure ⟨_, rfl, wpAny_pure h⟩)) htake))
    | exact wpAny_bind (wpAny_bind (m := Builtin.Tuple.tupleExact _) (wpAny_newObj_type (wpAny_pure ⟨_, rfl, wpAny_pure h⟩) htake))
end
end HT
namespace L2
open PySem PySem.Spec PyProof.Rows
def tRevT (K : PySem.W.Frag) (te : TE) : TE := fun σ H Q => te σ H fun x H1 => ∃ a xs, x = .ref a ∧ SqT K H1 a xs ∧ ∀ p, H1 p = none → Q (.ref p) (upd H1 p (.tup xs.reverse))
theorem pe_revT {X : Cx} {e : Expr} {te : TE} {k : Nat} {p1 p2 p3 pos : Pos} (he : PE X e te) : PE X (.Subscript e (.Slice none none (some (.UnaryOp .USub (.Constant (.int 1) k p1) p2)) p3) pos) (tRevT X.K te) := by
  refine ⟨fun pins s σ H Q I h => ?_⟩
  refine Subscript_ (thn (he.run pins s σ H _ I h) fun v s1 ⟨x, H1, I1, r1, q1⟩ => ?_)
  obtain ⟨a, xs, ex, hx, q⟩ := q1
  subst ex
  cases r1
  have hst : PO X (some (.UnaryOp .USub (.Constant (.int 1) k p1) p2)) (tPart (tUn (rU fun i => .int (-i)) (tC (.int 1)))) := po_some (pe_un un_neg pe_int)
  refine wpAny_Slice (thn (po_none.run pins s1 σ H1 (fun o H2 => o = none ∧ H2 = H1) I1 ⟨rfl, rfl⟩) fun vl s2 ⟨l, H2, I2, pl, el, e2⟩ => ?_)
  subst el e2
  refine thn (po_none.run pins s2 σ H2 (fun o H3 => o = none ∧ H3 = H2) I2 ⟨rfl, rfl⟩) fun vu s3 ⟨u, H3, I3, pu, eu, e3⟩ => ?_
  subst eu e3
  refine thn (hst.run pins s3 σ H3 (fun o H4 => o = some (-1) ∧ H4 = H3) I3 ⟨1, rfl, -1, rfl, rfl, rfl⟩) fun vs s4 ⟨o, H4, I4, ps, eo, e4⟩ => ?_
  subst eo e4
  have I5 : Inv X pins σ H4 { s4 with heap := s4.heap.push { cls := .type "slice", data := .fields #[vl, vu, vs] } } := I4.kept (t' := s4.toks) fun b ob q => Heap.get?_push_of_some _ q
  obtain ⟨its, r, ht, hz⟩ := I5.tuple hx
  have hlen := r.length
  cases pl
  cases pu
  cases ps with
  | int i tk =>
    show wpAny (model X.prog X.w) X.A (subscriptTail e (.Slice none none (some (.UnaryOp .USub (.Constant (.int 1) k p1) p2)) p3) (.ref a) (.ref s4.heap.objs.size)) (EP X pins σ Q) X.xe { s4 with heap := s4.heap.push { cls := .type "slice", data := .fields #[.none, .none, .int (-1) tk] } }
    refine tail_any (ops := [.ref a, .ref s4.heap.objs.size]) ht.typeIs (PyProof.Rows.slot_tuple_getitem.lookup) ?_ (by with_unfolding_all rfl)
    refine HT.getItem_tuple_rev ht (Heap.IsSliceOf.new _ .none .none (.int (-1) tk)) ?_ (by rw [List.size_toArray]; omega)
    refine ⟨.ref _, _, I5.laid (t' := s4.toks) (o := .tup xs.reverse) (fun b ob q => Heap.get?_push_of_some _ q) (Nat.le_refl _) ?_, rfl, q _ (I5.hok.fresh (Nat.le_refl _))⟩
    exact ⟨by rw [List.length_reverse]; exact hz, _, r.reverse, IsTup.new _ _⟩
end L2
namespace DL
open PySem PySem.Spec PyProof.Rows L2
theorem rev_dv {K : Fg} {lc : Option Addr} {H : Hp} : ∀ {vs : List V} {ds : List D}, DvAll K lc H vs ds → DvAll K lc H vs.reverse ds.reverse
  | _, _, .nil => .nil
  | _, _, .cons h1 h2 => by
    rw [List.reverse_cons, List.reverse_cons]
    exact (rev_dv h2).app (.cons h1 .nil)
def wRevT (wa : WE) : WE := fun ρ P => wa ρ fun d ρ1 => match d with
  | .tuple ds => P (.tuple ds.reverse) ρ1
  | _ => False
theorem de_revT {X : Cx} {e : Expr} {ta : TE} {wa : WE} {k : Nat} {p1 p2 p3 pos : Pos} (he : DE X e ta wa) : DE X (.Subscript e (.Slice none none (some (.UnaryOp .USub (.Constant (.int 1) k p1) p2)) p3) pos) (tRevT X.K ta) (wRevT wa) := ⟨pe_revT he.pe, fun M σ H ρ pv pd P Q A h q => by
  refine he.sd M σ H ρ pv pd _ _ A h fun v d H1 ρ1 A1 h1 => ?_
  split at h1
  · next ds =>
    obtain ⟨ow, B, hp⟩ := A1
    cases hp with
    | cons g1 hp =>
      cases g1 with
      | @tup a xs _ g1 g2 =>
        refine ⟨a, xs, rfl, same_t hide_le g1, fun p hp0 => ?_⟩
        have e := same_new (o := .tup xs.reverse) hp0
        exact q _ _ _ _ ⟨ow, B.step (.of e) (B.cok.mono e), .cons (.tup (.of (new_vis B.hall hp0)) ((rev_dv g2).mono (vis_of e))) (hp.mono (B.vis (.of e)))⟩ h1
  · exact h1.elim⟩
end DL

namespace DL
open PySem PySem.Spec PyProof.Rows L2

/-! ## a def whose answer is a new list that nobody else holds -/
def SpF (K : Fg) (pre : List D → Prop) (post : List D → D → Prop) : Sp := fun vs H Q _ => ∃ (lc : Option Addr) (hc hd : Addr → Prop) (ds : List D),
  DvAll K lc (hide hd H) vs ds ∧ Cok K lc hc H ∧ (∀ b, hc b → hd b) ∧ (∀ b, hd b → H b ≠ none) ∧ pre ds ∧
    ∀ p xs es H', H p = none → Evo lc H H' → Cok K lc hc H' → H' p = some (.lst xs) → DvAll K lc (hide (fun b => hd b ∨ b = p) H') xs es → post ds (.list es) → Q (.ref p) H'
section
variable {K : Fg} {M : Amb} {H H' : Hp} {σ : L2.St} {ρ : Rho} {pv : List V} {pd : List D} {ow : Nat → Option Addr} {p : Addr} {ds : List D}
theorem AtW.vis1 (A : AtW K M σ H ρ ow) (hp : H p = none) (e : Evo M.lc H H') : Same (hide (hdO M ow) H) (hide (hdO (M.plus p ds) ow) H') := hide_same fun b o n h => ⟨(fun z => by
    rcases hdO_minus z with z | z
    · exact n z
    · subst z
      rw [hp] at h; cases h), e b o (fun z => n (.inl (A.sub b (A.cok b z).2))) h⟩
theorem AtW.plus1 {xs : List V} (A : AtW K M σ H ρ ow) (hp : H p = none) (e : Evo M.lc H H') (c : Cok K M.lc M.hc H') (hx : H' p = some (.lst xs)) (g : DvAll K M.lc (hide (fun b => hdO M ow b ∨ b = p) H') xs ds) : AtW K (M.plus p ds) σ H' ρ ow := by
  have h0 := A.none0 hp
  have vis : Same (hide (hdO M ow) H) (hide (hdO (M.plus p ds) ow) H') := A.vis1 hp e
  have g' : DvAll K M.lc (hide (hdO (M.plus p ds) ow) H') xs ds := g.mono (hide_same fun b o n h => ⟨fun z => n (hdO_minus z), h⟩)
  exact {
    evo := A.evo.trans e
    cok := c
    sub := A.sub
    all := A.all
    len := A.len
    val := fun i d h => by
      obtain ⟨v, h1, h2⟩ := A.val i d h
      exact ⟨v, h1, h2.mono vis⟩
    own := fun i ds h => by
      obtain ⟨q, xs, h1, h2, h3, h4⟩ := A.own i ds h
      exact ⟨q, xs, h1, h2, e _ _ (A.nel (A.fre i q h1).1) h3, h4.mono vis⟩
    fre := fun i q h => by
      obtain ⟨h1, xs, h2⟩ := A.fre i q h
      exact ⟨h1, xs, e q _ (A.nel h1) h2⟩
    inj := A.inj
    gho := fun q es h => by
      rcases List.mem_cons.mp h with z | z
      · cases z
        exact ⟨h0, (fun i hi => by
          obtain ⟨_, ys, h⟩ := A.fre i p hi
          rw [hp] at h
          exact nomatch h), xs, hx, g'⟩
      · obtain ⟨h1, h2, xs, h3, h4⟩ := A.gho q es z
        exact ⟨h1, h2, xs, e _ _ (A.nel h1) h3, h4.mono vis⟩
    gnd := List.nodup_cons.mpr ⟨fun z => by
      obtain ⟨⟨q, es⟩, h1, h2⟩ := List.mem_map.mp z
      cases h2
      obtain ⟨_, _, xs, h3, _⟩ := A.gho p es h1
      exact absurd h3 (by rw [hp]; exact fun z => nomatch z), A.gnd⟩ }
end
def wCallF (pre : List D → Prop) (post : List D → D → Prop) (wa : WA) : WF := fun ρ P => wa ρ fun ds ρ1 => pre ds ∧ ∀ es, post ds (.list es) → P es ρ1
def wFOr (wa wb : WF) : WF := fun ρ P => wa ρ fun ds ρ1 => if ds.isEmpty = true then wb ρ1 P else P ds ρ1
section
variable {X : Cx} {K : Fg} {a b c e : Expr} {es : List Expr} {ta tb : TE} {wa wb : WF} {t : TA} {wr : WA} {pos p p2 : Pos}
theorem sndf_call {pre : List D → Prop} {post : List D → D → Prop} {E : XK} (h : SndA K t wr) : SndF K (tCall (SpF K pre post) [] E t) (wCallF pre post wr) := fun M σ H ρ pv pd P Q A hw q => by
  refine h M σ H ρ pv pd _ _ A hw fun vs ds H1 ρ1 hl A1 h1 => ?_
  obtain ⟨ow, B, hp⟩ := A1
  obtain ⟨g1, g2⟩ := DvAll.split hl hp
  show SpF K pre post (vs ++ []) H1 Q E
  rw [List.append_nil]
  refine ⟨M.lc, M.hc, hdO M ow, ds, g1, B.cok, fun b z => .inl (B.sub b z), B.hall, h1.1, fun p xs es H' h0 e c hx g p2 => ?_⟩
  exact q p es H' ρ1 ⟨ow, B.plus1 h0 e c hx g, g2.mono (B.vis1 h0 e)⟩ (h1.2 es p2)
theorem df_call {CX : CXT} {k : Nat} {f : Addr} {fd : FuncData} {ps : List Str} {pre : List D → Prop} {post : List D → D → Prop} {E : XK} {x : Str} {K' : Fg} (F : FnOk X.prog X.w X.K X.mg X.base CX k f fd ps (SpF K' pre post)) (hr : Room k X.A) (hg : Gl X x) (hm : X.mg x = some (.ref f))
    (hk : PySem.W.keepIn X.K (.ref f) = true) (hb : Binds X.K fd ps []) (hx : Passes CX X E) (ha : DA X (e :: es) t wr) (hK : X.K = K' := by rfl) (hdb : (x == ("__debug__" : Str)) = false := by decide) (he : starEach (e :: es) X.env = (false, eval e X.env) :: starEach es X.env := by rfl)
    (hpl : (backTo pos (starEach es X.env)).any (·.1) = false := by rfl) : DF X (.Call (.Name x p) (e :: es) [] pos) (tCall (SpF K' pre post) [] E t) (wCallF pre post wr) :=
  ⟨pe_call F hr hg hm hk hb .nil hx ha.pa hdb he hpl, by subst hK; exact sndf_call ha.sd⟩
theorem df_one {op} (ha : DF X a ta wa) : DF X (.BoolOp op [a] pos) ta wa := ⟨pe_one ha.pe, ha.sd⟩
theorem df_or (ha : DF X a ta wa) (hb : DF X (.BoolOp .Or (b :: es) pos) tb wb) : DF X (.BoolOp .Or (a :: b :: es) pos) (tOrT X.K ta tb) (wFOr wa wb) := ⟨pe_orT ha.pe hb.pe, fun M σ H ρ pv pd P Q A h q => by
  refine ha.sd M σ H ρ pv pd _ _ A h fun p ds H1 ρ1 A1 h1 => ?_
  have A2 := A1
  obtain ⟨ow, B, hp⟩ := A1
  obtain ⟨g1, g2, xs, g3, g4⟩ := B.gho p ds (List.mem_cons_self ..)
  refine ⟨!ds.isEmpty, .inl ⟨xs, .of g3, by rw [g4.isEmpty]⟩, ?_⟩
  cases e : ds.isEmpty with
  | true =>
    rw [e] at h1
    rw [if_pos rfl] at h1
    rw [if_neg (by simp)]
    exact hb.sd M σ H1 ρ1 pv pd _ _ A2.free.pop h1 q
  | false =>
    rw [e] at h1
    rw [if_neg (by simp)] at h1
    rw [if_pos (by simp)]
    exact q _ _ _ _ A2 h1⟩
end

/-! ## bodies that give new lists -/
structure FinF (K : Fg) (M : Amb) (pv : List V) (pd : List D) (DD : DEnds) (HD : Ends) : Prop where
  nx : ∀ σ H ρ, At K M σ H ρ pv pd → DD.nx ρ → HD.nx σ H
  rt : ∀ p xs es H, M.H0 p = none → Evo M.lc M.H0 H → Cok K M.lc M.hc H → H p = some (.lst xs) → DvAll K M.lc (hide (fun b => M.hd b ∨ b = p) H) xs es → DD.rt (.list es) → HD.rt (.ref p) H
  bk : ∀ σ H ρ, At K M σ H ρ pv pd → DD.bk ρ → HD.bk σ H
  ct : ∀ σ H ρ, At K M σ H ρ pv pd → DD.ct ρ → HD.ct σ H
def SndSF (K : Fg) (t : TS) (w : WS) : Prop := ∀ (M : Amb) (σ : L2.St) (H : Hp) (ρ : Rho) (pv : List V) (pd : List D) (DD : DEnds) (HD : Ends),
  At K M σ H ρ pv pd → w DD ρ → FinF K M pv pd DD HD → t HD σ H
structure DSF (X : Cx) (st : Stmt) (t : TS) (w : WS) : Prop where
  ps : PS X st t
  sd : SndSF X.K t w
structure DSsF (X : Cx) (sts : List Stmt) (t : TS) (w : WS) : Prop where
  ps : PSs X sts t
  sd : SndSF X.K t w
/-- a statement that gives no answer -/
def wNoR (w : WS) : WS := fun DD ρ => w { DD with rt := fun _ => False } ρ
def wRetF (wf : WF) : WS := fun DD ρ => wf ρ fun ds _ => DD.rt (.list ds)
def wRetO (i : Nat) : WS := fun DD ρ => match look ρ i with
  | .own ds => DD.rt (.list ds)
  | _ => False
section
variable {X : Cx} {K : Fg} {a b c e : Expr} {tt : TT} {wt : WT} {ta : TE} {wf : WF} {pos p p2 : Pos} {st : Stmt} {sts sts2 : List Stmt} {ts tu : TS} {w u : WS}
theorem dsf_of (h : DS X st ts w) : DSF X st ts (wNoR w) := ⟨h.ps, fun M σ H ρ pv pd DD HD A hw F =>
  h.sd M σ H ρ pv pd { DD with rt := fun _ => False } HD A hw ⟨F.nx, fun _ _ _ _ _ _ h => h.elim, F.bk, F.ct⟩⟩
theorem dssf_nil : DSsF X [] tNext wNext := ⟨pss_nil, fun M σ H ρ pv pd DD HD A h F => F.nx σ H ρ A h⟩
theorem dssf_cons (h1 : DSF X st ts w) (h2 : DSsF X sts tu u) : DSsF X (st :: sts) (tSeq ts tu) (wSeq w u) := ⟨pss_cons h1.ps h2.ps, fun M σ H ρ pv pd DD HD A h F =>
  h1.sd M σ H ρ pv pd _ { HD with nx := tu HD } A h ⟨fun σ' H' ρ' A' h' => h2.sd M σ' H' ρ' pv pd _ _ A' h' F, F.rt, F.bk, F.ct⟩⟩
theorem dssf_one (h1 : DSF X st ts w) : DSsF X [st] ts w := ⟨pss_one h1.ps, h1.sd⟩
theorem dsf_if {c : Expr} (hc : DT X c tt wt) (ha : DSsF X sts ts w) (hb : DSsF X sts2 tu u) : DSF X (.If c sts sts2 pos) (tIfS tt ts tu) (wIfS wt w u) := ⟨ps_if hc.pt ha.ps hb.ps, fun M σ H ρ pv pd DD HD A h F => by
  refine hc.sd M σ H ρ pv pd _ _ A h fun b H1 ρ1 A1 h1 => ?_
  cases b with
  | true =>
    rw [if_pos rfl] at h1 ⊢
    exact ha.sd M σ H1 ρ1 pv pd _ _ A1 h1 F
  | false =>
    rw [if_neg Bool.false_ne_true] at h1 ⊢
    exact hb.sd M σ H1 ρ1 pv pd _ _ A1 h1 F⟩
theorem dsf_ret (he : DF X e ta wf) : DSF X (.Return (some e) pos) (tRet ta) (wRetF wf) := ⟨ps_ret he.pe, fun M σ H ρ pv pd DD HD A h F => he.sd M σ H ρ pv pd _ _ A h fun p ds H' ρ' A' h' => by
  obtain ⟨ow, B, hp⟩ := A'
  obtain ⟨g1, g2, xs, g3, g4⟩ := B.gho p ds (List.mem_cons_self ..)
  exact F.rt p xs ds H' g1 B.evo B.cok g3 (g4.mono (hide_same fun b o n h => ⟨fun z => n (by
    rcases z with z | z
    · exact .inl z
    · subst z; exact .inr (.inr ⟨ds, List.mem_cons_self ..⟩)), h⟩)) h'⟩
theorem dsf_never : DSF X st tNever wNever := ⟨ps_never, fun M σ H ρ pv pd DD HD A h F => h.elim⟩
theorem dsf_retO (i : Nat) {x : Str} (hN : X.N[i]? = some x := by rfl) (hv : Vis X.env.scope x := by first | exact Or.inl rfl | exact Or.inr (Or.inl rfl) | exact Or.inr (Or.inr rfl)) (hd : (x == ("__debug__" : Str)) = false := by decide)
    (hcd : (x == ("__classdict__" : Str)) = false := by decide) : DSF X (.Return (some (.Name x p)) pos) (tRet (tVar i)) (wRetO i) := ⟨ps_ret (pe_var hN hv hd hcd), fun M σ H ρ pv pd DD HD A h F => by
  obtain ⟨ow, B, hp⟩ := A
  unfold wRetO at h
  split at h
  · next ds e =>
    obtain ⟨p, xs, h1, h2, h3, h4⟩ := B.own i ds e
    exact ⟨.ref p, h2, F.rt p xs ds H (B.fre i p h1).1 B.evo B.cok h3 (h4.mono (hide_same fun b o n h => ⟨fun z => n (by
      rcases z with z | z
      · exact .inl z
      · subst z; exact .inr (.inl ⟨i, h1⟩)), h⟩)) h⟩
  · exact h.elim⟩
end
section
variable {P : Program} {w : World} {K : Fg} {mg : Str → Option Value} {base : Heap}
theorem fnf_ok {x qual : Str} {st : Stmt} {f : Addr} {fd : FuncData} {N ps : List Str} {k : Nat} {pre : List D → Prop} {post : List D → D → Prop} (F : Fun K x qual st f fd) (S : FnScope N ps (defScope st)) (len : ∀ ds, pre ds → ds.length = ps.length)
    (body : ∀ (cdv : Value) (A : Around) (outer : List PySem.Env) (s : Shared) (H : Hp) (E : XK), Room k (A.deeper (envOfC qual (defScope st) s.heap.objs.size f cdv)) →
      ∃ t u, DSsF (cxOf CX0 P w K mg base N qual (defScope st) f cdv A outer s H E).nox (defBody st) t u ∧ ∀ ds, pre ds → u { nx := fun _ => False, rt := post ds } (env0 N ds)) :
    FnOk P w K mg base CX0 (k + 1) f fd ps (SpF K pre post) := by
  refine F.ok S (fun vs H Q E h => ?_) (fun cdv A outer s H vs Q E hr h => ?_)
  · obtain ⟨lc, hc, hd, ds, g, c, sb, al, p, q⟩ := h
    rw [g.length]
    exact len ds p
  · obtain ⟨lc, hc, hd, ds, g, c, sb, al, p, q⟩ := h
    obtain ⟨t, u, b, hu⟩ := body cdv A outer s H E hr
    exact ⟨t, b.ps, b.sd ⟨lc, hc, hd, H, []⟩ (L2.start N vs) H (env0 N ds) [] [] _ _ (at_start g c sb al) (hu ds p) ⟨fun _ _ _ _ h => h.elim, fun p xs es H' h0 e c' hx g' h' => q p xs es H' h0 e c' hx g' h', fun _ _ _ _ h => h.elim, fun _ _ _ _ h => h.elim⟩⟩
end
end DL

namespace L2
open PySem PySem.Spec PyProof.Rows
/-! ## a tuple times any int -/
theorem tuple_mul_one (l : Addr) (items : Array Value) (n : Nat) (dd : Option Addr) (sl : Array (Option Value)) (x : Int) (u : Tok) (c0 : (decide (x < -(2 ^ 63)) || decide (x ≥ 2 ^ 63)) = false) (c1 : (items.isEmpty || x == 1) = true) :
    Meets (Builtin.«tuple.__mul__» ⟨[.ref l, .int x u], []⟩) (fun _ R s => s.heap.get? l = some { cls := .type "tuple", dict := dd, data := .seq items n, slots := sl } ∧ R (.ok (.ret (Value.ref l))) s) :=
  .of_wp fun prog w A R s h => by
    obtain ⟨hp, g, d, tk, os⟩ := s
    obtain ⟨hl, h⟩ := h
    have f1 := AutoSeq1.idx_int
    wp_walk using wpAny_loadPart' hl
    repeat (first
      | (refine wpAny_ite_false (decide_eq_false (by rw [c0]; exact Bool.false_ne_true)) ?_; wp_walk using wpAny_loadPart' hl)
      | (refine wpAny_ite_true (decide_eq_true c1) ?_; wp_walk using wpAny_loadPart' hl))
    exact ⟨_, rfl, h⟩
theorem tuple_mul_none (l : Addr) (items : Array Value) (n : Nat) (dd : Option Addr) (sl : Array (Option Value)) (x : Int) (u : Tok) (c0 : (decide (x < -(2 ^ 63)) || decide (x ≥ 2 ^ 63)) = false) (c1 : (items.isEmpty || x == 1) = false) (c2 : (decide (x ≤ 0) || items.isEmpty) = true) :
    Meets (Builtin.«tuple.__mul__» ⟨[.ref l, .int x u], []⟩) (fun _ R s => s.heap.get? l = some { cls := .type "tuple", dict := dd, data := .seq items n, slots := sl } ∧
      R (.ok (.ret (Value.ref s.heap.objs.size))) { s with heap := s.heap.push { cls := Value.type "tuple", data := Data.seq #[] }, toks := s.toks }) :=
  .of_wp fun prog w A R s h => by
    obtain ⟨hp, g, d, tk, os⟩ := s
    obtain ⟨hl, h⟩ := h
    have f1 := AutoSeq1.idx_int
    wp_walk using wpAny_loadPart' hl
    repeat (first
      | (refine wpAny_ite_false (decide_eq_false (by rw [c0]; exact Bool.false_ne_true)) ?_; wp_walk using wpAny_loadPart' hl)
      | (refine wpAny_ite_false (decide_eq_false (by rw [c1]; exact Bool.false_ne_true)) ?_; wp_walk using wpAny_loadPart' hl)
      | (refine wpAny_ite_true (decide_eq_true c2) ?_; wp_walk using wpAny_loadPart' hl))
    exact ⟨_, rfl, h⟩
end L2
namespace L2
open PySem PySem.Spec PyProof.Rows
def rRepTA (K : PySem.W.Frag) : R2 := fun x y H Q => ∃ l k xs, x = .ref l ∧ y = .int k ∧ SqT K H l xs ∧ -(2 ^ 63) ≤ k ∧ k < 2 ^ 63 ∧ xs.length ≤ 100000 ∧ xs.length * k.toNat ≤ 100000 ∧
  ((k = 1 ∨ xs = []) → Q (.ref l) H) ∧ (¬ (k = 1 ∨ xs = []) → ∀ p, H p = none → Q (.ref p) (upd H p (.tup (List.replicate k.toNat xs).flatten)))
theorem op_repTA {X : Cx} : OpR X (binaryOp .Mult) (rRepTA X.K) := by
  intro pins s σ H x y v u Q I rx ry h
  obtain ⟨l, k, xs, rfl, rfl, hT, h1, h2, hz0, hz, qs, qn⟩ := h
  cases rx
  obtain ⟨t, rfl⟩ := ry
  obtain ⟨its, r, ⟨⟨cls, dd, data, sl⟩, ho, hc, n, hd⟩, hs⟩ := I.tuple hT
  simp only at hc hd
  subst hc hd
  have hle : its.length = xs.length := r.length.symm
  have hsz0 : its.toArray.size = xs.length := by rw [List.size_toArray, hle]
  have flen : (List.replicate k.toNat its).flatten.length ≤ sizeLine := by
    rw [PyProof.Rows.lm_len_rep_flat, hle, sizeLine_eq, Nat.mul_comm]
    omega
  have c0 : (decide (k < -(2 ^ 63)) || decide (k ≥ 2 ^ 63)) = false := by
    rw [decide_eq_false (by omega), decide_eq_false (by omega)] <;> rfl
  have ie : its.toArray.isEmpty = decide (xs = []) := by
    cases its with
    | nil =>
      have : xs = [] := List.eq_nil_of_length_eq_zero hle.symm
      subst this; rfl
    | cons a b =>
      cases xs with
      | nil => cases hle
      | cons a b => rfl
  by_cases c : k = 1 ∨ xs = []
  · have c1 : (its.toArray.isEmpty || k == 1) = true := by
      rw [ie]
      rcases c with c | c
      · subst c; simp
      · rw [decide_eq_true c]; rfl
    refine wpAny_binaryOp_repeat_ref (T := "tuple") (U := "int") (by decide) ⟨_, ho, rfl⟩ (fun s' => typeIs_int s' k t) noFill_tuple_mul F.fills_int_mul F.slot_int_rmul repeat_tuple F.slot_int_index.lookup
      (call_meets F.slot_int_rmul (typeIs_int s k t) F.entry_int_rmul (F.args_int_rmul_2 _ _) (int_rmul_tuple k t l its.toArray n dd sl)
        ⟨ho, rfl, ⟨_, ho, rfl⟩, call_meets F.slot_tuple_mul ⟨_, ho, rfl⟩ F.entry_tuple_mul (F.args_tuple_mul_2 _ _) (tuple_mul_one l its.toArray n dd sl k t c0 c1) ⟨ho, ?_⟩⟩)
    exact ⟨.ref l, H, I, rfl, qs c⟩
  · have c1 : (its.toArray.isEmpty || k == 1) = false := by
      rw [ie, decide_eq_false (fun z => c (.inr z)), Bool.false_or]
      exact beq_eq_false_iff_ne.mpr (fun z => c (.inl z))
    by_cases c3 : k ≤ 0
    · have c2 : (decide (k ≤ 0) || its.toArray.isEmpty) = true := by rw [decide_eq_true c3]; rfl
      refine wpAny_binaryOp_repeat_ref (T := "tuple") (U := "int") (by decide) ⟨_, ho, rfl⟩ (fun s' => typeIs_int s' k t) noFill_tuple_mul F.fills_int_mul F.slot_int_rmul repeat_tuple F.slot_int_index.lookup
        (call_meets F.slot_int_rmul (typeIs_int s k t) F.entry_int_rmul (F.args_int_rmul_2 _ _) (int_rmul_tuple k t l its.toArray n dd sl)
          ⟨ho, rfl, ⟨_, ho, rfl⟩, call_meets F.slot_tuple_mul ⟨_, ho, rfl⟩ F.entry_tuple_mul (F.args_tuple_mul_2 _ _) (tuple_mul_none l its.toArray n dd sl k t c0 c1 c2) ⟨ho, ?_⟩⟩)
      have q := qn c s.heap.objs.size (I.hok.fresh (Nat.le_refl _))
      have e0 : (List.replicate k.toNat xs).flatten = [] := by
        have : k.toNat = 0 := by omega
        rw [this]; rfl
      rw [e0] at q
      refine ⟨.ref s.heap.objs.size, _, I.laid (t' := s.toks) (o := .tup []) (fun b ob q => Heap.get?_push_of_some _ q) (Nat.le_refl _) ?_, rfl, q⟩
      exact ⟨Nat.zero_le _, [], .nil, IsTup.new _ _⟩
    · have c2 : (decide (k ≤ 0) || its.toArray.isEmpty) = false := by
        rw [decide_eq_false c3, ie, decide_eq_false (fun z => c (.inr z))]; rfl
      have hx1 : 1 ≤ xs.length := List.length_pos_iff.mpr fun z => c (.inr z)
      have hm : ((its.toArray.size : Nat) : Int) * k ≤ 1000000 := by
        rw [hsz0]
        have : ((xs.length * k.toNat : Nat) : Int) ≤ 100000 := by omega
        rw [Int.natCast_mul, show ((k.toNat : Nat) : Int) = k by omega] at this
        omega
      have c4 : Builtin.Tuple.tupleTooMany (((its.toArray.size : Nat) : Int) * k) = false := by
        unfold Builtin.Tuple.tupleTooMany
        rw [sizeLine_eq]
        exact decide_eq_false (by omega)
      refine wpAny_binaryOp_repeat_ref (T := "tuple") (U := "int") (by decide) ⟨_, ho, rfl⟩ (fun s' => typeIs_int s' k t) noFill_tuple_mul F.fills_int_mul F.slot_int_rmul repeat_tuple F.slot_int_index.lookup
        (call_meets F.slot_int_rmul (typeIs_int s k t) F.entry_int_rmul (F.args_int_rmul_2 _ _) (int_rmul_tuple k t l its.toArray n dd sl)
          ⟨ho, rfl, ⟨_, ho, rfl⟩, call_meets F.slot_tuple_mul ⟨_, ho, rfl⟩ F.entry_tuple_mul (F.args_tuple_mul_2 _ _) (tuple_mulW l its.toArray n dd sl k t c0 c1 c2 (by omega) c4 (by rw [size_rep, List.size_toArray]; exact flen)) ⟨ho, ?_⟩⟩)
      rw [size_rep]
      refine ⟨.ref s.heap.objs.size, _, I.laid (t' := s.toks) (o := .tup (List.replicate k.toNat xs).flatten) (fun b ob q => Heap.get?_push_of_some _ q) (Nat.le_refl _) ?_, rfl, qn c _ (I.hok.fresh (Nat.le_refl _))⟩
      exact ⟨by rw [PyProof.Rows.lm_len_rep_flat, sizeLine_eq, Nat.mul_comm]; omega, _, r.rep k.toNat, IsTup.new _ _⟩
end L2
namespace DL
open PySem PySem.Spec PyProof.Rows L2
/-- a tuple times an int -/
def dMulT : D → D → (D → Prop) → Prop
  | .tuple a, .int k, P => -(2 ^ 63) ≤ k ∧ k < 2 ^ 63 ∧ a.length ≤ 100000 ∧ a.length * k.toNat ≤ 100000 ∧ P (.tuple (List.replicate k.toNat a).flatten)
  | _, _, _ => False
theorem rep_one {α : Type} (a : List α) : (List.replicate (1 : Int).toNat a).flatten = a := by simp
theorem rep_nil {α : Type} (k : Nat) : (List.replicate k ([] : List α)).flatten = [] := by simp
theorem sn2_mulT {K : Fg} : Sn2 K (rRepTA K) dMulT := fun lc hd H x y a b P Q al hx hy h q => by
  cases a <;> cases b <;> first | exact h.elim | skip
  cases hy
  cases hx with
  | @tup l xs ds g1 g2 =>
    have hl := g2.length
    refine ⟨_, _, xs, rfl, rfl, same_t hide_le g1, h.1, h.2.1, by rw [hl]; exact h.2.2.1, by rw [hl]; exact h.2.2.2.1, fun c => ?_, fun c p hp => ?_⟩
    · refine q _ _ H (Same.refl H) (.tup g1 g2) ?_
      have h5 := h.2.2.2.2
      rcases c with c | c
      · subst c; rw [rep_one] at h5; exact h5
      · subst c
        cases g2
        rw [rep_nil] at h5; exact h5
    · exact q _ _ _ (same_new hp) (.tup (.of (new_vis al hp)) ((Vrep g2 _).mono (vis_new hp))) h.2.2.2.2
/-! ## sum of a list of ints -/
def bSum : List D → (D → Prop) → Prop
  | [.list ds], P => ∃ ns : List Int, ds = ns.map .int ∧ P (.int ns.sum)
  | _, _ => False
theorem ints_v {K : Fg} {lc : Option Addr} {H : Hp} : ∀ {ns : List Int} {vs : List V}, DvAll K lc H vs (ns.map PyData.int) → vs = ns.map V.int
  | [], _, h => by cases h; rfl
  | n :: ns, _, h => by
    cases h with
    | cons h1 h2 =>
      cases h1
      rw [ints_v h2]; rfl
theorem snc_sum {K : Fg} : SnC K (rSum K) bSum := fun lc hd H xs as P Q al hx h q => by
  unfold bSum at h
  split at h
  · obtain ⟨ns, rfl, p⟩ := h
    obtain ⟨x, rfl, g⟩ := da1 hx
    cases g with
    | lst g1 g2 =>
      have e := ints_v g2
      subst e
      exact ⟨_, ns, rfl, .of (hide_le _ _ g1), q _ _ H (Same.refl H) (.int _) p⟩
  · exact h.elim
/-! ## zip of two tuples -/
theorem srcS_zipT {K : Fg} {a b : Addr} {xs ys : List D} : SrcOkS K (RZ.ItzT K a b) [.ref a, .ref b] [.tuple xs, .tuple ys] (zipD xs ys) := fun M σ H ρ pv pd A => by
  obtain ⟨ow, B, hp⟩ := A
  cases hp with
  | cons g1 hp =>
    cases hp with
    | cons g2 hp =>
      cases g1 with
      | @tup _ us _ g3 g4 =>
        cases g2 with
        | @tup _ vs _ g5 g6 =>
          have hS : SqT K H a us := same_t hide_le g3
          have hT : SqT K H b vs := same_t hide_le g5
          refine ⟨fun i hi => ?_, us, vs, hS, hT, ?_⟩
          · rw [zipD_len] at hi
            have h1 : i < xs.length := by omega
            have h2 : i < ys.length := by omega
            obtain ⟨y, gy, gyd⟩ := g4.get (List.getElem?_eq_getElem h1)
            obtain ⟨w, gw, gwd⟩ := g6.get (List.getElem?_eq_getElem h2)
            refine ⟨⟨us, vs, y, w, hS, hT, gy, gw⟩, fun x H' hy => ?_⟩
            obtain ⟨T, z, z2, rfl, hT0, rfl, f1, f2⟩ := hy
            have ex : z = y := Option.some.inj ((f1 _ hS).symm.trans gy)
            have ex2 : z2 = w := Option.some.inj ((f2 _ hT).symm.trans gw)
            subst ex ex2
            obtain ⟨d1, d2, k1, k2, ee⟩ := zipD_get (List.getElem?_eq_getElem (by rw [zipD_len]; omega : i < (zipD xs ys).length))
            rw [ee]
            have : d1 = xs[i] := Option.some.inj (k1.symm.trans (List.getElem?_eq_getElem h1))
            subst this
            have : d2 = ys[i] := Option.some.inj (k2.symm.trans (List.getElem?_eq_getElem h2))
            subst this
            have e : Same H (upd H T (.tup [z, z2])) := same_new hT0
            refine ⟨ow, B.step (.of e) (B.cok.mono e), .cons (.tup (.of (new_vis B.hall hT0)) (.cons (gyd.mono (vis_of e)) (.cons (gwd.mono (vis_of e)) .nil))) ?_⟩
            exact DvAll.mono (vis_of e) (.cons (.tup g3 g4) (.cons (.tup g5 g6) hp))
          · rw [zipD_len, g4.length, g6.length]; omega
def wCompZT (wr : WA) (i k : Nat) (wt : WT) (we : WE) : WF := fun ρ P => wr ρ fun ds ρ1 => match ds with
  | [.tuple xs, .tuple ys] => wComp2D (zipD xs ys) i k wt we ρ1 P
  | _ => False
section
variable {X : Cx} {elt tg iter : Expr} {ifs : List Expr} {scope : Scope} {i k : Nat} {x y : Str} {pos : Pos} {wi : TI} {tt : TT} {te : TE} {wI : WI} {wt : WT} {we : WE} {wr : WA} {tr : TA} {e1 e2 : Expr} {es : List Expr} {kk : Nat} {tp p cp : Pos}
theorem df_compZT (hgz : Gl X "zip") (hmz : X.mg "zip" = none) (hik : i ≠ k) (hc : X.calm = true) (hN : X.N.Nodup) (ha : DA X [e1, e2] tr wr) (ok : BlkOk X.N X.env.scope scope [(x, i), (y, k)])
    (hg : ∀ (s : Shared) (H : Hp) (C : Addr) (cl : List (Str × Addr)) (fp : List Addr), PG (X.blk s H scope (compEnvC scope cl C X.env) fp) (.Tuple es kk tp) (gPair X.K i k)) (ht' : ∀ (s : Shared) (H : Hp) (C : Addr) (cl : List (Str × Addr)) (fp : List Addr), DTb (X.blk s H scope (compEnvC scope cl C X.env) fp) ifs tt wt)
    (he' : ∀ (s : Shared) (H : Hp) (C : Addr) (cl : List (Str × Addr)) (fp : List Addr), DEb (X.blk s H scope (compEnvC scope cl C X.env) fp) elt te we) (hz : starEach [e1, e2] X.env = (false, eval e1 X.env) :: starEach [e2] X.env := by rfl) (hpl : (backTo cp (starEach [e2] X.env)).any (·.1) = false := by rfl) (hs : ∀ x, foldedSetIterable (.Call (.Name "zip" p) [e1, e2] [] cp) X.env x = pure x := by intro _; rfl) :
    DF X (.ListComp elt [⟨.Tuple es kk tp, .Call (.Name "zip" p) [e1, e2] [] cp, ifs, 0⟩] scope pos) (tLc (RZ.iZipA X.K tr) (gPair X.K i k) tt te [i, k]) (wCompZT wr i k wt we) := by
  have ht := fun s H C cl fp => (ht' s H C cl fp).dt
  have he := fun s H C cl fp => (he' s H C cl fp).de
  have sT : SndT X.K tt wt := (ht X.s_0 (fun _ => none) 0 [] []).sd
  have sE : Snd X.K te we := (he X.s_0 (fun _ => none) 0 [] []).sd
  refine ⟨pe_lc (own := [(x, i), (y, k)]) (g := gPair X.K i k) hc hN (RZ.pi_zipA hgz hmz ha.pa hz hpl) ok hg (fun s H C cl fp => (ht s H C cl fp).pt) (fun s H C cl fp => (he s H C cl fp).pe) hs, fun M σ H ρ pv pd P Q A h q => ?_⟩
  refine ha.sd M σ H ρ pv pd _ _ A h fun vs ds H1 ρ1 hl A1 h1 => ?_
  split at h1
  · next xs ys =>
    obtain ⟨ow, B, hp⟩ := A1
    obtain ⟨g1, g2⟩ := DvAll.split hl hp
    cases g1 with
    | cons ga g1 =>
      cases g1 with
      | cons gb g1 =>
        cases g1
        cases ga with
        | @tup a us _ g3 g4 =>
          cases gb with
          | @tup b vs _ g5 g6 =>
            exact ⟨_, _, us, vs, rfl, .inr ⟨same_t hide_le g3, same_t hide_le g5, comp2_core hik (vs := [.ref a, .ref b]) (dd := [.tuple xs, .tuple ys]) rfl sT sE srcS_zipT ⟨ow, B, .cons (.tup g3 g4) (.cons (.tup g5 g6) g2)⟩ h1 q⟩⟩
  · exact h1.elim
end
theorem ds_setLcZT {X : Cx} {elt : Expr} {ifs : List Expr} {scope : Scope} {i k j : Nat} {x y z : Str} {pos py spos : Pos} {tt : TT} {te : TE} {wt : WT} {we : WE} {wr : WA} {tr : TA} {e1 e2 : Expr} {es : List Expr} {kk : Nat} {tp p cp : Pos} (hgz : Gl X "zip") (hmz : X.mg "zip" = none) (hik : i ≠ k) (hc : X.calm = true) (hN : X.N.Nodup) (ha : DA X [e1, e2] tr wr) (ok : BlkOk X.N X.env.scope scope [(x, i), (y, k)])
    (hg : ∀ (s : Shared) (H : Hp) (C : Addr) (cl : List (Str × Addr)) (fp : List Addr), PG (X.blk s H scope (compEnvC scope cl C X.env) fp) (.Tuple es kk tp) (gPair X.K i k)) (ht : ∀ (s : Shared) (H : Hp) (C : Addr) (cl : List (Str × Addr)) (fp : List Addr), DTb (X.blk s H scope (compEnvC scope cl C X.env) fp) ifs tt wt)
    (he : ∀ (s : Shared) (H : Hp) (C : Addr) (cl : List (Str × Addr)) (fp : List Addr), DEb (X.blk s H scope (compEnvC scope cl C X.env) fp) elt te we) (hy : X.N[j]? = some z) (hyl : X.env.scope.names.lookup z = some .local)
    (hsw : swapsWith (.ListComp elt [⟨.Tuple es kk tp, .Call (.Name "zip" p) [e1, e2] [] cp, ifs, 0⟩] scope pos) (some (.Name z py)) spos.line X.env = pure true) (hz : starEach [e1, e2] X.env = (false, eval e1 X.env) :: starEach [e2] X.env := by rfl) (hpl : (backTo cp (starEach [e2] X.env)).any (·.1) = false := by rfl) (hs : ∀ x, foldedSetIterable (.Call (.Name "zip" p) [e1, e2] [] cp) X.env x = pure x := by intro _; rfl) :
    DS X (.Assign [.Name z py] (.ListComp elt [⟨.Tuple es kk tp, .Call (.Name "zip" p) [e1, e2] [] cp, ifs, 0⟩] scope pos) spos) (tAsg (tLc (RZ.iZipA X.K tr) (gPair X.K i k) tt te [i, k]) (gName j)) (wAsg (fun ρ P => wCompZT wr i k wt we ρ fun ds ρ1 => P (.list ds) ρ1) (wgName j)) :=
  ⟨ps_setLc (own := [(x, i), (y, k)]) hc hN hy hyl hsw (RZ.pi_zipA hgz hmz ha.pa hz hpl) ok hg (fun s H C cl fp => (ht s H C cl fp).dt.pt) (fun s H C cl fp => (he s H C cl fp).de.pe) hs, snds_asg (df_compZT (pos := pos) hgz hmz hik hc hN ha ok hg ht he hz hpl hs).de.sd (sndg_name j)⟩
/-- int(True) -/
def bIntB : List D → (D → Prop) → Prop
  | [.bool b], P => P (.int (if b then 1 else 0))
  | _, _ => False
theorem snc_intB {K : Fg} : SnC K rIntV bIntB := fun lc hd H xs as P Q al hx h q => by
  unfold bIntB at h
  split at h
  · obtain ⟨x, rfl, g⟩ := da1 hx
    cases g
    exact .inr ⟨_, rfl, q _ _ H (Same.refl H) (.int _) h⟩
  · exact h.elim
end DL

namespace DL
open PySem PySem.Spec PyProof.Rows L2
/-! ## rows = [list(row) for row in ..]; row = rows[k]; row[j] = x -/
def NoOwn (ρ : Rho) : Prop := ∀ i ds, look ρ i ≠ .own ds
abbrev h0 (M : Amb) : Addr → Prop := hdO M fun _ => none
/-- the frame where no name owns a list -/
structure At0 (K : Fg) (M : Amb) (σ : L2.St) (H : Hp) (ρ : Rho) (pv : List V) (pd : List D) : Prop where
  a : AtW K M σ H ρ fun _ => none
  p : DvAll K M.lc (hide (h0 M) H) pv pd
section
variable {K : Fg} {M : Amb} {H H' : Hp} {σ : L2.St} {ρ : Rho} {pv : List V} {pd : List D}
theorem At0.at_ (A : At0 K M σ H ρ pv pd) : At K M σ H ρ pv pd := ⟨_, A.a, A.p⟩
theorem h0_sub {ow : Nat → Option Addr} : Same (hide (hdO M ow) H) (hide (h0 M) H) := hide_same fun b o n e => ⟨fun z => n (by
  rcases z with z | ⟨j, z⟩ | z
  · exact .inl z
  · exact nomatch z
  · exact .inr (.inr z)), e⟩
theorem At.zero (A : At K M σ H ρ pv pd) (no : NoOwn ρ) : At0 K M σ H ρ pv pd := by
  obtain ⟨ow, A, h⟩ := A
  exact ⟨{
    evo := A.evo
    cok := A.cok
    sub := A.sub
    all := A.all
    len := A.len
    val := fun i d h => by
      obtain ⟨v, h1, h2⟩ := A.val i d h
      exact ⟨v, h1, h2.mono h0_sub⟩
    own := fun i ds h => absurd h (no i ds)
    fre := fun i p h => nomatch h
    inj := fun i j p h => nomatch h
    gho := fun p ds h => by
      obtain ⟨h1, _, xs, h3, h4⟩ := A.gho p ds h
      exact ⟨h1, (fun i z => nomatch z), xs, h3, h4.mono h0_sub⟩
    gnd := A.gnd }, h.mono h0_sub⟩
theorem At0.step (A : At0 K M σ H ρ pv pd) (e : Evo M.lc H H') (c : Cok K M.lc M.hc H') : At0 K M σ H' ρ pv pd := ⟨A.a.step e c, A.p.mono (A.a.vis e)⟩
def Amb.base (M : Amb) (H : Hp) : Amb := ⟨M.lc, M.hc, h0 M, H, []⟩
theorem At0.base (A : At0 K M σ H ρ pv pd) (no : NoOwn ρ) : At K (M.base H) σ H ρ pv pd := by
  have s : Same (hide (h0 M) H) (hide (hdO (M.base H) fun _ => none) H) := hide_same fun b o n e => ⟨fun z => (by
    rcases z with z | ⟨j, z⟩ | ⟨es, z⟩
    · exact n z
    · exact nomatch z
    · exact nomatch z), e⟩
  refine ⟨fun _ => none, ?_, A.p.mono s⟩
  exact {
    evo := .refl H
    cok := A.a.cok
    sub := fun b z => .inl (A.a.sub b z)
    all := A.a.hall
    len := A.a.len
    val := fun i d h => by
      obtain ⟨v, h1, h2⟩ := A.a.val i d h
      exact ⟨v, h1, h2.mono s⟩
    own := fun i ds h => absurd h (no i ds)
    fre := fun i p h => nomatch h
    inj := fun i j p h => nomatch h
    gho := fun p ds h => nomatch h
    gnd := .nil }
theorem base_vis {ow : Nat → Option Addr} : Same (hide (hdO (M.base H) ow) H') (hide (h0 M) H') := hide_same fun b o n e => ⟨fun z => n (.inl z), e⟩
theorem snd_evo {t : TE} {w : WE} (h : Snd K t w) (A : At0 K M σ H ρ pv pd) (no : NoOwn ρ) {P : D → Rho → Prop} {Q : VK} (hw : w ρ P)
    (q : ∀ v d H' ρ', Evo M.lc H H' → Cok K M.lc M.hc H' → Dv K M.lc (hide (h0 M) H') v d → P d ρ' → Q v H') : t σ H Q := by
  refine h (M.base H) σ H ρ pv pd P Q (A.base no) hw fun v d H' ρ' A' hP => ?_
  obtain ⟨ow, B, hp⟩ := A'
  cases hp with
  | cons g1 g2 => exact q v d H' ρ' B.evo B.cok (g1.mono base_vis) hP
theorem sndt_evo {t : TT} {w : WT} (h : SndT K t w) (A : At0 K M σ H ρ pv pd) (no : NoOwn ρ) {P : Bool → Rho → Prop} {Q : Bool → Hp → Prop} (hw : w ρ P)
    (q : ∀ b H' ρ', Evo M.lc H H' → Cok K M.lc M.hc H' → P b ρ' → Q b H') : t σ H Q := by
  refine h (M.base H) σ H ρ pv pd P Q (A.base no) hw fun b H' ρ' A' hP => ?_
  obtain ⟨ow, B, hp⟩ := A'
  exact q b H' ρ' B.evo B.cok hP
theorem noOwn_put {ρ : Rho} {i : Nat} (no : NoOwn ρ) : NoOwn (put ρ i .un) := fun j ds z => by
  by_cases c : j = i
  · subst c
    rcases look_put ρ j .un with e | e <;> (rw [e] at z; cases z)
  · rw [look_put_ne _ _ _ _ c] at z
    exact no j ds z
/-- what is not there is not hidden -/
theorem At0.free (A : At0 K M σ H ρ pv pd) {q : Addr} (h : H q = none) : ¬ h0 M q := fun z => A.a.hall q z h
theorem At0.nlc (A : At0 K M σ H ρ pv pd) {q : Addr} (h : H q = none) : M.lc ≠ some q := fun z => by
  obtain ⟨⟨_, _, _, _, _, g, _⟩, _⟩ := A.a.cok q z
  rw [h] at g; cases g
end
/-- the new lists at qs have the items X, as they were at H1 -/
def Inn (K : Fg) (M : Amb) (H1 H' : Hp) (qs : List Addr) (X : List (List D)) : Prop := ∀ (i : Nat) (q : Addr), qs[i]? = some q → H1 q = none ∧ ∃ (ys : List V) (r : List D), H' q = some (.lst ys) ∧ X[i]? = some r ∧ DvAll K M.lc (hide (h0 M) H1) ys r
section
variable {K : Fg} {M : Amb} {H1 H2 H' : Hp} {σ : L2.St} {ρ : Rho} {pv : List V} {pd : List D}
theorem Inn.step {qs : List Addr} {X : List (List D)} (A : At0 K M σ H1 ρ pv pd) (h : Inn K M H1 H2 qs X) (e : Evo M.lc H2 H') : Inn K M H1 H' qs X := fun i q hq => by
  obtain ⟨h1, ys, r, h2, h3, h4⟩ := h i q hq
  exact ⟨h1, ys, r, e q _ (A.nlc h1) h2, h3, h4⟩
/-- all is seen again -/
theorem nest_close {R r : Nat} {Dd : Addr} {qs : List Addr} {X : List (List D)} {σ2 : L2.St} (A : At0 K M σ H1 ρ pv pd) (no : NoOwn ρ) (hR : R < ρ.length) (hRr : R ≠ r) (hl : σ2.length = σ.length) (hσ : ∀ j, j ≠ R → j ≠ r → σ2[j]? = σ[j]?) (hσR : σ2[R]? = some (some (.ref Dd)))
    (e : Evo M.lc H1 H') (c : Cok K M.lc M.hc H') (hD0 : H1 Dd = none) (hD : H' Dd = some (.lst (qs.map V.ref))) (hq : qs.length = X.length) (hI : Inn K M H1 H' qs X) :
    At K M σ2 H' (put (put ρ r .un) R (.val (.list (X.map .list)))) pv pd := by
  have A1 := (A.step e c).at_
  have A2 : At K M (σ.set r (σ2.getD r none)) H' (put ρ r .un) pv pd := A1.unset r (by rw [List.length_set]) fun j hj => by rw [List.getElem?_set_ne (fun z => hj z.symm)]
  have A3 : At K M σ2 H' (put (put ρ r .un) R .un) pv pd := A2.unset R (by rw [List.length_set, hl]) fun j hj => by
    by_cases cj : j = r
    · subst cj
      by_cases d : j < σ.length
      · rw [List.getElem?_set_self d, List.getD_eq_getElem?_getD, List.getElem?_eq_getElem (by omega)]; rfl
      · rw [List.getElem?_eq_none (by omega), List.getElem?_eq_none (by rw [List.length_set]; omega)]
    · rw [List.getElem?_set_ne (fun z => cj z.symm), hσ j hj cj]
  have A4 := A3.zero (noOwn_put (noOwn_put no))
  have seen : ∀ {q : Addr} {o : HO}, H1 q = none → H' q = some o → hide (h0 M) H' q = some o := fun {q o} h1 h2 => hide_some.mpr ⟨A.free h1, h2⟩
  have all : ∀ (qs : List Addr) (X : List (List D)), qs.length = X.length → (∀ (i : Nat) (q : Addr), qs[i]? = some q → H1 q = none ∧ ∃ (ys : List V) (r : List D), H' q = some (.lst ys) ∧ X[i]? = some r ∧ DvAll K M.lc (hide (h0 M) H1) ys r) → DvAll K M.lc (hide (h0 M) H') (qs.map V.ref) (X.map .list) := by
    intro qs
    induction qs with
    | nil =>
      intro X hl _
      cases X with
      | nil => exact .nil
      | cons _ _ => cases hl
    | cons q qs ih =>
      intro X hl h
      cases X with
      | nil => cases hl
      | cons r X =>
        obtain ⟨h1, ys, r', h2, h3, h4⟩ := h 0 q rfl
        cases h3
        exact .cons (.lst (seen h1 h2) (h4.mono (A.a.vis e))) (ih X (by simpa using hl) fun i q' hq' => by
          have := h (i + 1) q' (by simpa using hq')
          simpa using this)
  have dv : Dv K M.lc (hide (h0 M) H') (.ref Dd) (.list (X.map .list)) := .lst (seen hD0 hD) (all qs X hq hI)
  have A5 : At K M σ2 H' (put (put ρ r .un) R .un) (.ref Dd :: pv) (.list (X.map .list) :: pd) := ⟨_, A4.a, .cons dv A4.p⟩
  have A6 := At.put A5 R rfl rfl
  rw [put_put] at A6
  have es : σ2.set R (some (.ref Dd)) = σ2 := by
    obtain ⟨hlt, he⟩ := List.getElem?_eq_some_iff.mp hσR
    rw [← he]; exact List.set_getElem_self hlt
  rw [es] at A6
  exact A6
end
def wNest (R r c xx : Nat) (wa : WE) (wt : WT) (wi : WE) (ws wr : WS) : WS := fun DD ρ => NoOwn ρ ∧ R ≠ r ∧ c ≠ R ∧ c ≠ r ∧ xx ≠ R ∧ xx ≠ r ∧ wa ρ fun d ρ1 => ρ1 = ρ ∧ ∃ X : List (List D), d = .tuple (X.map .tuple) ∧ X.length ≤ 1000 ∧ R < ρ.length ∧ r < ρ.length ∧ look ρ c = .val (.dict []) ∧
  (∃ xd, look ρ xx = .val xd ∧
  wr DD (put (put ρ r .un) R (.val (.list (X.map .list)))) ∧
  (X ≠ [] → wt (put (put ρ r .un) R .un) fun b _ => b = true → ∀ k, k < X.length → wi (put (put ρ r .un) R .un) fun kd _ => ∃ j : Nat, kd = .int j ∧ j < (X.getD k []).length ∧
    ws { DD with nx := fun _ => False } (put (put ρ r .un) R (.val (.list ((X.set k ((X.getD k []).set j xd)).map .list))))))
theorem set_V {α : Type} {l : List α} {i j : Nat} {x : α} : (l.set i x)[j]? = if i = j then (if j < l.length then some x else none) else l[j]? := by
  rw [List.getElem?_set]
  by_cases c : i = j
  · subst c; simp
  · rw [if_neg c, if_neg c]
section
variable {K : Fg} {R r c xx : Nat} {ta : TE} {wa : WE} {tt : TT} {wt : WT} {ti : TE} {wi : WE} {ts tr : TS} {ws wr : WS} {pre : List D → Prop} {post : List D → D → Prop} {E : XK}
theorem snds_nest (ha : Snd K ta wa) (ht : SndT K tt wt) (hi : Snd K ti wi) (hs : SndS K ts ws) (hr : SndS K tr wr)
    (hpre : ∀ n : Nat, 0 < n → n ≤ 1000 → pre [.dict [], .int n]) (hpost : ∀ (n : Nat) (d : D), post [.dict [], .int n] d → ∃ k : Nat, d = .int k ∧ k < n) :
    SndS K (tSeq (tAsg (tLc (iTup K ta) (gName r) tYes (tCB (rListV K) (tCons (tVar r) tNil)) [r]) (gName R))
      (tSeq (tIfS (tAnd (fun σ H Q => tVar R σ H fun x H' => ∃ k, TruV K x H' k ∧ Q k H') tt)
        (tSeq (tAsg (tOp (rIxD K) (tVar R) (tCall (SpD K pre post) [] E (tCons (tVar c) (tCons (tCB (rLenV K) (tCons (tVar R) tNil)) tNil)))) (gName r))
          (tSeq (tAsg (tVar xx) (gSub (tVar r) ti rSetL)) ts)) tNext) tr)) (wNest R r c xx wa wt wi ws wr) := fun M σ H ρ pv pd DD HD A hw F => by
  obtain ⟨no, hRr, hcR, hcr, hxR, hxr, hw⟩ := hw
  have A := A.zero no
  refine snd_evo ha A no hw fun v d H1 ρ1 e1 c1 gv h1 => ?_
  obtain ⟨rfl, X, rfl, lX, hR, hr', hc, xd, hx, hwr, hwt⟩ := h1
  have A1 : At0 K M σ H1 ρ1 pv pd := A.step e1 c1
  have hlen := A1.a.len
  cases gv with
  | @tup l us _ g1 g2 =>
    have lu := g2.length
    rw [List.length_map] at lu
    have SqAt : ∀ {H' : Hp}, Evo M.lc H1 H' → SqT K H' l us := fun e => same_t hide_le (same_t (A1.a.vis e) g1)
    refine ⟨l, rfl, ⟨us, SqAt (.refl H1)⟩, fun Dd hD => ?_⟩
    have nD := A1.nlc hD
    let W : Nat → Nat → Hp → Prop := fun j m H' => Evo M.lc H1 H' ∧ Cok K M.lc M.hc H' ∧ ∃ qs : List Addr, H' Dd = some (.lst (qs.map V.ref)) ∧ qs.length = j ∧ (Dd :: qs).Nodup ∧ Inn K M H1 H' qs X ∧ j + m = X.length
    refine ⟨W, ⟨X.length, Evo.of (same_new hD), A1.a.cok.mono (same_new hD), [], upd_same, rfl, by simp, (fun i q hq => by simp at hq), by omega⟩, ?_⟩
    rintro j m H2 ⟨e2, c2, qs, hq, lq, nq, iq, em⟩
    by_cases hj : j < X.length
    · -- one more list
      have hju : j < us.length := by omega
      obtain ⟨vj, hvj, gvj⟩ := g2.get (i := j) (d := .tuple X[j]) (by rw [List.getElem?_map, List.getElem?_eq_getElem hj]; rfl)
      refine .inr ⟨⟨us, vj, SqAt e2, hvj⟩, fun H' => ∃ m', m' < m ∧ W (j + 1) m' H', fun H' h => h, fun y H' hy => ?_⟩
      obtain ⟨rfl, fv⟩ := hy
      have ey : y = vj := Option.some.inj ((fv _ (SqAt e2)).symm.trans hvj)
      subst ey
      show wipe ((wipe σ [r]).set r (some y)) [r] = wipe σ [r] ∧ _
      have w0 : ∀ σ' : L2.St, wipe σ' [r] = σ'.set r none := fun σ' => rfl
      refine ⟨by rw [w0, w0, List.set_set, List.set_set], ?_⟩
      show tCB (rListV K) (tCons (tVar r) tNil) _ _ _
      refine ⟨y, by rw [List.getElem?_set_self (by rw [w0, List.length_set]; omega)], ?_⟩
      cases gvj with
      | @tup a ys _ k1 k2 =>
        refine ⟨a, ys, rfl, .inr (same_t hide_le (same_t (A1.a.vis e2) k1)), fun q hq0 => ?_⟩
        have h1q : H1 q = none := by
          cases z : H1 q with
          | none => rfl
          | some o =>
            by_cases hl : M.lc = some q
            · obtain ⟨⟨_, _, _, _, _, g, _⟩, _⟩ := c2 q hl
              rw [hq0] at g; cases g
            · rw [e2 q o hl z] at hq0; cases hq0
        have qD : q ≠ Dd := fun z => by subst z; rw [hq0] at hq; cases hq
        have qq : q ∉ qs := fun z => by
          obtain ⟨i, hi⟩ := List.mem_iff_getElem?.mp z
          obtain ⟨_, _, _, h2, _⟩ := iq i q hi
          rw [hq0] at h2; cases h2
        refine ⟨qs.map V.ref, by rw [upd_ne qD.symm]; exact hq, size_lt (by rw [List.length_map]; omega), m - 1, by omega, ?_, ?_, qs ++ [q], by rw [List.map_append]; exact upd_same, by simp; omega, ?_, ?_, by omega⟩
        · intro b o hb ho
          have hbD : b ≠ Dd := fun z => by subst z; rw [hD] at ho; cases ho
          have hbq : b ≠ q := fun z => by subst z; rw [h1q] at ho; cases ho
          rw [upd_ne hbD, upd_ne hbq]
          exact e2 b o hb ho
        · intro b hb
          have hbD : b ≠ Dd := fun z => nD (by rw [← z]; exact hb)
          have hbq : b ≠ q := fun z => A1.nlc h1q (by rw [← z]; exact hb)
          obtain ⟨⟨p, ns, pos, dig, cnt, z1, z2, z3, z4, z5, z6⟩, z7⟩ := c2 b hb
          have hp : M.hd p := A1.a.sub p z6
          have hp1 : H1 p ≠ none := A1.a.hall p (.inl hp)
          have hpD : p ≠ Dd := fun z => by subst z; exact hp1 hD
          have hpq : p ≠ q := fun z => by subst z; exact hp1 h1q
          refine ⟨⟨p, ns, pos, dig, cnt, by rw [upd_ne hbD, upd_ne hbq]; exact z1, ?_, z3, z4, z5, z6⟩, z7⟩
          rcases z2 with (h | ⟨u, h⟩) | h
          · exact .inl (.inl (by rw [upd_ne hpD, upd_ne hpq]; exact h))
          · exact .inl (.inr ⟨u, by rw [upd_ne hpD, upd_ne hpq]; exact h⟩)
          · exact .inr h
        · rw [List.nodup_cons] at nq ⊢
          refine ⟨fun z => ?_, ?_⟩
          · rcases List.mem_append.mp z with z | z
            · exact nq.1 z
            · exact qD (List.mem_singleton.mp z).symm
          · rw [List.nodup_append]
            refine ⟨nq.2, by simp, fun a ha b hb => ?_⟩
            rw [List.mem_singleton.mp hb]
            exact fun z => qq (by rw [← z]; exact ha)
        · intro i q' hq'
          rw [List.getElem?_append] at hq'
          split at hq'
          · next hlt =>
            obtain ⟨n1, zs, rr, n2, n3, n4⟩ := iq i q' hq'
            have hq'D : q' ≠ Dd := fun z => by subst z; rw [hD] at n1; exact (List.nodup_cons.mp nq).1 (List.mem_of_getElem? hq')
            have hq'q : q' ≠ q := fun z => by subst z; rw [hq0] at n2; cases n2
            exact ⟨n1, zs, rr, by rw [upd_ne hq'D, upd_ne hq'q]; exact n2, n3, n4⟩
          · next hge =>
            have ei : i = qs.length := by
              have := (List.getElem?_eq_some_iff.mp hq').1
              simp at this; omega
            subst ei
            rw [Nat.sub_self] at hq'
            cases hq'
            exact ⟨h1q, ys, X[j], by rw [upd_ne qD]; exact upd_same, by rw [lq]; exact List.getElem?_eq_getElem hj, k2⟩
    · -- all lists are there
      have ej : j = X.length := by omega
      subst ej
      refine .inl ⟨⟨us, SqAt e2, by omega⟩, ?_⟩
      have hσR : (σ.set R (some (.ref Dd)))[R]? = some (some (.ref Dd)) := List.getElem?_set_self (by omega)
      have hσn : ∀ j, j ≠ R → (σ.set R (some (.ref Dd)))[j]? = σ[j]? := fun j hj => List.getElem?_set_ne (fun z => hj z.symm)
      have rest : ∀ H', Evo M.lc H2 H' → Cok K M.lc M.hc H' → tr HD (σ.set R (some (.ref Dd))) H' := fun H' e3 c3 =>
        hr M _ H' _ pv pd DD HD (nest_close A1 no hR hRr (by simp) (fun j h1 _ => hσn j h1) hσR (e2.trans e3) c3 hD (e3 Dd _ nD hq) lq (iq.step A1 e3)) hwr F
      have un2 : ∀ {σ' : L2.St} {H' : Hp}, Evo M.lc H1 H' → Cok K M.lc M.hc H' → σ'.length = σ.length → (∀ j, j ≠ R → j ≠ r → σ'[j]? = σ[j]?) → At0 K M σ' H' (put (put ρ1 r .un) R .un) pv pd := fun {σ' H'} e c hl hn => by
        have B1 := (A1.step e c).at_
        have B2 : At K M (σ.set r (σ'.getD r none)) H' (put ρ1 r .un) pv pd := B1.unset r (by rw [List.length_set]) fun j hj => by rw [List.getElem?_set_ne (fun z => hj z.symm)]
        have B3 : At K M σ' H' (put (put ρ1 r .un) R .un) pv pd := B2.unset R (by rw [List.length_set, hl]) fun j hj => by
          by_cases cj : j = r
          · subst cj
            rw [List.getElem?_set_self (by omega), List.getD_eq_getElem?_getD, List.getElem?_eq_getElem (by omega)]; rfl
          · rw [List.getElem?_set_ne (fun z => cj z.symm), hn j hj cj]
        exact B3.zero (noOwn_put (noOwn_put no))
      refine ⟨.ref Dd, hσR, !(qs.map V.ref).isEmpty, .inl ⟨qs.map V.ref, .of hq, rfl⟩, ?_⟩
      by_cases hX : X = []
      · have q0 : qs = [] := List.eq_nil_of_length_eq_zero (by rw [lq, hX]; rfl)
        subst q0
        exact rest H2 (.refl H2) c2
      · have qn : (qs.map V.ref).isEmpty = false := by
          cases qs with
          | nil => exact absurd (List.eq_nil_of_length_eq_zero lq.symm) hX
          | cons _ _ => rfl
        rw [qn]
        show tt _ H2 _
        refine sndt_evo ht (un2 e2 c2 (by simp) fun j h1 _ => hσn j h1) (noOwn_put (noOwn_put no)) (hwt hX) fun b H3 ρ3 e3 c3 hb => ?_
        cases b with
        | false => exact rest H3 e3 c3
        | true =>
          have hb := hb rfl
          have hXp : 0 < X.length := List.length_pos_iff.mpr hX
          obtain ⟨vc, hvc, gvc⟩ := A1.a.val c _ hc
          refine ⟨.ref Dd, hσR, vc, by rw [hσn c hcR]; exact hvc, .ref Dd, hσR, Dd, qs.map V.ref, rfl, .inl (.of (e3 Dd _ nD hq)), ?_⟩
          show SpD K pre post [vc, .int ((qs.map V.ref).length : Nat)] H3 _ E
          rw [List.length_map, lq]
          refine ⟨M.lc, M.hc, h0 M, [.dict [], .int X.length], .cons (gvc.mono (A1.a.vis (e2.trans e3))) (.cons (.int _) .nil), c3, fun b z => .inl (A1.a.sub b z), (A1.step (e2.trans e3) c3).a.hall, hpre X.length hXp lX, fun v d H4 e4 c4 g4 p4 => ?_⟩
          obtain ⟨k, rfl, hk⟩ := hpost _ _ p4
          cases g4
          have D4 : H4 Dd = some (.lst (qs.map V.ref)) := e4 Dd _ nD (e3 Dd _ nD hq)
          obtain ⟨q, hqk⟩ : ∃ q, qs[k]? = some q := ⟨qs[k]'(by omega), List.getElem?_eq_getElem (by omega)⟩
          have at1 : atI (qs.map V.ref) (k : Int) = some (.ref q) := by
            unfold atI
            rw [ixN_nat (by omega) (by rw [Int.toNat_natCast, List.length_map]; omega)]
            show (qs.map V.ref)[((k : Nat) : Int).toNat]? = _
            rw [Int.toNat_natCast, List.getElem?_map, hqk]; rfl
          refine .inl ⟨Dd, qs.map V.ref, k, .ref q, rfl, rfl, .of D4, at1, ?_⟩
          obtain ⟨vx, hvx, gvx⟩ := A1.a.val xx xd hx
          have hσ2 : ∀ j, j ≠ R → j ≠ r → ((σ.set R (some (.ref Dd))).set r (some (.ref q)))[j]? = σ[j]? := fun j h1 h2 => by rw [List.getElem?_set_ne (fun z => h2 z.symm), hσn j h1]
          refine ⟨vx, by rw [hσ2 xx hxR hxr]; exact hvx, .ref q, List.getElem?_set_self (by rw [List.length_set]; omega), ?_⟩
          have e14 : Evo M.lc H1 H4 := e2.trans (e3.trans e4)
          refine snd_evo hi (un2 e14 c4 (by simp) hσ2) (noOwn_put (noOwn_put no)) (hb k hk) fun kk dk H5 ρ5 e5 c5 g5 p5 => ?_
          obtain ⟨j, rfl, hj, hws⟩ := p5
          cases g5
          obtain ⟨q1, ys, rr, q2, q3, q4⟩ := (iq.step A1 (e3.trans (e4.trans e5))) k q hqk
          have er : X.getD k [] = rr := by rw [List.getD_eq_getElem?_getD, q3]; rfl
          have lys := q4.length
          rw [er] at hj hws
          refine ⟨q, ys, j, j, rfl, rfl, q2, by rw [ixN_nat (by omega) (by rw [Int.toNat_natCast]; omega), Int.toNat_natCast], ?_⟩
          have e15 : Evo M.lc H1 H5 := e14.trans e5
          have qD : q ≠ Dd := fun z => by subst z; exact (List.nodup_cons.mp nq).1 (List.mem_of_getElem? hqk)
          have e16 : Evo M.lc H1 (upd H5 q (.lst (ys.set j vx))) := fun b o hb ho => by
            rw [upd_ne (fun z => by subst z; rw [q1] at ho; cases ho)]
            exact e15 b o hb ho
          have c6 : Cok K M.lc M.hc (upd H5 q (.lst (ys.set j vx))) := fun b hb => by
            have hbq : b ≠ q := fun z => A1.nlc q1 (by rw [← z]; exact hb)
            obtain ⟨⟨p, ns, pos, dig, cnt, z1, z2, z3, z4, z5, z6⟩, z7⟩ := c5 b hb
            have hp : M.hd p := A1.a.sub p z6
            have hpq : p ≠ q := fun z => by subst z; exact A1.a.hall p (.inl hp) q1
            refine ⟨⟨p, ns, pos, dig, cnt, by rw [upd_ne hbq]; exact z1, ?_, z3, z4, z5, z6⟩, z7⟩
            rcases z2 with (h | ⟨u, h⟩) | h
            · exact .inl (.inl (by rw [upd_ne hpq]; exact h))
            · exact .inl (.inr ⟨u, by rw [upd_ne hpq]; exact h⟩)
            · exact .inr h
          have I6 : Inn K M H1 (upd H5 q (.lst (ys.set j vx))) qs (X.set k (rr.set j xd)) := fun i q' hq' => by
            obtain ⟨n1, zs, r2, n2, n3, n4⟩ := (iq.step A1 (e3.trans (e4.trans e5))) i q' hq'
            by_cases hik : i = k
            · subst hik
              have : q' = q := Option.some.inj (hq'.symm.trans hqk)
              subst this
              refine ⟨n1, ys.set j vx, rr.set j xd, upd_same, by rw [List.getElem?_set_self hk], q4.set gvx j⟩
            · have hne : q' ≠ q := fun z => by
                subst z
                have nd := (List.nodup_cons.mp nq).2
                obtain ⟨l1, h1⟩ := List.getElem?_eq_some_iff.mp hq'
                obtain ⟨l2, h2⟩ := List.getElem?_eq_some_iff.mp hqk
                have pw := List.pairwise_iff_getElem.mp nd
                rcases Nat.lt_or_gt_of_ne hik with lt | gt
                · exact pw i k l1 l2 lt (h1.trans h2.symm)
                · exact pw k i l2 l1 gt (h2.trans h1.symm)
              exact ⟨n1, zs, r2, by rw [upd_ne hne]; exact n2, by rw [List.getElem?_set_ne (fun z => hik z.symm)]; exact n3, n4⟩
          refine hs M _ _ _ pv pd _ { HD with nx := tr HD } (nest_close A1 no hR hRr (by simp) hσ2 (by rw [List.getElem?_set_ne (fun z => hRr z.symm)]; exact hσR) e16 c6 hD (by rw [upd_ne qD.symm]; exact e5 Dd _ nD D4) (by rw [List.length_set]; exact lq) I6) hws ⟨fun _ _ _ _ h => h.elim, F.rt, F.bk, F.ct⟩
end
theorem dss_nest {X : Cx} {R r c xx : Nat} {ta : TE} {wa : WE} {tt2 tt3 : TT} {wt1 wt2 wt3 : WT} {ti : TE} {wi : WE} {ts tr : TS} {w2 w4 ws wr : WS} {pre : List D → Prop} {post : List D → D → Prop} {E : XK} {y : Str} {py pos2 spos p3 p5 p6 : Pos} {elt tg iter v1 v2 v3 o ix ex : Expr} {ifs : List Expr} {scope : Scope} {st4 : Stmt} {sts6 rest : List Stmt} {pos : Pos}
    (h2 : DS X (.Assign [.Name y py] (.ListComp elt [⟨tg, iter, ifs, 0⟩] scope pos2) spos) (tAsg (tLc (iTup X.K ta) (gName r) tYes (tCB (rListV X.K) (tCons (tVar r) tNil)) [r]) (gName R)) w2) (ha : DE X iter ta wa)
    (h31 : DT X v1 (fun σ H Q => tVar R σ H fun x H' => ∃ k, TruV X.K x H' k ∧ Q k H') wt1) (h32 : DT X v2 tt2 wt2) (h33 : DT X v3 tt3 wt3)
    (h4 : DS X st4 (tAsg (tOp (rIxD X.K) (tVar R) (tCall (SpD X.K pre post) [] E (tCons (tVar c) (tCons (tCB (rLenV X.K) (tCons (tVar R) tNil)) tNil)))) (gName r)) w4)
    (h5 : PS X (.Assign [.Subscript o ix p5] ex p6) (tAsg (tVar xx) (gSub (tVar r) ti rSetL))) (hi : DE X ix ti wi) (h6 : DSs X sts6 ts ws) (hr : DSs X rest tr wr)
    (hpre : ∀ n : Nat, 0 < n → n ≤ 1000 → pre [.dict [], .int n]) (hpost : ∀ (n : Nat) (d : D), post [.dict [], .int n] d → ∃ k : Nat, d = .int k ∧ k < n) :
    DSs X (.Assign [.Name y py] (.ListComp elt [⟨tg, iter, ifs, 0⟩] scope pos2) spos :: .If (.BoolOp .And [v1, v2, v3] p3) (st4 :: .Assign [.Subscript o ix p5] ex p6 :: sts6) [] pos :: rest) (tSeq (tAsg (tLc (iTup X.K ta) (gName r) tYes (tCB (rListV X.K) (tCons (tVar r) tNil)) [r]) (gName R))
      (tSeq (tIfS (tAnd (fun σ H Q => tVar R σ H fun x H' => ∃ k, TruV X.K x H' k ∧ Q k H') (tAnd tt2 tt3))
        (tSeq (tAsg (tOp (rIxD X.K) (tVar R) (tCall (SpD X.K pre post) [] E (tCons (tVar c) (tCons (tCB (rLenV X.K) (tCons (tVar R) tNil)) tNil)))) (gName r))
          (tSeq (tAsg (tVar xx) (gSub (tVar r) ti rSetL)) ts)) tNext) tr)) (wNest R r c xx wa (wAnd wt2 wt3) wi ws wr) :=
  ⟨pss_cons h2.ps (pss_cons (ps_if (DW.dt (dw_and h31 (dw_and h32 (dw_and1 h33)))).pt (pss_cons h4.ps (pss_cons h5 h6.ps)) pss_nil) hr.ps), snds_nest ha.sd (snd_and h32.sd h33.sd) hi.sd h6.sd hr.sd hpre hpost⟩
/-! ## an owned list beside another value in a comparison -/
def wCmpO (w2 : D → D → (D → Prop) → Prop) (i : Nat) (wb : WE) : WE := fun ρ P => match look ρ i with
  | .own _ => wb ρ fun y ρ1 => match look ρ1 i with
    | .own ds1 => w2 (.list ds1) y fun z => noList z = true ∧ P z ρ1
    | _ => False
  | _ => False
theorem snd_cmpO {K : Fg} {r : R2} {w2 : D → D → (D → Prop) → Prop} {i : Nat} {tb : TE} {wb : WE} (h2 : Sn2 K r w2) (hb : Snd K tb wb) : Snd K (tOp r (tVar i) tb) (wCmpO w2 i wb) := fun M σ H ρ pv pd P Q A h q => by
  unfold wCmpO at h
  split at h
  · next ds e =>
    have A' := A
    obtain ⟨ow, B, hp⟩ := A
    obtain ⟨p, xs, k1, k2, k3, k4⟩ := B.own i ds e
    refine ⟨.ref p, k2, ?_⟩
    refine hb M σ H ρ pv pd _ _ A' h fun y dy H1 ρ1 A1 h1 => ?_
    split at h1
    · next ds1 e1 =>
      obtain ⟨ow1, B1, hp1⟩ := A1
      obtain ⟨p1, xs1, l1, l2, l3, l4⟩ := B1.own i ds1 e1
      have : p1 = p := by
        rw [k2] at l2
        cases l2; rfl
      subst this
      have np : ¬ hdO M noOw p1 := fun z => by
        rcases z with z | ⟨j, z⟩ | ⟨es, z⟩
        · exact B1.ne (B1.fre i p1 l1).1 z
        · exact nomatch z
        · exact (B1.gho p1 es z).2.1 i l1
      have vn : Same (hide (hdO M ow1) H1) (hide (hdO M noOw) H1) := hide_same fun b o n e => ⟨fun z => n (by
        rcases z with z | ⟨j, z⟩ | z
        · exact .inl z
        · exact nomatch z
        · exact .inr (.inr z)), e⟩
      have dv : Dv K M.lc (hide (hdO M noOw) H1) (.ref p1) (.list ds1) := .lst (hide_some.mpr ⟨np, l3⟩) (l4.mono vn)
      cases hp1 with
      | cons gy hp1 =>
        refine h2 M.lc (hdO M noOw) H1 (.ref p1) y (.list ds1) dy _ _ B1.hallN dv (gy.mono vn) h1 fun v d H' es g pp => ?_
        have B' := B1.step (.of es) (B1.cok.mono es)
        exact q v d H' ρ1 ⟨ow1, B', .cons (B'.strict pp.1 g) (hp1.mono (B1.vis (.of es)))⟩ pp.2
    · exact h1.elim
  · exact h.elim
theorem dt_cmpO {X : Cx} {a b : Expr} {pos : Pos} {op : CmpOp} {r : R2} {w2 : D → D → (D → Prop) → Prop} {i : Nat} {tb : TE} {wb : WE} (ho : OpR X (compareOp op) r) (h2 : Sn2 X.K r w2) (ha : PE X a (tVar i)) (hb : DE X b tb wb) (hm : behindInMarks op b = false := by first | exact nomark _ | rfl) :
    DT X (.Compare a [op] [b] pos) (tTest (tOp r (tVar i) tb)) (wTest (wCmpO w2 i wb)) := ⟨pt_cmpR ho ha hb.pe hm, snd_test (snd_cmpO h2 hb.sd)⟩
/-! ## an item of an owned list -/
def wIxO (i : Nat) (wb : WP) : WE := fun ρ P => match look ρ i, wb ρ with
  | .own ds, some (.int k) => ∃ d, atI ds k = some d ∧ P d ρ
  | _, _ => False
theorem snd_ixO {K : Fg} {i : Nat} {tb : TE} {wb : WP} (hb : SndP K tb wb) : Snd K (tOp (rIxD K) (tVar i) tb) (wIxO i wb) := fun M σ H ρ pv pd P Q A h q => by
  unfold wIxO at h
  split at h
  · next ds k e1 e2 =>
    obtain ⟨d, e, hp0⟩ := h
    obtain ⟨ow, B, hp⟩ := A
    obtain ⟨p, xs, k1, k2, k3, k4⟩ := B.own i ds e1
    obtain ⟨v, g, kq⟩ := hb M σ H ρ ow _ B e2
    cases g
    obtain ⟨u, e', gu⟩ := atI_dv k4 e
    refine ⟨.ref p, k2, kq _ (.inl ⟨p, xs, k, u, rfl, rfl, .of k3, e', ?_⟩)⟩
    exact q u d H ρ ⟨ow, B, .cons gu hp⟩ hp0
  · exact h.elim
theorem de_ixO {X : Cx} {a b : Expr} {pos : Pos} {i : Nat} {tb : TE} {wb : WP} (ha : PE X a (tVar i)) (hb : DP X b tb wb) (hs : PlainIx b := by exact fun _ _ => rfl) : DE X (.Subscript a b pos) (tOp (rIxD X.K) (tVar i) tb) (wIxO i wb) := ⟨pe_ix ix_D ha hb.pe hs, snd_ixO hb.sd⟩
/-! ## a copy of an owned list -/
def wFListO (i : Nat) : WF := fun ρ P => match look ρ i with
  | .own ds => P ds ρ
  | _ => False
theorem df_listO {X : Cx} {e : Expr} {pos p : Pos} {i : Nat} (hg : Gl X "list") (hm : X.mg "list" = none) (ha : PE X e (tVar i)) (he : starEach [e] X.env = (false, eval e X.env) :: starEach [] X.env := by rfl) (hpl : (backTo pos (starEach [] X.env)).any (·.1) = false := by rfl) :
    DF X (.Call (.Name "list" p) [e] [] pos) (tCB (rListV X.K) (tCons (tVar i) tNil)) (wFListO i) := ⟨pe_callTy call_list_of hg hm (by decide +kernel) (pa_cons ha pa_nil he) (by decide) (by decide) he hpl, fun M σ H ρ pv pd P Q A hw q => by
  unfold wFListO at hw
  split at hw
  · next ds e1 =>
    have A' := A
    obtain ⟨ow, B, hp⟩ := A
    obtain ⟨a, xs, k1, k2, k3, k4⟩ := B.own i ds e1
    refine ⟨.ref a, k2, a, xs, rfl, .inl (.of k3), fun l hl => ?_⟩
    exact q l ds _ ρ (At.plus (vs := xs) (ds := ds) ⟨ow, B, k4.app hp⟩ k4.length hl) hw
  · exact hw.elim⟩
/-! ## an item of an owned list, the place by any expression -/
def wIxE (i : Nat) (wb : WE) : WE := fun ρ P => match look ρ i with
  | .own _ => wb ρ fun y ρ1 => match y, look ρ1 i with
    | .int k, .own ds => ∃ d, atI ds k = some d ∧ P d ρ1
    | _, _ => False
  | _ => False
theorem snd_ixE {K : Fg} {i : Nat} {tb : TE} {wb : WE} (hb : Snd K tb wb) : Snd K (tOp (rIxD K) (tVar i) tb) (wIxE i wb) := fun M σ H ρ pv pd P Q A h q => by
  unfold wIxE at h
  split at h
  · next ds e =>
    have A' := A
    obtain ⟨ow, B, hp⟩ := A
    obtain ⟨p, xs, k1, k2, k3, k4⟩ := B.own i ds e
    refine ⟨.ref p, k2, ?_⟩
    refine hb M σ H ρ pv pd _ _ A' h fun y dy H1 ρ1 A1 h1 => ?_
    split at h1
    · next k ds1 e1 =>
      obtain ⟨d, ed, hP⟩ := h1
      obtain ⟨ow1, B1, hp1⟩ := A1
      obtain ⟨p1, xs1, l1, l2, l3, l4⟩ := B1.own i ds1 e1
      have : p1 = p := by
        rw [k2] at l2
        cases l2; rfl
      subst this
      cases hp1 with
      | cons gy hp1 =>
        cases gy
        obtain ⟨u, e', gu⟩ := atI_dv l4 ed
        exact .inl ⟨p1, xs1, k, u, rfl, rfl, .of l3, e', q u d H1 ρ1 ⟨ow1, B1, .cons gu hp1⟩ hP⟩
    · exact h1.elim
  · exact h.elim
theorem de_ixE {X : Cx} {a b : Expr} {pos : Pos} {i : Nat} {tb : TE} {wb : WE} (ha : PE X a (tVar i)) (hb : DE X b tb wb) (hs : PlainIx b := by exact fun _ _ => rfl) : DE X (.Subscript a b pos) (tOp (rIxD X.K) (tVar i) tb) (wIxE i wb) := ⟨pe_ix ix_D ha hb.pe hs, snd_ixE hb.sd⟩
end DL

namespace DL
open PySem PySem.Spec PyProof.Rows L2
/-! ## a def that exchanges two items of the list that it is given -/
def SpSwap (K : Fg) : Sp := fun vs H Q _ => ∃ (p : Addr) (xs : List V) (i k : Nat) (x y : V), vs = [.ref p, .int i, .int k] ∧ H p = some (.lst xs) ∧ xs[i]? = some x ∧ xs[k]? = some y ∧ ∀ H1, Same H H1 → Q .non (upd H1 p (.lst ((xs.set i y).set k x)))
abbrev tExch (K : Fg) : TS := tAsg (tTup (tCons (tOp (rIxD K) (tVar 0) (tVar 2)) (tCons (tOp (rIxD K) (tVar 0) (tVar 1)) tNil))) (gTup K 2 (gCons (gSub (tVar 0) (tVar 1) rSetL) (gCons (gSub (tVar 0) (tVar 2) rSetL) gNil)))
section
variable {P : Program} {w : World} {K : Fg} {mg : Str → Option Value} {base : Heap}
theorem atI_nat {xs : List V} {i : Nat} {x : V} (h : xs[i]? = some x) : atI xs (i : Int) = some x := by
  have hi := (List.getElem?_eq_some_iff.mp h).1
  unfold atI
  rw [ixN_nat (by omega) (by simpa using hi)]
  exact h
theorem fnx_exch {x qual : Str} {st : Stmt} {f : Addr} {fd : FuncData} {a b c : Str} {k : Nat} (F : Fun K x qual st f fd) (S : FnScope [a, b, c] [a, b, c] (defScope st))
    (body : ∀ (cdv : Value) (A : Around) (outer : List PySem.Env) (s : Shared) (H : Hp) (E : XK), Room k (A.deeper (envOfC qual (defScope st) s.heap.objs.size f cdv)) →
      PSs (cxOf CX0 P w K mg base [a, b, c] qual (defScope st) f cdv A outer s H E).nox (defBody st) (tExch K)) :
    FnOk P w K mg base CX0 (k + 1) f fd [a, b, c] (SpSwap K) := by
  refine F.ok S (fun vs H Q E h => ?_) (fun cdv A outer s H vs Q E hr h => ?_)
  · obtain ⟨p, xs, i, k, x, y, rfl, _⟩ := h
    rfl
  · obtain ⟨p, xs, i, k, x, y, rfl, hp, hx, hy, q⟩ := h
    refine ⟨_, body cdv A outer s H E hr, ?_⟩
    have li := (List.getElem?_eq_some_iff.mp hx).1
    have lk := (List.getElem?_eq_some_iff.mp hy).1
    refine ⟨.ref p, rfl, .int k, rfl, .inl ⟨p, xs, k, y, rfl, rfl, .of hp, atI_nat hy, ?_⟩⟩
    refine ⟨.ref p, rfl, .int i, rfl, .inl ⟨p, xs, i, x, rfl, rfl, .of hp, atI_nat hx, ?_⟩⟩
    refine ⟨size_ok (n := 2) (by decide), fun t ht => ?_⟩
    have hne : p ≠ t := fun z => by rw [z, ht] at hp; cases hp
    have hp1 : upd H t (.tup [y, x]) p = some (.lst xs) := by rw [upd_ne hne]; exact hp
    refine ⟨t, [y, x], rfl, .inl (.inl upd_same), rfl, y, [x], rfl, ?_⟩
    refine ⟨.ref p, rfl, .int i, rfl, p, xs, i, i, rfl, rfl, hp1, ixN_nat (by omega) (by simpa using li), ?_⟩
    refine ⟨x, [], rfl, ?_⟩
    refine ⟨.ref p, rfl, .int k, rfl, p, xs.set i y, k, k, rfl, rfl, upd_same, ixN_nat (by omega) (by rw [List.length_set]; simpa using lk), ?_⟩
    refine ⟨rfl, ?_⟩
    rw [upd_upd]
    exact q _ (same_new ht)
end
def wExch (i : Nat) (wa wb : WE) : WS := fun DD ρ => match look ρ i with
  | .own _ => wa ρ fun d1 ρ1 => wb ρ1 fun d2 ρ2 => match look ρ2 i with
    | .own ds => ∃ (a b : Nat) (x y : D), d1 = .int a ∧ d2 = .int b ∧ ds[a]? = some x ∧ ds[b]? = some y ∧ DD.nx (put ρ2 i (.own ((ds.set a y).set b x)))
    | _ => False
  | _ => False
section
variable {X : Cx} {e a b : Expr} {ta tb : TE} {wa wb : WE} {pos p p2 : Pos}
theorem ds_exch {CX : CXT} {k : Nat} {f : Addr} {fd : FuncData} {ps : List Str} {E : XK} {x : Str} {K' : Fg} {i : Nat} (F : FnOk X.prog X.w X.K X.mg X.base CX k f fd ps (SpSwap K')) (hr : Room k X.A) (hg : Gl X x) (hm : X.mg x = some (.ref f))
    (hk : PySem.W.keepIn X.K (.ref f) = true) (hb : Binds X.K fd ps []) (hx : Passes CX X E) (hv : PE X e (tVar i)) (ha : DE X a ta wa) (hb2 : DE X b tb wb) (hK : X.K = K' := by rfl) (hdb : (x == ("__debug__" : Str)) = false := by decide)
    (h1 : starEach [e, a, b] X.env = (false, eval e X.env) :: starEach [a, b] X.env := by rfl) (h2 : starEach [a, b] X.env = (false, eval a X.env) :: starEach [b] X.env := by rfl) (h3 : starEach [b] X.env = (false, eval b X.env) :: starEach [] X.env := by rfl)
    (hpl : (backTo p2 (starEach [a, b] X.env)).any (·.1) = false := by rfl) (hs : swapsWith (.Call (.Name x p) [e, a, b] [] p2) none pos.line X.env = pure false := by rfl) :
    DS X (.Expr (.Call (.Name x p) [e, a, b] [] p2) pos) (tDrop (tCall (SpSwap K') [] E (tCons (tVar i) (tCons ta (tCons tb tNil))))) (wExch i wa wb) :=
  ⟨ps_expr (pe_call F hr hg hm hk hb .nil hx (pa_cons hv (pa_cons ha.pe (pa_cons hb2.pe pa_nil h3) h2) h1) hdb h1 hpl) hs, by
  subst hK
  intro M σ H ρ pv pd DD HD A h F
  unfold wExch at h
  split at h
  · next ds0 e0 =>
    have A' := A
    obtain ⟨ow, B, hp⟩ := A
    obtain ⟨q, xs, k1, k2, k3, k4⟩ := B.own i ds0 e0
    refine ⟨.ref q, k2, ?_⟩
    refine ha.sd M σ H ρ pv pd _ _ A' h fun v1 d1 H1 ρ1 A1 h1 => ?_
    refine hb2.sd M σ H1 ρ1 _ _ _ _ A1 h1 fun v2 d2 H2 ρ2 A2 h2 => ?_
    obtain ⟨ow2, B2, hp2⟩ := A2
    split at h2
    · next ds e2 =>
      obtain ⟨i1, i2, x, y, rfl, rfl, hx1, hy1, hn⟩ := h2
      obtain ⟨q2, xs2, l1, l2, l3, l4⟩ := B2.own i ds e2
      have : q2 = q := by
        rw [k2] at l2
        cases l2; rfl
      subst this
      obtain ⟨vx, gx1, gx2⟩ := l4.get hx1
      obtain ⟨vy, gy1, gy2⟩ := l4.get hy1
      cases hp2 with
      | cons g2 hp2 =>
        cases g2
        cases hp2 with
        | cons g1 hp2 =>
          cases g1
          refine ⟨q2, xs2, i1, i2, vx, vy, rfl, l3, gx1, gy1, fun H3 e3 => ?_⟩
          have B3 := B2.step (.of e3) (B2.cok.mono e3)
          have v3 := B2.vis (.of e3)
          obtain ⟨C, vis⟩ := B3.owset e2 l1 (((l4.mono v3).set (gy2.mono v3) i1).set (gx2.mono v3) i2)
          exact F.nx _ _ _ ⟨ow2, C, (hp2.mono v3).mono vis⟩ hn
    · exact h2.elim
  · exact h.elim⟩
end
/-! ## list(range(..)) -/
def wLR1 (wa : WE) : WF := fun ρ P => wa ρ fun d ρ1 => match d with
  | .int n => (0 ≤ n ∧ n ≤ 100000) ∧ P (rngD 0 n.toNat) ρ1
  | _ => False
section
variable {X : Cx} {K : Fg} {M : Amb} {H : Hp} {σ : L2.St} {ρ : Rho} {e a b : Expr} {ta tb : TE} {wa wb : WE} {pos p p2 pos2 : Pos}
theorem dvAll_ints {lc : Option Addr} {hd : Hp} (f : Nat → Int) : ∀ l : List Nat, DvAll K lc hd (l.map fun i => V.int (f i)) (l.map fun i => .int (f i))
  | [] => .nil
  | i :: l => .cons (.int _) (dvAll_ints f l)
theorem rgV_dv {lc : Option Addr} {hd : Hp} (n : Int) : DvAll K lc hd (rgV 0 n) (rngD 0 n.toNat) := by
  unfold rgV rngD
  rw [Int.sub_zero]
  exact dvAll_ints _ _
theorem df_lrng1 (hc : X.calm = true) (hgl : Gl X "list") (hml : X.mg "list" = none) (hgr : Gl X "range") (hmr : X.mg "range" = none) (ha : DE X a ta wa) (na : starEach [a] X.env = (false, eval a X.env) :: starEach [] X.env := by rfl)
    (nb : starEach [.Call (.Name "range" p2) [a] [] pos2] X.env = (false, eval (.Call (.Name "range" p2) [a] [] pos2) X.env) :: starEach [] X.env := by rfl) :
    DF X (.Call (.Name "list" p) [.Call (.Name "range" p2) [a] [] pos2] [] pos) (tLstRg (tRg1 ta)) (wLR1 wa) := ⟨pe_listRg hc hgl hml (prg_1 hgr hmr ha.pe na) nb, fun M σ H ρ pv pd P Q A hw q => by
  refine ha.sd M σ H ρ pv pd _ _ A hw fun v d H1 ρ1 A1 h1 => ?_
  split at h1
  · next n =>
    obtain ⟨ow, B, hp⟩ := A1
    cases hp with
    | cons g hp =>
      cases g
      refine ⟨n, rfl, ⟨by omega, by omega, ?_, ?_, ?_⟩, fun l hl => ?_⟩
      · omega
      · omega
      · omega
      · exact q l _ _ ρ1 (At.plus (vs := rgV 0 n) (ds := rngD 0 n.toNat) ⟨ow, B, (rgV_dv n).app hp⟩ (by rw [rgV_length, rngD_len]; congr 1; omega) hl) h1.2
  · exact h1.elim⟩
/-! ## in, not in: ints in a list or a tuple of ints -/
def dInB (neg : Bool) (x y : D) (P : D → Prop) : Prop := ∃ (i : Int) (l : List Int), x = .int i ∧ (y = .list (l.map .int) ∨ y = .tuple (l.map .int)) ∧ P (.bool (if neg then !decide (i ∈ l) else decide (i ∈ l)))
abbrev dIn := dInB false
abbrev dNIn := dInB true
theorem dv_ints {lc : Option Addr} {hd : Hp} : ∀ {l : List Int} {xs : List V}, DvAll K lc hd xs (l.map .int) → xs = l.map .int
  | [], _, h => by cases h; rfl
  | i :: l, _, h => by
    cases h with
    | cons g1 g2 =>
      cases g1
      rw [dv_ints g2]; rfl
theorem flat_ints : ∀ l : List Int, (l.map V.int).all flatV = true
  | [] => rfl
  | i :: l => by rw [List.map_cons, List.all_cons, flat_ints l]; rfl
theorem inV_ints (i : Int) : ∀ l : List Int, inV (.int i) (l.map .int) = decide (i ∈ l)
  | [] => by simp [inV]
  | j :: l => by
    have ih := inV_ints i l
    unfold inV at ih ⊢
    rw [List.map_cons, List.any_cons, ih]
    have e : eqV (.int j) (.int i) = decide (i = j) := by
      show (j == i) = _
      rw [Bool.beq_eq_decide_eq]
      exact decide_eq_decide.mpr ⟨fun h => h.symm, fun h => h.symm⟩
    rw [e]
    by_cases c : i = j <;> simp [c]
theorem sn2_inB (neg : Bool) : Sn2 K (rIn K neg) (dInB neg) := fun lc hd H x y a b P Q al hx hy h q => by
  obtain ⟨i, l, rfl, hb, hp⟩ := h
  cases hx
  rcases hb with rfl | rfl
  · cases hy with
    | lst g1 g2 =>
      obtain rfl := dv_ints g2
      exact ⟨_, _, rfl, .inl (.of (hide_le _ _ g1)), rfl, flat_ints l, by rw [inV_ints]; exact q _ _ H (Same.refl H) (.bl _) hp⟩
  · cases hy with
    | tup g1 g2 =>
      obtain rfl := dv_ints g2
      exact ⟨_, _, rfl, .inr (same_t hide_le g1), rfl, flat_ints l, by rw [inV_ints]; exact q _ _ H (Same.refl H) (.bl _) hp⟩
abbrev sn2_in : Sn2 K (rIn K false) dIn := sn2_inB false
abbrev sn2_nin : Sn2 K (rIn K true) dNIn := sn2_inB true
/-! ## tuple(x) of an owned list that goes on -/
def wTupO (i : Nat) : WE := fun ρ P => match look ρ i with
  | .own ds => P (.tuple ds) ρ
  | _ => False
theorem de_tupO {i : Nat} (hg : Gl X "tuple") (hm : X.mg "tuple" = none) (ha : PE X e (tVar i)) (he : starEach [e] X.env = (false, eval e X.env) :: starEach [] X.env := by rfl) (hpl : (backTo pos (starEach [] X.env)).any (·.1) = false := by rfl) :
    DE X (.Call (.Name "tuple" p) [e] [] pos) (tCB (rTupleV X.K) (tCons (tVar i) tNil)) (wTupO i) := ⟨pe_callTy call_tuple_of hg hm (by decide +kernel) (pa_cons ha pa_nil he) (by decide) (by decide) he hpl, fun M σ H ρ pv pd P Q A hw q => by
  unfold wTupO at hw
  split at hw
  · next ds e1 =>
    obtain ⟨ow, B, hp⟩ := A
    obtain ⟨a, xs, k1, k2, k3, k4⟩ := B.own i ds e1
    refine ⟨.ref a, k2, a, xs, rfl, .inl ⟨.of k3, fun l hl => ?_⟩⟩
    have e : Same H (upd H l (.tup xs)) := same_new hl
    exact q _ (.tuple ds) _ ρ ⟨ow, B.step (.of e) (B.cok.mono e), .cons (.tup (.of (new_vis B.hall hl)) (k4.mono (B.vis (.of e)))) (hp.mono (B.vis (.of e)))⟩ hw
  · exact hw.elim⟩
/-! ## x, y = [], [] -/
def wParOO (i j : Nat) (wf wg : WF) : WS := fun DD ρ => wf ρ fun ds ρ1 => wg ρ1 fun es ρ2 => DD.nx (put (put ρ2 j (.own es)) i (.own ds))
theorem ds_parOO {i j : Nat} {x y : Str} {px py pt : Pos} {kt k2 pt2} {wf wg : WF} (hc : X.calm = true) (hN : X.N.Nodup) (ha : DF X a ta wf) (hb : DF X b tb wg) (hi : X.N[i]? = some x := by rfl) (hj : X.N[j]? = some y := by rfl) (hij : i ≠ j := by decide)
    (na : starEach [a, b] X.env = (false, eval a X.env) :: starEach [b] X.env := by rfl) (nb : starEach [b] X.env = (false, eval b X.env) :: starEach [] X.env := by rfl)
    (hx : X.env.scope.names.lookup x = some .local := by rfl) (hy : X.env.scope.names.lookup y = some .local := by rfl)
    (hw : swappedStores [.Tuple [.Name x px, .Name y py] kt pt] (.Tuple [a, b] k2 pt2) X.env = pure (some [x, y]) := by rfl)
    (hs : swapsWithSole [.Tuple [.Name x px, .Name y py] kt pt] (.Tuple [a, b] k2 pt2) pos.line X.env = pure false := by rfl) :
    DS X (.Assign [.Tuple [.Name x px, .Name y py] kt pt] (.Tuple [a, b] k2 pt2) pos) (tPar i j (tCons ta (tCons tb tNil))) (wParOO i j wf wg) := ⟨ps_par hc hN hi hj hij hx hy (pa_cons ha.pe (pa_cons hb.pe pa_nil nb) na) hw hs, fun M σ H ρ pv pd DD HD A h F => by
  refine ha.sd M σ H ρ pv pd _ _ A h fun p ds H1 ρ1 A1 h1 => ?_
  refine hb.sd _ σ H1 ρ1 pv pd _ _ A1 h1 fun q es H2 ρ2 A2 h2 => ?_
  refine ⟨.ref p, .ref q, rfl, ?_⟩
  rw [List.set_comm _ _ hij]
  exact F.nx _ _ _ ((A2.keep j).keep i) h2⟩
end
end DL

namespace My
structure Common (a b g s t : Int) : Prop where
  hg : g = (Nat.gcd a.natAbs b.natAbs : Nat)
  heq : s * a + t * b = g
  t0 : b = 0 → t = 0
  s0 : a = 0 → s = 0
  bs : a ≠ 0 → b ≠ 0 → s.natAbs ≤ b.natAbs / g.natAbs
  bt : a ≠ 0 → b ≠ 0 → t.natAbs ≤ a.natAbs / g.natAbs
/-- the state of Euclid's algorithm for A and B: remainders r0, r1, the sizes of the coefficients, e their sign -/
structure Euc (A B r0 r1 S0 S1 T0 T1 e : Int) : Prop where
  he : e = 1 ∨ e = -1
  eq0 : r0 = e * S0 * A - e * T0 * B
  eq1 : r1 = -e * S1 * A + e * T1 * B
  n0 : 0 ≤ r0
  n1 : 0 ≤ r1
  sn0 : 0 ≤ S0
  sn1 : 0 ≤ S1
  tn0 : 0 ≤ T0
  tn1 : 0 ≤ T1
  sB : S1 * r0 + S0 * r1 = B
  tA : T1 * r0 + T0 * r1 = A
  gc : Int.gcd r0 r1 = Int.gcd A B
  lt : (S0 = 1 ∧ S1 = 0 ∧ T0 = 0 ∧ T1 = 1 ∧ r0 = A ∧ r1 = B) ∨ r1 < r0
  sl : (S0 = 1 ∧ S1 = 0 ∧ r1 = B) ∨ S0 ≤ S1
  tl : (T0 = 1 ∧ T1 = 0 ∧ r0 = B ∧ r1 = A) ∨ T0 ≤ T1
  a0 : A = 0 → (S0 = 1 ∧ S1 = 0 ∧ r1 = B) ∨ (S0 = 0 ∧ r1 = 0)
  b0 : B = 0 → T0 = 0
theorem Euc.start {A B : Int} (hA : 0 ≤ A) (hB : 0 ≤ B) : Euc A B A B 1 0 0 1 1 := by
  constructor <;> first | omega | (intro _; omega) | simp
theorem Euc.step {A B r0 r1 S0 S1 T0 T1 e : Int} (h : Euc A B r0 r1 S0 S1 T0 T1 e) (h1 : r1 ≠ 0) :
    Euc A B r1 (r0 - r0 / r1 * r1) S1 (S0 + r0 / r1 * S1) T1 (T0 + r0 / r1 * T1) (-e) ∧ r0 - r0 / r1 * r1 < r1 ∧ 0 ≤ r0 / r1 ∧ r0 / r1 ≤ r0 := by
  have hn0 := h.n0
  have hn1 := h.n1
  have hp : 0 < r1 := by omega
  have hm : r0 - r0 / r1 * r1 = r0 % r1 := by
    have := Int.emod_add_mul_ediv r0 r1
    rw [Int.mul_comm r1] at this
    omega
  have m0 := Int.emod_nonneg r0 h1
  have m1 := Int.emod_lt_of_pos r0 hp
  have q0 : 0 ≤ r0 / r1 := Int.ediv_nonneg hn0 hn1
  have q1 : r0 / r1 ≤ r0 := Int.ediv_le_self r1 hn0
  have qs : 0 ≤ r0 / r1 * S1 := Int.mul_nonneg q0 h.sn1
  have qt : 0 ≤ r0 / r1 * T1 := Int.mul_nonneg q0 h.tn1
  have hs := h.sn0
  have hs1 := h.sn1
  have ht := h.tn0
  have ht1 := h.tn1
  have qge : r1 < r0 → 1 ≤ r0 / r1 := fun w => by
    have := Int.ediv_le_ediv hp (Int.le_of_lt w)
    rwa [Int.ediv_self h1] at this
  refine ⟨?_, by omega, q0, q1⟩
  exact {
    he := by rcases h.he with w | w <;> omega
    eq0 := by have := h.eq1; grind
    eq1 := by have := h.eq1; have := h.eq0; grind
    n0 := hn1
    n1 := by omega
    sn0 := h.sn1
    sn1 := by omega
    tn0 := h.tn1
    tn1 := by omega
    sB := by have := h.sB; grind
    tA := by have := h.tA; grind
    gc := by
      rw [← h.gc, hm]
      obtain ⟨m, rfl⟩ := Int.eq_ofNat_of_zero_le hn0
      obtain ⟨n, rfl⟩ := Int.eq_ofNat_of_zero_le hn1
      rw [← Int.natCast_emod]
      show Nat.gcd n (m % n) = Nat.gcd m n
      rw [Nat.gcd_comm m n, Nat.gcd_rec n m, Nat.gcd_comm]
    lt := .inr (by omega)
    sl := by
      rcases h.lt with ⟨a1, a2, a3, a4, a5, a6⟩ | w
      · subst a1 a2
        right; omega
      · rcases h.sl with ⟨a1, a2, _⟩ | l
        · subst a1 a2
          right; omega
        · right
          have := Int.mul_le_mul_of_nonneg_right (qge w) hs1
          omega
    tl := by
      rcases h.lt with ⟨a1, a2, a3, a4, a5, a6⟩ | w
      · subst a3 a4
        by_cases c : r1 < r0
        · right
          have := qge c
          omega
        · by_cases c2 : r0 = r1
          · subst c2
            right
            rw [Int.ediv_self h1]
            omega
          · left
            have z : r0 / r1 = 0 := Int.ediv_eq_zero_of_lt hn0 (by omega)
            rw [z]
            refine ⟨rfl, by omega, a6, by omega⟩
      · rcases h.tl with ⟨a1, a2, _⟩ | l
        · subst a1 a2
          right; omega
        · right
          have := Int.mul_le_mul_of_nonneg_right (qge w) ht1
          omega
    a0 := fun z => by
      rcases h.a0 z with ⟨a1, a2, a3⟩ | ⟨a1, a2⟩
      · right
        refine ⟨a2, ?_⟩
        have := h.tA
        have n0 := Int.mul_nonneg ht1 hn0
        have n1 := Int.mul_nonneg ht hn1
        have e1 : T1 * r0 = 0 := by omega
        have e2 : T0 * r1 = 0 := by omega
        have e3 := h.eq0
        have e4 := h.eq1
        subst z a1 a2
        have t0 : T0 = 0 := by rcases Int.mul_eq_zero.mp e2 with w | w; exact w; exact absurd w h1
        subst t0
        have : r0 = 0 := by simpa using e3
        rw [this]; simp
      · omega
    b0 := fun z => by
      have := h.sB
      have n0 := Int.mul_nonneg hs1 hn0
      have n1 := Int.mul_nonneg hs hn1
      have e1 : S0 * r1 = 0 := by omega
      have e2 : S1 * r0 = 0 := by omega
      have s0 : S0 = 0 := by rcases Int.mul_eq_zero.mp e1 with w | w; exact w; exact absurd w h1
      exfalso
      have := h.eq1
      have := h.eq0
      subst z s0
      have r00 : r0 = 0 := by simpa using h.eq0
      rcases h.lt with ⟨a1, _⟩ | w
      · omega
      · omega }
theorem Euc.le {A B r0 r1 S0 S1 T0 T1 e : Int} (h : Euc A B r0 r1 S0 S1 T0 T1 e) (h1 : r1 ≠ 0) : S1 ≤ B ∧ T1 ≤ A + 1 ∧ S0 ≤ B + 1 ∧ T0 ≤ A + 1 := by
  have hn0 := h.n0
  have hn1 := h.n1
  have hs := h.sn0
  have hs1 := h.sn1
  have ht := h.tn0
  have ht1 := h.tn1
  have hp : 1 ≤ r1 := by omega
  have e1 := h.sB
  have e2 := h.tA
  have b1 : S0 ≤ S0 * r1 := by have := Int.mul_le_mul_of_nonneg_left hp hs; omega
  have b2 : T0 ≤ T0 * r1 := by have := Int.mul_le_mul_of_nonneg_left hp ht; omega
  have b3 := Int.mul_nonneg hs1 hn0
  have b4 := Int.mul_nonneg ht1 hn0
  rcases h.lt with ⟨a1, a2, a3, a4, a5, a6⟩ | w
  · omega
  · have hq : 1 ≤ r0 := by omega
    have b5 : S1 ≤ S1 * r0 := by have := Int.mul_le_mul_of_nonneg_left hq hs1; omega
    have b6 : T1 ≤ T1 * r0 := by have := Int.mul_le_mul_of_nonneg_left hq ht1; omega
    have b7 := Int.mul_nonneg hs hn1
    have b8 := Int.mul_nonneg ht hn1
    omega
theorem Euc.done {A B r0 S0 S1 T0 T1 e a b : Int} (h : Euc A B r0 0 S0 S1 T0 T1 e) (ha : A = if a < 0 then -a else a) (hb : B = if b < 0 then -b else b) (hn : ¬ (a = 0 ∧ b = 0)) :
    Common a b r0 (if a < 0 then -(e * S0) else e * S0) (if b < 0 then -(-e * T0) else -e * T0) := by
  have hA : (A.natAbs : Int) = A := by subst ha; split <;> omega
  have hB : (B.natAbs : Int) = B := by subst hb; split <;> omega
  have hAa : A.natAbs = a.natAbs := by subst ha; split <;> omega
  have hBb : B.natAbs = b.natAbs := by subst hb; split <;> omega
  have e0 := h.eq0
  have g0 := h.gc
  have gg : r0 = (Nat.gcd a.natAbs b.natAbs : Nat) := by
    have : Int.gcd r0 0 = Nat.gcd a.natAbs b.natAbs := by rw [g0]; show Nat.gcd A.natAbs B.natAbs = _; rw [hAa, hBb]
    rw [Int.gcd_zero_right] at this
    have := h.n0
    omega
  have e2 : ∀ x y : Int, (x.natAbs : Int) = (if x < 0 then -x else x) := fun x _ => by split <;> omega
  have sgn : ∀ S : Int, 0 ≤ S → (e * S).natAbs = S.toNat := fun S hS => by
    rcases h.he with w | w <;> subst w
    · rw [Int.one_mul]; omega
    · rw [Int.neg_mul, Int.one_mul]; omega
  have hs := h.sn0
  have ht := h.tn0
  have hs1 := h.sn1
  have ht1 := h.tn1
  have sB := h.sB
  have tA := h.tA
  rw [Int.mul_zero, Int.add_zero] at sB tA
  have nS : (if a < 0 then -(e * S0) else e * S0).natAbs = S0.toNat := by rw [← sgn S0 hs]; split <;> omega
  have nT : (if b < 0 then -(-e * T0) else -e * T0).natAbs = T0.toNat := by
    have : (-e * T0).natAbs = (e * T0).natAbs := by rw [Int.neg_mul]; omega
    rw [← sgn T0 ht, ← this]; split <;> omega
  have gpos : a ≠ 0 → 0 < r0 := fun z => by
    have := Nat.gcd_pos_of_pos_left b.natAbs (show 0 < a.natAbs by omega)
    omega
  refine ⟨gg, ?_, fun z => ?_, fun z => ?_, fun z1 z2 => ?_, fun z1 z2 => ?_⟩
  · have c1 : (if a < 0 then -(e * S0) else e * S0) * a = e * S0 * A := by
      subst ha
      split
      · rw [Int.neg_mul, Int.mul_neg]
      · rfl
    have c2 : (if b < 0 then -(-e * T0) else -e * T0) * b = -e * T0 * B := by
      subst hb
      split
      · rw [Int.neg_mul (-e * T0), Int.mul_neg]
      · rfl
    rw [c1, c2, e0]
    grind
  · have : B = 0 := by rw [hb, z]; rfl
    have := h.b0 this
    subst this
    simp
  · have z0 : A = 0 := by rw [ha, z]; rfl
    rcases h.a0 z0 with ⟨_, _, w⟩ | ⟨w, _⟩
    · exfalso
      have : b = 0 := by
        rw [← w] at hb
        split at hb <;> omega
      exact hn ⟨z, this⟩
    · subst w
      simp
  · rw [nS]
    have gp := gpos z1
    rw [show r0.natAbs = r0.toNat by omega]
    rw [Nat.le_div_iff_mul_le (by omega), ← hBb]
    rcases h.sl with ⟨_, _, w⟩ | w
    · exfalso; rw [← w] at hb; split at hb <;> omega
    · have := Int.mul_le_mul_of_nonneg_right w h.n0
      have q1 : ((S0.toNat * r0.toNat : Nat) : Int) = S0 * r0 := by
        rw [Int.natCast_mul, Int.toNat_of_nonneg hs, Int.toNat_of_nonneg h.n0]
      omega
  · rw [nT]
    have gp := gpos z1
    rw [show r0.natAbs = r0.toNat by omega]
    rw [Nat.le_div_iff_mul_le (by omega), ← hAa]
    rcases h.tl with ⟨_, _, _, w⟩ | w
    · exfalso; rw [← w] at ha; split at ha <;> omega
    · have := Int.mul_le_mul_of_nonneg_right w h.n0
      have q1 : ((T0.toNat * r0.toNat : Nat) : Int) = T0 * r0 := by
        rw [Int.natCast_mul, Int.toNat_of_nonneg ht, Int.toNat_of_nonneg h.n0]
      omega
end My

namespace My
/-- a / b is n / d in lowest terms -/
structure Frac (n d a b : Int) : Prop where
  pos : 0 < b
  cop : Int.gcd a b = 1
  eq : a * d = n * b
  la : a.natAbs ≤ n.natAbs
  lb : b.natAbs ≤ d.natAbs
theorem dvd_cop {k n m : Int} (h : Int.gcd k n = 1) (hd : k ∣ n * m) : k ∣ m := by
  have := Int.dvd_gcd_mul_iff_dvd_mul.mpr hd
  rw [h] at this
  simpa using this
theorem Frac.uniq {n d a b a' b' : Int} (h : Frac n d a b) (h' : Frac n d a' b') (hd : d ≠ 0) : a = a' ∧ b = b' := by
  have e : a * b' = a' * b := by
    have h1 := h.eq
    have h2 := h'.eq
    have : d * (a * b') = d * (a' * b) := by grind
    exact Int.eq_of_mul_eq_mul_left hd this
  have d1 : b ∣ b' := by
    have : b ∣ a * b' := ⟨a', by rw [e, Int.mul_comm]⟩
    exact dvd_cop (by rw [Int.gcd_comm]; exact h.cop) this
  have d2 : b' ∣ b := by
    have : b' ∣ a' * b := ⟨a, by rw [← e, Int.mul_comm]⟩
    exact dvd_cop (by rw [Int.gcd_comm]; exact h'.cop) this
  have hb := h.pos
  have hb' := h'.pos
  have eb : b = b' := Int.le_antisymm (Int.le_of_dvd hb' d1) (Int.le_of_dvd hb d2)
  subst eb
  exact ⟨Int.eq_of_mul_eq_mul_right (by omega) e, rfl⟩
theorem Frac.make {n d g : Int} (hd : d ≠ 0) (hg : g = (Nat.gcd n.natAbs d.natAbs : Nat)) : Frac n d (n.fdiv (if d < 0 then -g else g)) (d.fdiv (if d < 0 then -g else g)) ∧ g ≠ 0 ∧ g.natAbs ≤ d.natAbs := by
  have gp : 0 < Nat.gcd n.natAbs d.natAbs := Nat.gcd_pos_of_pos_right _ (by omega)
  have d1 : g ∣ n := by rw [hg]; exact Int.ofNat_dvd_left.mpr (Nat.gcd_dvd_left ..)
  have d2 : g ∣ d := by rw [hg]; exact Int.ofNat_dvd_left.mpr (Nat.gcd_dvd_right ..)
  have gle : g.natAbs ≤ d.natAbs := by
    have := Nat.gcd_le_right n.natAbs (show 0 < d.natAbs by omega)
    omega
  obtain ⟨x, hx⟩ := d1
  obtain ⟨y, hy⟩ := d2
  have cop : Int.gcd x y = 1 := by
    have e : Int.gcd n d = g.natAbs := by rw [hg]; rfl
    rw [hx, hy, Int.gcd_mul_left] at e
    have : g.natAbs * Int.gcd x y = g.natAbs * 1 := by omega
    exact Nat.eq_of_mul_eq_mul_left (by omega) this
  have g0 : g ≠ 0 := by omega
  have lx : x.natAbs ≤ n.natAbs := by rw [hx, Int.natAbs_mul]; exact Nat.le_mul_of_pos_left _ (by omega)
  have ly : y.natAbs ≤ d.natAbs := by rw [hy, Int.natAbs_mul]; exact Nat.le_mul_of_pos_left _ (by omega)
  refine ⟨?_, g0, gle⟩
  split
  · next hlt =>
    have e1 : n.fdiv (-g) = -x := by rw [hx, show g * x = -g * -x by rw [Int.neg_mul_neg]]; exact Int.mul_fdiv_cancel_left _ (by omega)
    have e2 : d.fdiv (-g) = -y := by rw [hy, show g * y = -g * -y by rw [Int.neg_mul_neg]]; exact Int.mul_fdiv_cancel_left _ (by omega)
    rw [e1, e2]
    have hyn : y < 0 := by
      rcases Int.lt_trichotomy y 0 with z | z | z
      · exact z
      · rw [z] at hy; omega
      · have := Int.mul_pos (show 0 < g by omega) z
        omega
    exact ⟨by omega, by rw [Int.gcd_neg, Int.neg_gcd]; exact cop, by rw [hx, hy]; grind, by omega, by omega⟩
  · next hlt =>
    have e1 : n.fdiv g = x := by rw [hx]; exact Int.mul_fdiv_cancel_left _ g0
    have e2 : d.fdiv g = y := by rw [hy]; exact Int.mul_fdiv_cancel_left _ g0
    rw [e1, e2]
    have hyn : 0 < y := by
      rcases Int.lt_trichotomy y 0 with z | z | z
      · have := Int.mul_neg_of_pos_of_neg (show 0 < g by omega) z
        omega
      · rw [z] at hy; omega
      · exact z
    exact ⟨hyn, cop, by rw [hx, hy]; grind, lx, ly⟩
theorem Frac.scale {n d f a b : Int} (h : Frac n d a b) (hf : f ≠ 0) (hd : d ≠ 0) : Frac (n * f) (d * f) a b := by
  have hp : 0 < f.natAbs := by omega
  refine ⟨h.pos, h.cop, by have := h.eq; grind, ?_, ?_⟩
  · rw [Int.natAbs_mul]
    exact Nat.le_trans h.la (Nat.le_mul_of_pos_right _ hp)
  · rw [Int.natAbs_mul]
    exact Nat.le_trans h.lb (Nat.le_mul_of_pos_right _ hp)
end My

namespace My
theorem dvd_gcds {a b n x : Nat} (h1 : Nat.gcd a n ∣ x) (h2 : Nat.gcd b n ∣ x) : Nat.gcd (Nat.lcm a b) n ∣ x := by
  rcases Nat.eq_zero_or_pos a with za | pa
  · subst za
    rw [Nat.lcm_zero_left, Nat.gcd_zero_left]
    rwa [Nat.gcd_zero_left] at h1
  · have pu : 0 < Nat.gcd a b := Nat.gcd_pos_of_pos_left _ pa
    obtain ⟨a1, ha⟩ := Nat.gcd_dvd_left a b
    obtain ⟨b1, hb⟩ := Nat.gcd_dvd_right a b
    have cop : Nat.gcd a1 b1 = 1 := by
      have e : Nat.gcd (Nat.gcd a b * a1) (Nat.gcd a b * b1) = Nat.gcd a b := by rw [← ha, ← hb]
      rw [Nat.gcd_mul_left] at e
      exact Nat.eq_of_mul_eq_mul_left pu (by omega)
    have hl : Nat.lcm a b = a1 * b := by
      have e1 : Nat.gcd a b * Nat.lcm a b = a * b := Nat.gcd_mul_lcm a b
      have e2 : a * b = Nat.gcd a b * (a1 * b) := by
        have : a * b = (Nat.gcd a b * a1) * b := by rw [← ha]
        rw [this, Nat.mul_assoc]
      exact Nat.eq_of_mul_eq_mul_left pu (by omega)
    have hl2 : Nat.lcm a b = b1 * a := by
      have e1 : Nat.gcd a b * Nat.lcm a b = a * b := Nat.gcd_mul_lcm a b
      have e2 : a * b = Nat.gcd a b * (b1 * a) := by
        have : a * b = a * (Nat.gcd a b * b1) := by rw [← hb]
        rw [this]; grind
      exact Nat.eq_of_mul_eq_mul_left pu (by omega)
    have d1 : Nat.gcd (Nat.lcm a b) n ∣ a1 * x := by
      have : Nat.gcd (Nat.lcm a b) n ∣ Nat.gcd (a1 * b) (a1 * n) := Nat.dvd_gcd (by rw [← hl]; exact Nat.gcd_dvd_left ..) (Nat.dvd_trans (Nat.gcd_dvd_right ..) ⟨a1, Nat.mul_comm ..⟩)
      rw [Nat.gcd_mul_left] at this
      exact Nat.dvd_trans this (Nat.mul_dvd_mul_left _ h2)
    have d2 : Nat.gcd (Nat.lcm a b) n ∣ b1 * x := by
      have : Nat.gcd (Nat.lcm a b) n ∣ Nat.gcd (b1 * a) (b1 * n) := Nat.dvd_gcd (by rw [← hl2]; exact Nat.gcd_dvd_left ..) (Nat.dvd_trans (Nat.gcd_dvd_right ..) ⟨b1, Nat.mul_comm ..⟩)
      rw [Nat.gcd_mul_left] at this
      exact Nat.dvd_trans this (Nat.mul_dvd_mul_left _ h1)
    have := Nat.dvd_gcd d1 d2
    rwa [Nat.gcd_mul_right, cop, Nat.one_mul] at this
abbrev Pr := Int × Int
def lcmL (ps : List Pr) : Nat := ps.foldl (fun acc p => Nat.lcm acc p.2.natAbs) 1
theorem lcmL_app (ps : List Pr) (p : Pr) : lcmL (ps ++ [p]) = Nat.lcm (lcmL ps) p.2.natAbs := by simp [lcmL]
/-- each two of the pairs can be met together -/
def Compat (ps : List Pr) : Prop := ∀ p ∈ ps, ∀ q ∈ ps, ((Nat.gcd p.2.natAbs q.2.natAbs : Nat) : Int) ∣ p.1 - q.1
structure Crt (ps : List Pr) (r m : Int) : Prop where
  n0 : 0 ≤ r
  lt : r < m
  lc : m = (lcmL ps : Nat)
  rem : ∀ p ∈ ps, p.2 ∣ r - p.1
theorem Crt.compat {ps : List Pr} {r m : Int} (h : Crt ps r m) : Compat ps := fun p hp q hq => by
  have h1 : ((Nat.gcd p.2.natAbs q.2.natAbs : Nat) : Int) ∣ r - p.1 := Int.dvd_trans (Int.ofNat_dvd_left.mpr (Nat.gcd_dvd_left ..)) (h.rem p hp)
  have h2 : ((Nat.gcd p.2.natAbs q.2.natAbs : Nat) : Int) ∣ r - q.1 := Int.dvd_trans (Int.ofNat_dvd_left.mpr (Nat.gcd_dvd_right ..)) (h.rem q hq)
  have := Int.dvd_sub h2 h1
  rwa [show r - q.1 - (r - p.1) = p.1 - q.1 by omega] at this
theorem gcds_dvd : ∀ (ps : List Pr) (n x : Nat) (acc : Nat), Nat.gcd acc n ∣ x → (∀ p ∈ ps, Nat.gcd p.2.natAbs n ∣ x) → Nat.gcd (ps.foldl (fun acc p => Nat.lcm acc p.2.natAbs) acc) n ∣ x
  | [], _, _, _, h, _ => h
  | p :: ps, n, x, acc, h, k => gcds_dvd ps n x _ (dvd_gcds h (k p (List.mem_cons_self ..))) fun q hq => k q (List.mem_cons_of_mem _ hq)
/-- the gap is a multiple of the greatest common divisor, if all pairs fit each other -/
theorem Crt.gap {ps : List Pr} {p : Pr} {r m : Int} (h : Crt ps r m) (c : Compat (ps ++ [p])) : ((Nat.gcd m.natAbs p.2.natAbs : Nat) : Int) ∣ p.1 - r := by
  have hm : m.natAbs = lcmL ps := by rw [h.lc]; rfl
  rw [hm, Int.ofNat_dvd_left]
  refine gcds_dvd ps _ _ 1 (by rw [Nat.gcd_one_left]; exact Nat.one_dvd _) fun q hq => ?_
  have h1 : ((Nat.gcd q.2.natAbs p.2.natAbs : Nat) : Int) ∣ r - q.1 := Int.dvd_trans (Int.ofNat_dvd_left.mpr (Nat.gcd_dvd_left ..)) (h.rem q hq)
  have h2 := c q (List.mem_append_left _ hq) p (List.mem_append_right _ (List.mem_singleton.mpr rfl))
  have := Int.dvd_add h1 h2
  rw [show r - q.1 + (q.1 - p.1) = -(p.1 - r) by omega, Int.dvd_neg] at this
  exact Int.ofNat_dvd_left.mp this
theorem Crt.step {ps : List Pr} {p : Pr} {r m g s t : Int} (h : Crt ps r m) (hp : 0 < p.2) (hg : g = (Nat.gcd m.natAbs p.2.natAbs : Nat)) (hs : s * m + t * p.2 = g) (hd : g ∣ p.1 - r) :
    Crt (ps ++ [p]) (r + m * ((s * ((p.1 - r) / g)) % (p.2 / g))) (m / g * p.2) := by
  have h0 := h.n0
  have h1 := h.lt
  have mp : 0 < m := by omega
  have gp : 0 < g := by
    have := Nat.gcd_pos_of_pos_left p.2.natAbs (show 0 < m.natAbs by omega)
    omega
  obtain ⟨m1, hm1⟩ : g ∣ m := by rw [hg]; exact Int.ofNat_dvd_left.mpr (Nat.gcd_dvd_left ..)
  obtain ⟨n1, hn1⟩ : g ∣ p.2 := by rw [hg]; exact Int.ofNat_dvd_left.mpr (Nat.gcd_dvd_right ..)
  obtain ⟨k, hk⟩ := hd
  have n1p : 0 < n1 := by
    rcases Int.lt_trichotomy n1 0 with z | z | z
    · have := Int.mul_neg_of_pos_of_neg gp z; omega
    · rw [z] at hn1; omega
    · exact z
  have m1p : 0 < m1 := by
    rcases Int.lt_trichotomy m1 0 with z | z | z
    · have := Int.mul_neg_of_pos_of_neg gp z; omega
    · rw [z] at hm1; omega
    · exact z
  have e1 : (p.1 - r) / g = k := by rw [hk]; exact Int.mul_ediv_cancel_left _ (by omega)
  have e2 : p.2 / g = n1 := by rw [hn1]; exact Int.mul_ediv_cancel_left _ (by omega)
  have e3 : m / g = m1 := by rw [hm1]; exact Int.mul_ediv_cancel_left _ (by omega)
  rw [e1, e2, e3]
  have st0 := Int.emod_nonneg (s * k) (show n1 ≠ 0 by omega)
  have st1 := Int.emod_lt_of_pos (s * k) n1p
  have st2 := Int.emod_add_mul_ediv (s * k) n1
  generalize (s * k) % n1 = x at *
  generalize s * k / n1 = y at *
  have hmn : m * n1 = m1 * p.2 := by rw [hm1, hn1]; grind
  refine ⟨?_, ?_, ?_, fun q hq => ?_⟩
  · have := Int.mul_nonneg (Int.le_of_lt mp) st0
    omega
  · have : m * x ≤ m * (n1 - 1) := Int.mul_le_mul_of_nonneg_left (by omega) (by omega)
    rw [Int.mul_sub, Int.mul_one] at this
    omega
  · rw [lcmL_app]
    have hl : m.natAbs = lcmL ps := by rw [h.lc]; rfl
    rw [← hl]
    have e : Nat.gcd m.natAbs p.2.natAbs * Nat.lcm m.natAbs p.2.natAbs = m.natAbs * p.2.natAbs := Nat.gcd_mul_lcm ..
    have e' : g * ((Nat.lcm m.natAbs p.2.natAbs : Nat) : Int) = m * p.2 := by
      rw [hg, ← Int.natCast_mul, e, Int.natCast_mul, Int.natAbs_of_nonneg (by omega), Int.natAbs_of_nonneg (by omega)]
    have : g * ((Nat.lcm m.natAbs p.2.natAbs : Nat) : Int) = g * (m1 * p.2) := by rw [e', hm1]; grind
    exact (Int.eq_of_mul_eq_mul_left (by omega) this).symm
  · rcases List.mem_append.mp hq with hq | hq
    · have d1 := h.rem q hq
      have d2 : q.2 ∣ m := by
        rw [h.lc]
        have : ∀ (ps : List Pr) (acc : Nat), (q.2.natAbs ∣ acc ∨ q ∈ ps) → q.2.natAbs ∣ ps.foldl (fun acc p => Nat.lcm acc p.2.natAbs) acc := fun ps => by
          induction ps with
          | nil => intro acc h; rcases h with h | h; exact h; cases h
          | cons c cs ih =>
            intro acc h
            refine ih _ ?_
            rcases h with h | h
            · exact .inl (Nat.dvd_trans h (Nat.dvd_lcm_left ..))
            · rcases List.mem_cons.mp h with h | h
              · subst h; exact .inl (Nat.dvd_lcm_right ..)
              · exact .inr h
        exact Int.ofNat_dvd_right.mpr (this ps 1 (.inr hq))
      rw [show r + m * x - q.1 = (r - q.1) + m * x by omega]
      exact Int.dvd_add d1 (Int.dvd_trans d2 ⟨x, rfl⟩)
    · have := List.mem_singleton.mp hq
      subst this
      refine ⟨-t * k - m1 * y, ?_⟩
      grind
end My

namespace My
def Prime (n : Int) : Prop := 2 ≤ n ∧ ∀ d : Int, 2 ≤ d → d * d ≤ n → ¬ d ∣ n
/-- no divisor among the 2 ^ l numbers from lo on -/
def chk (n : Nat) : Nat → Nat → Bool
  | 0, lo => n % lo != 0
  | l + 1, lo => chk n l lo && chk n l (lo + 2 ^ l)
theorem chk_spec (n : Nat) : ∀ (l lo : Nat), chk n l lo = true → ∀ d, lo ≤ d → d < lo + 2 ^ l → n % d ≠ 0
  | 0, lo, h, d, h1, h2 => by
    have : d = lo := by simp at h2; omega
    subst this
    simpa [chk] using h
  | l + 1, lo, h, d, h1, h2 => by
    simp only [chk, Bool.and_eq_true] at h
    have e : 2 ^ (l + 1) = 2 ^ l + 2 ^ l := by rw [Nat.pow_succ]; omega
    by_cases c : d < lo + 2 ^ l
    · exact chk_spec n l lo h.1 d h1 c
    · exact chk_spec n l (lo + 2 ^ l) h.2 d (by omega) (by omega)
abbrev PP : Int := 4294967291
theorem chkPP : chk 4294967291 16 2 = true := by decide +kernel
theorem primePP : Prime PP := by
  refine ⟨by decide, fun d h1 h2 h3 => ?_⟩
  have hd : d ≤ 65537 := by
    rcases Int.lt_or_le 65537 d with z | z
    · have := Int.mul_le_mul (Int.le_of_lt z) (Int.le_of_lt z) (by decide) (by omega)
      have e : (65537 : Int) * 65537 = 4295098369 := by decide
      have : PP = 4294967291 := rfl
      omega
    · exact z
  have := chk_spec 4294967291 16 2 chkPP d.toNat (by omega) (by
    have e : 2 + 2 ^ 16 = 65538 := by decide
    omega)
  have h4 : d.toNat ∣ 4294967291 := by
    have : ((d.toNat : Nat) : Int) ∣ ((4294967291 : Nat) : Int) := by rw [Int.toNat_of_nonneg (by omega)]; exact h3
    exact Int.ofNat_dvd.mp this
  exact this (Nat.mod_eq_zero_of_dvd h4)
theorem prime_small {n : Int} (h : n < 4) : Prime n ↔ 1 < n := by
  constructor
  · intro hp; have := hp.1; omega
  · intro h1
    refine ⟨by omega, fun d h2 h3 => ?_⟩
    have := Int.mul_le_mul h2 h2 (by decide) (by omega)
    omega
/-- none up to k divides n -/
def NoDiv (n k : Int) : Prop := ∀ d : Int, 2 ≤ d → d < k → ¬ d ∣ n
theorem prime_of {n k : Int} (h2 : 2 ≤ n) (h : NoDiv n k) (hk : ∀ d : Int, 2 ≤ d → d * d ≤ n → d < k) : Prime n := ⟨h2, fun d h1 h3 => h d h1 (hk d h1 h3)⟩
theorem notPrime {n d : Int} (hd : 2 ≤ d) (hn : d ∣ n) (hlt : d < n) : ¬ Prime n := fun hp => by
  by_cases c : d * d ≤ n
  · exact hp.2 d hd c hn
  · obtain ⟨e, he⟩ := hn
    have e1 : 2 ≤ e := by
      rcases Int.lt_or_le e 2 with z | z
      · have h0 := hp.1
        rcases Int.lt_or_le e 1 with y | y
        · have := Int.mul_le_mul_of_nonneg_left (show e ≤ 0 by omega) (show 0 ≤ d by omega)
          omega
        · have : e = 1 := by omega
          subst this; omega
      · exact z
    have e2 : e < d := by
      rcases Int.lt_or_le e d with z | z
      · exact z
      · have := Int.mul_le_mul_of_nonneg_left z (show 0 ≤ d by omega)
        omega
    have e3 : e * e ≤ n := by
      have := Int.mul_le_mul_of_nonneg_right (Int.le_of_lt e2) (show 0 ≤ e by omega)
      omega
    exact hp.2 e e1 e3 ⟨d, by rw [he, Int.mul_comm]⟩
theorem noDiv_six {n k : Int} (h2 : ¬ (2 : Int) ∣ n) (h3 : ¬ (3 : Int) ∣ n) (h : NoDiv n k) (hk : ∃ i : Int, k = 5 + 6 * i) (a : ¬ k ∣ n) (b : ¬ (k + 2) ∣ n) : NoDiv n (k + 6) := fun d d2 dl hd => by
  obtain ⟨i, rfl⟩ := hk
  by_cases c : d < 5 + 6 * i
  · exact h d d2 c hd
  · have cases : d = 5 + 6 * i ∨ d = 5 + 6 * i + 1 ∨ d = 5 + 6 * i + 2 ∨ d = 5 + 6 * i + 3 ∨ d = 5 + 6 * i + 4 ∨ d = 5 + 6 * i + 5 := by omega
    rcases cases with e | e | e | e | e | e
    · subst e; exact a hd
    · subst e; exact h2 (Int.dvd_trans ⟨3 + 3 * i, by omega⟩ hd)
    · subst e; exact b hd
    · subst e; exact h2 (Int.dvd_trans ⟨4 + 3 * i, by omega⟩ hd)
    · subst e; exact h3 (Int.dvd_trans ⟨3 + 2 * i, by omega⟩ hd)
    · subst e; exact h2 (Int.dvd_trans ⟨5 + 3 * i, by omega⟩ hd)
theorem noDiv_two {n k : Int} (h2 : ¬ (2 : Int) ∣ n) (h : NoDiv n k) (hk : ∃ i : Int, k = 3 + 2 * i) (a : ¬ k ∣ n) : NoDiv n (k + 2) := fun d d2 dl hd => by
  obtain ⟨i, rfl⟩ := hk
  by_cases c : d < 3 + 2 * i
  · exact h d d2 c hd
  · have cases : d = 3 + 2 * i ∨ d = 3 + 2 * i + 1 := by omega
    rcases cases with e | e
    · subst e; exact a hd
    · subst e; exact h2 (Int.dvd_trans ⟨2 + i, by omega⟩ hd)
/-- the next prime above n -/
structure Next (n q : Int) : Prop where
  lt : n < q
  pr : Prime q
  le : q ≤ PP
  no : ∀ x : Int, n < x → x < q → ¬ Prime x
theorem Next.uniq {n q r : Int} (h : Next n q) (h' : Next n r) : q = r := by
  rcases Int.lt_trichotomy q r with z | z | z
  · exact absurd h.pr (h'.no q h.lt z)
  · exact z
  · exact absurd h'.pr (h.no r h'.lt z)
end My

namespace My
structure RR (m r a x b y : Int) : Prop where
  h1 : m ∣ a - r * x
  h2 : m ∣ b - r * y
  det : (0 < y ∧ x ≤ 0 ∧ a * y - b * x = m) ∨ (y < 0 ∧ 0 ≤ x ∧ a * y - b * x = -m)
  b0 : 0 ≤ b
  ba : b < a
theorem RR.start {m r : Int} (hm : 0 < m) : RR m r m 0 (r.fmod m) 1 := by
  rw [Int.fmod_eq_emod_of_nonneg _ (by omega)]
  have h := Int.mul_ediv_add_emod r m
  refine ⟨⟨1, by omega⟩, ⟨-(r / m), by rw [Int.mul_neg]; omega⟩, .inl ⟨by omega, by omega, by omega⟩, Int.emod_nonneg _ (by omega), Int.emod_lt_of_pos _ hm⟩
theorem RR.bds {m r a x b y : Int} (h : RR m r a x b y) : 0 < a ∧ a ≤ m ∧ y.natAbs ≤ m.natAbs ∧ (0 < b → x.natAbs ≤ m.natAbs) := by
  have hb := h.b0
  have hba := h.ba
  rcases h.det with ⟨y0, x0, e⟩ | ⟨y0, x0, e⟩
  · have p1 := Int.mul_le_mul_of_nonneg_left (show 1 ≤ y by omega) (show 0 ≤ a by omega)
    have p2 := Int.mul_le_mul_of_nonneg_right (show 1 ≤ a by omega) (show 0 ≤ y by omega)
    have p3 := Int.mul_nonneg hb (show 0 ≤ -x by omega)
    rw [Int.mul_neg b] at p3
    refine ⟨by omega, by omega, by omega, fun b1 => ?_⟩
    have p4 := Int.mul_le_mul_of_nonneg_right (show 1 ≤ b by omega) (show 0 ≤ -x by omega)
    rw [Int.mul_neg b] at p4
    omega
  · have p1 := Int.mul_le_mul_of_nonneg_left (show 1 ≤ -y by omega) (show 0 ≤ a by omega)
    have p2 := Int.mul_le_mul_of_nonneg_right (show 1 ≤ a by omega) (show 0 ≤ -y by omega)
    have p3 := Int.mul_nonneg hb x0
    rw [Int.mul_neg a] at p1 p2
    refine ⟨by omega, by omega, by omega, fun b1 => ?_⟩
    have p4 := Int.mul_le_mul_of_nonneg_right (show 1 ≤ b by omega) x0
    omega
theorem RR.step {m r a x b y : Int} (h : RR m r a x b y) (hb : 0 < b) : RR m r b y (a - a / b * b) (x - a / b * y) ∧ a - a / b * b < b ∧ 1 ≤ a / b ∧ a / b ≤ a := by
  have hba := h.ba
  have hm : a - a / b * b = a % b := by
    have := Int.emod_add_mul_ediv a b
    rw [Int.mul_comm b] at this
    omega
  have m0 := Int.emod_nonneg a (show b ≠ 0 by omega)
  have m1 := Int.emod_lt_of_pos a hb
  have q1 : a / b ≤ a := Int.ediv_le_self b (by omega)
  have q0 : 1 ≤ a / b := by
    have := Int.ediv_le_ediv hb (Int.le_of_lt hba)
    rwa [Int.ediv_self (by omega)] at this
  refine ⟨⟨h.h2, ?_, ?_, by omega, by omega⟩, by omega, q0, q1⟩
  · obtain ⟨u, hu⟩ := h.h1
    obtain ⟨v, hv⟩ := h.h2
    exact ⟨u - a / b * v, by grind⟩
  · generalize a / b = q at *
    rcases h.det with ⟨y0, x0, e⟩ | ⟨y0, x0, e⟩
    · right
      have := Int.mul_le_mul_of_nonneg_right q0 (show 0 ≤ y by omega)
      exact ⟨by omega, by omega, by grind⟩
    · left
      have := Int.mul_le_mul_of_nonneg_right q0 (show 0 ≤ -y by omega)
      rw [Int.mul_neg q] at this
      exact ⟨by omega, by omega, by grind⟩
theorem RR.gcd_step {a b q : Int} (h : Int.gcd a b = 1) : Int.gcd b (a - q * b) = 1 := by
  have : Int.gcd b (a - q * b) ∣ 1 := by
    rw [← h]
    have d1 : ((Int.gcd b (a - q * b) : Nat) : Int) ∣ b := Int.gcd_dvd_left ..
    have d2 : ((Int.gcd b (a - q * b) : Nat) : Int) ∣ a - q * b := Int.gcd_dvd_right ..
    refine Int.dvd_gcd ?_ d1
    obtain ⟨u, hu⟩ := d1
    obtain ⟨v, hv⟩ := d2
    exact ⟨v + q * u, by grind⟩
  exact Nat.dvd_one.mp this
/-- n / d is what r stands for modulo m, within the bound B -/
structure Rec (m r B n d : Int) : Prop where
  d0 : 0 < d
  dB : d ≤ B
  n1 : -B ≤ n
  n2 : n ≤ B
  eq : m ∣ n - r * d
  cm : Int.gcd d m = 1
  cn : Int.gcd n d = 1
theorem sq_le {u v B : Int} (u1 : -B ≤ u) (u2 : u ≤ B) (v1 : -B ≤ v) (v2 : v ≤ B) : -(B * B) ≤ u * v ∧ u * v ≤ B * B := by
  have : (u * v).natAbs ≤ B.natAbs * B.natAbs := by
    rw [Int.natAbs_mul]; exact Nat.mul_le_mul (by omega) (by omega)
  have e : ((B.natAbs * B.natAbs : Nat) : Int) = B * B := by
    rw [Int.natCast_mul]
    have : ((B.natAbs : Nat) : Int) = B := by omega
    rw [this]
  omega
theorem near0 {m z : Int} (h : m ∣ z) (h1 : -m < z) (h2 : z < m) : z = 0 := by
  obtain ⟨k, rfl⟩ := h
  rcases Int.lt_trichotomy k 0 with c | c | c
  · have := Int.mul_le_mul_of_nonneg_left (show k ≤ -1 by omega) (show 0 ≤ m by omega)
    omega
  · subst c; simp
  · have := Int.mul_le_mul_of_nonneg_left (show 1 ≤ k by omega) (show 0 ≤ m by omega)
    omega
theorem fracs_eq {a b a' b' : Int} (h : Int.gcd a b = 1) (h' : Int.gcd a' b' = 1) (hb : 0 < b) (hb' : 0 < b') (e : a * b' = a' * b) : a = a' ∧ b = b' := by
  have d1 : b ∣ b' := by
    have : b ∣ a * b' := ⟨a', by rw [e, Int.mul_comm]⟩
    exact dvd_cop (by rw [Int.gcd_comm]; exact h) this
  have d2 : b' ∣ b := by
    have : b' ∣ a' * b := ⟨a, by rw [← e, Int.mul_comm]⟩
    exact dvd_cop (by rw [Int.gcd_comm]; exact h') this
  have eb : b = b' := Int.le_antisymm (Int.le_of_dvd hb' d1) (Int.le_of_dvd hb d2)
  subst eb
  exact ⟨Int.eq_of_mul_eq_mul_right (by omega) e, rfl⟩
theorem cross {m r n d n' d' : Int} (e : m ∣ n - r * d) (e' : m ∣ n' - r * d') : m ∣ n * d' - n' * d := by
  obtain ⟨u, hu⟩ := e
  obtain ⟨v, hv⟩ := e'
  exact ⟨u * d' - v * d, by grind⟩
theorem Rec.uniq {m r B n d n' d' : Int} (h : Rec m r B n d) (h' : Rec m r B n' d') (hB : 2 * B * B < m) : n = n' ∧ d = d' := by
  have a1 := sq_le h.n1 h.n2 (show -B ≤ d' by have := h'.d0; have := h'.dB; omega) h'.dB
  have a2 := sq_le h'.n1 h'.n2 (show -B ≤ d by have := h.d0; have := h.dB; omega) h.dB
  rw [Int.mul_assoc] at hB
  have := near0 (cross h.eq h'.eq) (by omega) (by omega)
  exact fracs_eq h.cn h'.cn h.d0 h'.d0 (by omega)
theorem RR.found {m r a x b y B n d : Int} (h : RR m r a x b y) (hm : 0 < m) (hB : 2 * B * B < m) (ha : B < a) (hb : b ≤ B) (R : Rec m r B n d) : (0 < y → n = b ∧ d = y) ∧ (y < 0 → n = -b ∧ d = -y) := by
  have d0 := R.d0
  have dB := R.dB
  have n1 := R.n1
  have n2 := R.n2
  have b0 := h.b0
  obtain ⟨k, hk⟩ := cross R.eq h.h2
  obtain ⟨l', hl'⟩ := cross R.eq h.h1
  rw [Int.mul_assoc] at hB
  -- n y - b d = m k ;  n x - a d = m l'
  have k0 : k = 0 := by
    by_cases c : -B ≤ y ∧ y ≤ B
    · have a1 := sq_le n1 n2 c.1 c.2
      have a2 := sq_le (show -B ≤ b by omega) hb (show -B ≤ d by omega) dB
      have := near0 (m := m) (z := m * k) ⟨k, rfl⟩ (by omega) (by omega)
      rcases Int.mul_eq_zero.mp this with z | z
      · omega
      · exact z
    · rcases h.det with ⟨y0, x0, e⟩ | ⟨y0, x0, e⟩
      · have en : n = k * a - l' * b := by
          have : m * n = m * (k * a - l' * b) := by grind
          exact Int.eq_of_mul_eq_mul_left (by omega) this
        have ed : d = k * x - l' * y := by
          have : m * d = m * (k * x - l' * y) := by grind
          exact Int.eq_of_mul_eq_mul_left (by omega) this
        rcases Int.lt_trichotomy k 0 with z | z | z
        · have p1 := Int.mul_le_mul_of_nonneg_right (show k ≤ -1 by omega) (show 0 ≤ a by omega)
          rcases Int.lt_or_le l' 0 with w | w
          · have p2 := Int.mul_nonneg (show 0 ≤ -k by omega) (show 0 ≤ -x by omega)
            rw [Int.neg_mul_neg] at p2
            have p3 := Int.mul_le_mul_of_nonneg_right (show l' ≤ -1 by omega) (show 0 ≤ y by omega)
            omega
          · have p2 := Int.mul_nonneg w b0
            omega
        · exact z
        · have p1 := Int.mul_le_mul_of_nonneg_right (show 1 ≤ k by omega) (show 0 ≤ a by omega)
          rcases Int.lt_or_le 0 l' with w | w
          · have p2 := Int.mul_nonneg (show 0 ≤ k by omega) (show 0 ≤ -x by omega)
            rw [Int.mul_neg k] at p2
            have p3 := Int.mul_le_mul_of_nonneg_right (show 1 ≤ l' by omega) (show 0 ≤ y by omega)
            omega
          · have p2 := Int.mul_nonneg (show 0 ≤ -l' by omega) b0
            rw [Int.neg_mul] at p2
            omega
      · have en : n = l' * b - k * a := by
          have : m * n = m * (l' * b - k * a) := by grind
          exact Int.eq_of_mul_eq_mul_left (by omega) this
        have ed : d = l' * y - k * x := by
          have : m * d = m * (l' * y - k * x) := by grind
          exact Int.eq_of_mul_eq_mul_left (by omega) this
        rcases Int.lt_trichotomy k 0 with z | z | z
        · have p1 := Int.mul_le_mul_of_nonneg_right (show k ≤ -1 by omega) (show 0 ≤ a by omega)
          rcases Int.lt_or_le l' 0 with w | w
          · have p2 := Int.mul_nonneg (show 0 ≤ -k by omega) x0
            rw [Int.neg_mul] at p2
            have p3 := Int.mul_nonneg (show 0 ≤ -l' - 1 by omega) (show 0 ≤ -y by omega)
            have p4 : (-l' - 1) * -y = l' * y + y := by grind
            omega
          · have p2 := Int.mul_nonneg w b0
            omega
        · exact z
        · have p1 := Int.mul_le_mul_of_nonneg_right (show 1 ≤ k by omega) (show 0 ≤ a by omega)
          rcases Int.lt_or_le 0 l' with w | w
          · have p2 := Int.mul_nonneg (show 0 ≤ k by omega) x0
            have p3 := Int.mul_nonneg (show 0 ≤ l' by omega) (show 0 ≤ -y by omega)
            rw [Int.mul_neg l'] at p3
            omega
          · have p2 := Int.mul_nonneg (show 0 ≤ -l' by omega) b0
            rw [Int.neg_mul] at p2
            omega
  subst k0
  have e0 : n * y = b * d := by omega
  -- a d - n x = ± m ..., n = l b, d = l y
  have ex : ∃ l : Int, n = l * b ∧ d = l * y := by
    rcases h.det with ⟨y0, x0, e⟩ | ⟨y0, x0, e⟩
    · refine ⟨-l', ?_, ?_⟩
      · have : m * n = m * (-l' * b) := by grind
        exact Int.eq_of_mul_eq_mul_left (by omega) this
      · have : m * d = m * (-l' * y) := by grind
        exact Int.eq_of_mul_eq_mul_left (by omega) this
    · refine ⟨l', ?_, ?_⟩
      · have : m * n = m * (l' * b) := by grind
        exact Int.eq_of_mul_eq_mul_left (by omega) this
      · have : m * d = m * (l' * y) := by grind
        exact Int.eq_of_mul_eq_mul_left (by omega) this
  obtain ⟨l, e1, e2⟩ := ex
  have hl : l.natAbs = 1 := by
    have hc := R.cn
    rw [e1, e2, Int.gcd_mul_left] at hc
    exact Nat.dvd_one.mp ⟨_, hc.symm⟩
  have hl2 : l = 1 ∨ l = -1 := by omega
  rcases hl2 with w | w
  · subst w
    constructor <;> intro _ <;> omega
  · subst w
    constructor <;> intro _ <;> omega
theorem RR.make {m r a x b y B : Int} (h : RR m r a x b y) (hb : b ≤ B) (hy : y.natAbs ≤ B.natAbs) (hB : 0 ≤ B) (hg : Int.gcd y m = 1) : (0 < y → Rec m r B b y) ∧ (y < 0 → Rec m r B (-b) (-y)) := by
  have b0 := h.b0
  have cn : Int.gcd b y = 1 := by
    have : Int.gcd b y ∣ 1 := by
      rw [← hg]
      have d1 : ((Int.gcd b y : Nat) : Int) ∣ b := Int.gcd_dvd_left ..
      have d2 : ((Int.gcd b y : Nat) : Int) ∣ y := Int.gcd_dvd_right ..
      refine Int.dvd_gcd d2 ?_
      obtain ⟨u, hu⟩ := d1
      obtain ⟨v, hv⟩ := d2
      generalize ((Int.gcd b y : Nat) : Int) = g at *
      rcases h.det with ⟨_, _, e⟩ | ⟨_, _, e⟩
      · exact ⟨a * v - u * x, by grind⟩
      · exact ⟨u * x - a * v, by grind⟩
    exact Nat.dvd_one.mp this
  refine ⟨fun y0 => ⟨y0, by omega, by omega, by omega, h.h2, hg, cn⟩, fun y0 => ⟨by omega, by omega, by omega, by omega, ?_, by rw [Int.neg_gcd]; exact hg, by rw [Int.neg_gcd, Int.gcd_neg]; exact cn⟩⟩
  obtain ⟨v, hv⟩ := h.h2
  exact ⟨-v, by grind⟩
end My

namespace My
open Lean.Grind
section
variable {R : Type} [CommRing R]
/-! polynomials as rows of coefficients, and what they are: their coefficients -/
def cf (l : List R) (k : Nat) : R := l.getD k 0
theorem cf_nil (k : Nat) : cf ([] : List R) k = 0 := by simp [cf]
theorem cf_zero (a : R) (l : List R) : cf (a :: l) 0 = a := by simp [cf]
theorem cf_succ (a : R) (l : List R) (k : Nat) : cf (a :: l) (k + 1) = cf l k := by simp [cf]
def padd : List R → List R → List R
  | [], m => m
  | a :: l, [] => a :: l
  | a :: l, b :: m => (a + b) :: padd l m
def psm (a : R) (l : List R) : List R := l.map (a * ·)
def pmul : List R → List R → List R
  | [], _ => []
  | a :: l, m => padd (psm a m) (0 :: pmul l m)
def PE (l m : List R) : Prop := ∀ k, cf l k = cf m k
theorem cf_add : ∀ (l m : List R) (k : Nat), cf (padd l m) k = cf l k + cf m k
  | [], m, k => by rw [padd, cf_nil]; grind
  | a :: l, [], k => by rw [padd, cf_nil]; grind
  | a :: l, b :: m, 0 => by rw [padd, cf_zero, cf_zero, cf_zero]
  | a :: l, b :: m, k + 1 => by rw [padd, cf_succ, cf_succ, cf_succ, cf_add l m k]
theorem cf_sm (a : R) : ∀ (l : List R) (k : Nat), cf (psm a l) k = a * cf l k
  | [], k => by show cf ([] : List R) k = _; rw [cf_nil]; grind
  | b :: l, 0 => by show cf (a * b :: psm a l) 0 = _; rw [cf_zero, cf_zero]
  | b :: l, k + 1 => by show cf (a * b :: psm a l) (k + 1) = _; rw [cf_succ, cf_succ, cf_sm a l k]
theorem cm0 (a : R) (l m : List R) : cf (pmul (a :: l) m) 0 = a * cf m 0 := by rw [pmul, cf_add, cf_sm, cf_zero]; grind
theorem cms (a : R) (l m : List R) (k : Nat) : cf (pmul (a :: l) m) (k + 1) = a * cf m (k + 1) + cf (pmul l m) k := by rw [pmul, cf_add, cf_sm, cf_succ]
theorem cmn (m : List R) (k : Nat) : cf (pmul [] m) k = 0 := by rw [pmul, cf_nil]
theorem mul_congr : ∀ (l m m' : List R), PE m m' → PE (pmul l m) (pmul l m')
  | [], m, m', h, k => by rw [cmn, cmn]
  | a :: l, m, m', h, 0 => by rw [cm0, cm0, h 0]
  | a :: l, m, m', h, k + 1 => by rw [cms, cms, h (k + 1), mul_congr l m m' h k]
theorem mul_padd : ∀ (l m n : List R) (k : Nat), cf (pmul l (padd m n)) k = cf (pmul l m) k + cf (pmul l n) k
  | [], m, n, k => by rw [cmn, cmn, cmn]; grind
  | a :: l, m, n, 0 => by rw [cm0, cm0, cm0, cf_add]; grind
  | a :: l, m, n, k + 1 => by rw [cms, cms, cms, cf_add, mul_padd l m n k]; grind
theorem mul_psm (c : R) : ∀ (l m : List R) (k : Nat), cf (pmul l (psm c m)) k = c * cf (pmul l m) k
  | [], m, k => by rw [cmn, cmn]; grind
  | a :: l, m, 0 => by rw [cm0, cm0, cf_sm]; grind
  | a :: l, m, k + 1 => by rw [cms, cms, cf_sm, mul_psm c l m k]; grind
theorem mul_sh0 : ∀ (l m : List R), cf (pmul l (0 :: m)) 0 = 0
  | [], m => by rw [cmn]
  | a :: l, m => by rw [cm0, cf_zero]; grind
theorem mul_sh : ∀ (l m : List R) (k : Nat), cf (pmul l (0 :: m)) (k + 1) = cf (pmul l m) k
  | [], m, k => by rw [cmn, cmn]
  | a :: l, m, 0 => by rw [cms, cf_succ, mul_sh0, cm0]; grind
  | a :: l, m, k + 1 => by rw [cms, cf_succ, mul_sh l m k, cms]
theorem mul_one1 (a : R) : ∀ (l : List R) (k : Nat), cf (pmul l [a]) k = a * cf l k
  | [], k => by rw [cmn, cf_nil]; grind
  | b :: l, 0 => by rw [cm0, cf_zero, cf_zero]; grind
  | b :: l, k + 1 => by rw [cms, cf_succ, cf_nil, mul_one1 a l k, cf_succ]; grind
theorem mul_cons (a : R) (l m : List R) : PE (pmul m (a :: l)) (padd (psm a m) (0 :: pmul m l)) := fun k => by
  have e : PE (a :: l) (padd [a] (0 :: l)) := fun k => by
    cases k with
    | zero => rw [cf_add, cf_zero, cf_zero, cf_zero]; grind
    | succ k => rw [cf_add, cf_succ, cf_succ, cf_succ, cf_nil]; grind
  rw [mul_congr m _ _ e k, mul_padd, mul_one1, cf_add, cf_sm]
  cases k with
  | zero => rw [mul_sh0, cf_zero]
  | succ k => rw [mul_sh, cf_succ]
theorem mul_comm' : ∀ (l m : List R), PE (pmul l m) (pmul m l)
  | [], m, k => by
    rw [cmn]
    induction m generalizing k with
    | nil => rw [cmn]
    | cons b m ih => cases k with
      | zero => rw [cm0, cf_nil]; grind
      | succ k => rw [cms, cf_nil, ← ih k]; grind
  | a :: l, m, k => by
    rw [mul_cons a l m k, pmul, cf_add, cf_add]
    cases k with
    | zero => rw [cf_zero, cf_zero]
    | succ k => rw [cf_succ, cf_succ, mul_comm' l m k]
theorem mul_congr2 {l l' m m' : List R} (h : PE l l') (h' : PE m m') : PE (pmul l m) (pmul l' m') := fun k => by
  rw [mul_congr l m m' h' k, mul_comm' l m' k, mul_congr m' l l' h k, mul_comm' m' l' k]
theorem add_congr2 {l l' m m' : List R} (h : PE l l') (h' : PE m m') : PE (padd l m) (padd l' m') := fun k => by rw [cf_add, cf_add, h k, h' k]
theorem padd_mul (l m n : List R) : PE (pmul (padd l m) n) (padd (pmul l n) (pmul m n)) := fun k => by
  rw [mul_comm' _ n k, mul_padd, cf_add, mul_comm' n l k, mul_comm' n m k]
theorem psm_mul (c : R) (l m : List R) (k : Nat) : cf (pmul (psm c l) m) k = c * cf (pmul l m) k := by
  rw [mul_comm' _ m k, mul_psm, mul_comm' m l k]
theorem mul_assoc' : ∀ (l m n : List R), PE (pmul (pmul l m) n) (pmul l (pmul m n))
  | [], m, n, k => rfl
  | a :: l, m, n, k => by
    rw [pmul, padd_mul _ _ n k, cf_add, psm_mul]
    cases k with
    | zero => rw [cm0, cm0]; grind
    | succ k => rw [cms, cms, mul_assoc' l m n k]; grind
/-! the rows without trailing zeros -/
variable [DecidableEq R]
def trim : List R → List R
  | [] => []
  | a :: l => match trim l with
    | [] => if a = 0 then [] else [a]
    | b :: m => a :: b :: m
theorem cf_trim : ∀ (l : List R) (k : Nat), cf (trim l) k = cf l k
  | [], k => rfl
  | a :: l, k => by
    have ih := fun j => cf_trim l j
    unfold trim
    split
    · next e =>
      rw [e] at ih
      split
      · next z =>
        subst z
        cases k with
        | zero => rw [cf_nil, cf_zero]
        | succ k => rw [cf_nil, cf_succ, ← ih k, cf_nil]
      · cases k with
        | zero => rw [cf_zero, cf_zero]
        | succ k => rw [cf_succ, cf_succ, ← ih k]
    · next b m e =>
      rw [e] at ih
      cases k with
      | zero => rw [cf_zero, cf_zero]
      | succ k => rw [cf_succ, cf_succ, ← ih k]
theorem trim_zero : ∀ (l : List R), (∀ k, cf l k = 0) → trim l = []
  | [], _ => rfl
  | a :: l, h => by
    have h0 := h 0
    rw [cf_zero] at h0
    have := trim_zero l fun k => by have := h (k + 1); rwa [cf_succ] at this
    unfold trim
    rw [this]
    simp [h0]
theorem trim_ext : ∀ (l m : List R), PE l m → trim l = trim m
  | [], m, h => (trim_zero m fun k => by rw [← h k, cf_nil]).symm
  | a :: l, [], h => trim_zero _ fun k => by rw [h k, cf_nil]
  | a :: l, b :: m, h => by
    have h0 := h 0
    rw [cf_zero, cf_zero] at h0
    have := trim_ext l m fun k => by have := h (k + 1); rwa [cf_succ, cf_succ] at this
    unfold trim
    rw [this, h0]
theorem trim_idem (l : List R) : trim (trim l) = trim l := trim_ext _ _ (cf_trim l)
theorem trim_pe (l : List R) : PE (trim l) l := cf_trim l
end
/-- the polynomials over R -/
structure Pol (R : Type) [CommRing R] [DecidableEq R] where
  l : List R
  ok : trim l = l
section
variable {R : Type} [CommRing R] [DecidableEq R]
def Pol.of (l : List R) : Pol R := ⟨trim l, trim_idem l⟩
theorem Pol.ext' {p q : Pol R} (h : PE p.l q.l) : p = q := by
  have := trim_ext _ _ h
  rw [p.ok, q.ok] at this
  cases p; cases q; simp_all
theorem Pol.of_eq {l m : List R} (h : PE l m) : Pol.of l = Pol.of m := by
  unfold Pol.of
  simp only [Pol.mk.injEq]
  exact trim_ext _ _ h
theorem Pol.of_l (p : Pol R) : Pol.of p.l = p := by
  unfold Pol.of
  cases p; simp_all
theorem pe_of (l : List R) : PE (Pol.of l).l l := cf_trim l
theorem cf_one (n : Nat) (a : R) : cf [a] (n + 1) = 0 := by rw [cf_succ, cf_nil]
instance : Add (Pol R) := ⟨fun p q => Pol.of (padd p.l q.l)⟩
instance : Mul (Pol R) := ⟨fun p q => Pol.of (pmul p.l q.l)⟩
instance : Neg (Pol R) := ⟨fun p => Pol.of (psm (-1) p.l)⟩
theorem Pol.cadd (p q : Pol R) (k : Nat) : cf (p + q).l k = cf p.l k + cf q.l k := by rw [← cf_add]; exact pe_of _ k
theorem Pol.cneg (p : Pol R) (k : Nat) : cf (-p).l k = - cf p.l k := by
  have : cf (-p).l k = (-1) * cf p.l k := by rw [← cf_sm]; exact pe_of _ k
  rw [this]; grind
theorem Pol.cmul (p q : Pol R) (k : Nat) : cf (p * q).l k = cf (pmul p.l q.l) k := pe_of _ k
def Pol.C (a : R) : Pol R := Pol.of [a]
theorem Pol.cC (a : R) (k : Nat) : cf (Pol.C a).l k = if k = 0 then a else 0 := by
  rw [Pol.C, pe_of]
  cases k with
  | zero => rw [cf_zero]; rfl
  | succ k => rw [cf_one]; rfl
theorem Pol.mulC (p : Pol R) (a : R) (k : Nat) : cf (p * Pol.C a).l k = a * cf p.l k := by
  have e : cf (pmul p.l (Pol.C a).l) k = cf (pmul p.l [a]) k := mul_congr _ _ _ (pe_of [a]) k
  rw [Pol.cmul, e, mul_one1]
theorem Pol.mul_comm (p q : Pol R) : p * q = q * p := Pol.ext' fun k => by rw [Pol.cmul, Pol.cmul, mul_comm' _ _ k]
theorem Pol.Cmul (p : Pol R) (a : R) (k : Nat) : cf (Pol.C a * p).l k = a * cf p.l k := by rw [Pol.mul_comm, Pol.mulC]
def Pol.npow (p : Pol R) : Nat → Pol R
  | 0 => Pol.C 1
  | n + 1 => Pol.npow p n * p
local instance iNat1 {R : Type} [Semiring R] : NatCast R := Semiring.natCast
local instance iInt1 {R : Type} [Ring R] : IntCast R := Ring.intCast
theorem Pol.C_ext {a b : R} (h : a = b) : Pol.C a = Pol.C b := by rw [h]
instance : CommRing (Pol R) where
  natCast := ⟨fun n => Pol.C (n : R)⟩
  ofNat n := ⟨Pol.C (n : R)⟩
  nsmul := ⟨fun n p => Pol.C (n : R) * p⟩
  npow := ⟨fun p n => p.npow n⟩
  sub p q := p + -q
  intCast := ⟨fun n => Pol.C (n : R)⟩
  zsmul := ⟨fun n p => Pol.C (n : R) * p⟩
  add_zero p := Pol.ext' fun k => by
    show cf (p + Pol.C ((0 : Nat) : R)).l k = _
    rw [Pol.cadd, Pol.cC, Semiring.natCast_zero]
    split <;> grind
  add_comm p q := Pol.ext' fun k => by rw [Pol.cadd, Pol.cadd]; grind
  add_assoc p q r := Pol.ext' fun k => by rw [Pol.cadd, Pol.cadd, Pol.cadd, Pol.cadd]; grind
  mul_assoc p q r := Pol.ext' fun k => by
    rw [Pol.cmul, Pol.cmul, mul_congr2 (Pol.cmul p q) (fun _ => rfl) k, mul_assoc' _ _ _ k]
    exact (mul_congr2 (fun _ => rfl) (Pol.cmul q r) k).symm
  mul_one p := Pol.ext' fun k => by
    show cf (p * Pol.C ((1 : Nat) : R)).l k = _
    rw [Pol.mulC, Semiring.natCast_one]; grind
  one_mul p := Pol.ext' fun k => by
    show cf (Pol.C ((1 : Nat) : R) * p).l k = _
    rw [Pol.Cmul, Semiring.natCast_one]; grind
  left_distrib p q r := Pol.ext' fun k => by rw [Pol.cmul, Pol.cadd, mul_congr _ _ _ (Pol.cadd q r · |>.trans (cf_add _ _ _).symm) k, mul_padd, Pol.cmul, Pol.cmul]
  right_distrib p q r := by
    rw [Pol.mul_comm (p + q) r, Pol.mul_comm p r, Pol.mul_comm q r]
    exact Pol.ext' fun k => by rw [Pol.cmul, Pol.cadd, mul_congr _ _ _ (Pol.cadd p q · |>.trans (cf_add _ _ _).symm) k, mul_padd, Pol.cmul, Pol.cmul]
  zero_mul p := Pol.ext' fun k => by
    show cf (Pol.C ((0 : Nat) : R) * p).l k = cf (Pol.C ((0 : Nat) : R)).l k
    rw [Pol.Cmul, Pol.cC, Semiring.natCast_zero]
    split <;> grind
  mul_zero p := Pol.ext' fun k => by
    show cf (p * Pol.C ((0 : Nat) : R)).l k = cf (Pol.C ((0 : Nat) : R)).l k
    rw [Pol.mulC, Pol.cC, Semiring.natCast_zero]
    split <;> grind
  pow_zero p := Pol.C_ext Semiring.natCast_one.symm
  pow_succ p n := rfl
  ofNat_succ n := Pol.ext' fun k => by
    show cf (Pol.C ((n + 1 : Nat) : R)).l k = cf (Pol.C ((n : Nat) : R) + Pol.C ((1 : Nat) : R)).l k
    rw [Pol.cadd, Pol.cC, Pol.cC, Pol.cC]
    split
    · exact Semiring.natCast_add n 1
    · grind
  ofNat_eq_natCast n := rfl
  nsmul_eq_natCast_mul n p := rfl
  neg_add_cancel p := Pol.ext' fun k => by
    show _ = cf (Pol.C ((0 : Nat) : R)).l k
    rw [Pol.cadd, Pol.cneg, Pol.cC, Semiring.natCast_zero]
    split <;> grind
  sub_eq_add_neg p q := rfl
  neg_zsmul n p := Pol.ext' fun k => by
    show cf (Pol.C ((-n : Int) : R) * p).l k = cf (-(Pol.C ((n : Int) : R) * p)).l k
    rw [Pol.cneg, Pol.Cmul, Pol.Cmul, Ring.intCast_neg]; grind
  zsmul_natCast_eq_nsmul n p := by
    show Pol.C (((n : Nat) : Int) : R) * p = Pol.C ((n : Nat) : R) * p
    rw [Ring.intCast_natCast]
  intCast_ofNat n := by
    show Pol.C (((n : Nat) : Int) : R) = Pol.C ((n : Nat) : R)
    rw [Ring.intCast_natCast]
  intCast_neg n := Pol.ext' fun k => by
    show cf (Pol.C ((-n : Int) : R)).l k = cf (-Pol.C ((n : Int) : R)).l k
    rw [Pol.cneg, Pol.cC, Pol.cC, Ring.intCast_neg]
    split <;> grind
  mul_comm p q := Pol.mul_comm p q
end
section
variable {R : Type} [CommRing R] [DecidableEq R]
example (p q r : Pol R) : (p + q) * r = r * p + r * q := by grind
end
end My

namespace My
open PySem PySem.Spec PyProof.Rows L2 DL Lean.Grind
/-! the fields, the domains, and their values as data -/
inductive Fld where
  | Q
  | F (n : Nat)
def Fld.C : Fld → Type
  | .Q => Rat
  | .F n => Fin (n + 2)
instance : (f : Fld) → CommRing f.C
  | .Q => inferInstanceAs (CommRing Rat)
  | .F n => inferInstanceAs (CommRing (Fin (n + 2)))
instance : (f : Fld) → DecidableEq f.C
  | .Q => inferInstanceAs (DecidableEq Rat)
  | .F n => inferInstanceAs (DecidableEq (Fin (n + 2)))
def Fld.enc : Fld → D
  | .Q => .tuple [.str tQ]
  | .F n => .tuple [.str tF, .int (n + 2 : Nat)]
def Fld.el : (f : Fld) → f.C → D
  | .Q, (q : Rat) => .tuple [.int q.num, .int (q.den : Nat)]
  | .F n, (a : Fin (n + 2)) => .int (a.val : Nat)
/-- the modulus is one that the system takes -/
def Fld.Ok : Fld → Prop
  | .Q => True
  | .F n => Prime ((n + 2 : Nat) : Int) ∧ n + 2 ≤ 65521
inductive Dom where
  | Z
  | K (f : Fld)
  | P (f : Fld)
def Dom.C : Dom → Type
  | .Z => Int
  | .K f => f.C
  | .P f => Pol f.C
instance : (d : Dom) → CommRing d.C
  | .Z => inferInstanceAs (CommRing Int)
  | .K f => inferInstanceAs (CommRing f.C)
  | .P f => inferInstanceAs (CommRing (Pol f.C))
instance {R : Type} [CommRing R] [DecidableEq R] : DecidableEq (Pol R) := fun p q => decidable_of_iff (p.l = q.l) ⟨fun h => by cases p; cases q; cases h; rfl, fun h => h ▸ rfl⟩
instance : (d : Dom) → DecidableEq d.C
  | .Z => inferInstanceAs (DecidableEq Int)
  | .K f => inferInstanceAs (DecidableEq f.C)
  | .P f => inferInstanceAs (DecidableEq (Pol f.C))
def Dom.enc : Dom → D
  | .Z => .tuple [.str tZ]
  | .K f => f.enc
  | .P f => .tuple [.str tP, f.enc]
def Dom.el : (d : Dom) → d.C → D
  | .Z, (n : Int) => .int n
  | .K f, x => f.el x
  | .P f, (p : Pol f.C) => .tuple (p.l.map f.el)
def Dom.Ok : Dom → Prop
  | .Z => True
  | .K f => f.Ok
  | .P f => f.Ok
/-! ## equality -/
theorem Fld.el_plain (f : Fld) (x : f.C) : (f.el x).plain = true := by cases f <;> simp [Fld.el, PyData.plain, PyData.plainAll]
theorem Fld.el_depth (f : Fld) (x : f.C) : (f.el x).depth ≤ 2 := by cases f <;> simp [Fld.el, PyData.depth, PyData.depthAll]
theorem Fld.el_eqv (f : Fld) (x y : f.C) : PyData.eqv (f.el x) (f.el y) = decide (x = y) := by
  cases f with
  | Q =>
    have : (x = y) = (Rat.num x = Rat.num y ∧ Rat.den x = Rat.den y) := propext ⟨fun h => h ▸ ⟨rfl, rfl⟩, fun h => Rat.ext h.1 h.2⟩
    simp only [Fld.el, PyData.eqv, PyData.eqvAll, this, Bool.and_true, Bool.beq_eq_decide_eq, Bool.decide_and]
    congr 1
    exact decide_eq_decide.mpr Int.ofNat_inj
  | F n =>
    have : (x = y) = (Fin.val x = Fin.val y) := propext ⟨fun h => h ▸ rfl, fun h => Fin.ext h⟩
    simp only [Fld.el, PyData.eqv, this, Bool.beq_eq_decide_eq]
    exact decide_eq_decide.mpr Int.ofNat_inj
theorem Fld.els_plain (f : Fld) : ∀ l : List f.C, PyData.plainAll (l.map f.el) = true
  | [] => rfl
  | a :: l => by simp [PyData.plainAll, f.el_plain a, Fld.els_plain f l]
theorem Fld.els_depth (f : Fld) : ∀ l : List f.C, PyData.depthAll (l.map f.el) ≤ 2
  | [] => by simp [PyData.depthAll]
  | a :: l => by
    have := f.el_depth a
    have := Fld.els_depth f l
    simp only [List.map, PyData.depthAll]
    omega
theorem Fld.els_eqv (f : Fld) : ∀ l m : List f.C, PyData.eqvAll (l.map f.el) (m.map f.el) = decide (l = m)
  | [], [] => by simp [PyData.eqvAll]
  | [], b :: m => by simp [PyData.eqvAll]
  | a :: l, [] => by simp [PyData.eqvAll]
  | a :: l, b :: m => by
    simp only [List.map, PyData.eqvAll, f.el_eqv, Fld.els_eqv f l m, List.cons.injEq, Bool.decide_and]
theorem Dom.el_plain (d : Dom) (x : d.C) : (d.el x).plain = true := by
  cases d with
  | Z => rfl
  | K f => exact f.el_plain x
  | P f => simp [Dom.el, PyData.plain, f.els_plain]
theorem Dom.el_depth (d : Dom) (x : d.C) : (d.el x).depth ≤ 3 := by
  cases d with
  | Z => simp [Dom.el, PyData.depth]
  | K f => have := f.el_depth x; simp only [Dom.el]; omega
  | P f => have := f.els_depth (Pol.l x); simp only [Dom.el, PyData.depth]; omega
theorem Dom.el_eqv (d : Dom) (x y : d.C) : PyData.eqv (d.el x) (d.el y) = decide (x = y) := by
  cases d with
  | Z =>
    simp only [Dom.el, PyData.eqv]
    exact Bool.beq_eq_decide_eq (α := Int) x y
  | K f => exact f.el_eqv x y
  | P f =>
    have : (x = y) = (Pol.l x = Pol.l y) := propext ⟨fun h => h ▸ rfl, fun h => by cases x; cases y; cases h; rfl⟩
    simp only [Dom.el, PyData.eqv, f.els_eqv, this]
theorem dEq_el (d : Dom) {x y : d.C} {P : D → Prop} : dEq (d.el x) (d.el y) P = P (.bool (decide (x = y))) := dEq_of ⟨d.el_plain x, d.el_plain y, .inl (by have := d.el_depth x; omega)⟩ (d.el_eqv x y)
theorem dNe_el (d : Dom) {x y : d.C} {P : D → Prop} : dNe (d.el x) (d.el y) P = P (.bool (!decide (x = y))) := dNe_of ⟨d.el_plain x, d.el_plain y, .inl (by have := d.el_depth x; omega)⟩ (d.el_eqv x y)
theorem dEq_fel (f : Fld) {x y : f.C} {P : D → Prop} : dEq (f.el x) (f.el y) P = P (.bool (decide (x = y))) := dEq_el (.K f)
theorem dNe_fel (f : Fld) {x y : f.C} {P : D → Prop} : dNe (f.el x) (f.el y) P = P (.bool (!decide (x = y))) := dNe_el (.K f)
/-! ## fractions -/
theorem rat_den (q : Rat) : q * (q.den : Rat) = (q.num : Rat) := by
  have h := Rat.mkRat_eq_div q.num q.den
  rw [Rat.mkRat_self] at h
  have hd : (q.den : Rat) ≠ 0 := fun z => by
    have := q.den_pos
    have : q.den = 0 := Rat.natCast_eq_zero_iff.mp z
    omega
  generalize (q.den : Rat) = d at *
  generalize (q.num : Rat) = n at *
  rw [h]
  exact Rat.div_mul_cancel hd
theorem rat_mul_eq {q : Rat} {n m : Int} (e : q * (m : Rat) = (n : Rat)) : q.num * m = n * (q.den : Nat) := by
  have h := rat_den q
  have : ((q.num * m : Int) : Rat) = ((n * (q.den : Nat) : Int) : Rat) := by
    rw [Rat.intCast_mul, Rat.intCast_mul, ← h, ← e, Rat.intCast_natCast]
    grind
  exact Rat.intCast_inj.mp this
theorem rat_frac {n m a b : Int} (h : Frac n m a b) (hm : m ≠ 0) {q : Rat} (e : q * (m : Rat) = (n : Rat)) : a = q.num ∧ b = (q.den : Nat) := by
  have h1 := rat_mul_eq e
  have h2 := h.eq
  have hd := q.den_pos
  have c : Int.gcd q.num (q.den : Nat) = 1 := by
    have := q.reduced
    show Nat.gcd q.num.natAbs ((q.den : Nat) : Int).natAbs = 1
    simpa using this
  refine fracs_eq h.cop c h.pos (by omega) ?_
  have : m * (a * (q.den : Nat)) = m * (q.num * b) := by grind
  exact Int.eq_of_mul_eq_mul_left hm this
theorem rat_add (x y : Rat) : (x + y) * ((x.den * y.den : Int) : Rat) = ((x.num * y.den + y.num * x.den : Int) : Rat) := by
  have h := rat_den x
  have h' := rat_den y
  simp only [Rat.intCast_mul, Rat.intCast_add, Rat.intCast_natCast]
  rw [← h, ← h']
  grind
theorem rat_mul (x y : Rat) : (x * y) * ((x.den * y.den : Int) : Rat) = ((x.num * y.num : Int) : Rat) := by
  have h := rat_den x
  have h' := rat_den y
  simp only [Rat.intCast_mul, Rat.intCast_natCast]
  rw [← h, ← h']
  grind
end My
namespace My
open PySem PySem.Spec PyProof.Rows L2 DL Lean.Grind
theorem Fld.enc_inj {f g : Fld} (h : f.enc = g.enc) : f = g := by
  cases f <;> cases g <;> simp [Fld.enc] at h ⊢
  omega
theorem Fld.enc_len (f : Fld) : ∃ l, f.enc = .tuple l := by cases f <;> exact ⟨_, rfl⟩
theorem s_ne {a b : Str} (h : (a == b) = false) : ¬ a = b := fun e => by subst e; simp at h
theorem Dom.enc_inj {d e : Dom} (h : d.enc = e.enc) : d = e := by
  cases d with
  | Z => cases e with
    | Z => rfl
    | K g => cases g <;> simp [Dom.enc, Fld.enc] at h
             exact absurd h (s_ne s_ZQ)
    | P g => simp [Dom.enc] at h
  | K f => cases e with
    | Z => cases f <;> simp [Dom.enc, Fld.enc] at h
           exact absurd h (s_ne s_QZ)
    | K g => rw [Fld.enc_inj h]
    | P g => cases f with
      | Q => simp [Dom.enc, Fld.enc] at h
      | F n => cases g <;> simp [Dom.enc, Fld.enc] at h
  | P f => cases e with
    | Z => simp [Dom.enc] at h
    | K g => cases g with
      | Q => simp [Dom.enc, Fld.enc] at h
      | F n => cases f <;> simp [Dom.enc, Fld.enc] at h
    | P g =>
      simp only [Dom.enc, PyData.tuple.injEq, List.cons.injEq, and_true, true_and] at h
      rw [Fld.enc_inj h]
theorem Fld.el_inj {f : Fld} {x y : f.C} (h : f.el x = f.el y) : x = y := by
  have := f.el_eqv x y
  rw [h, f.el_eqv y y] at this
  simpa using this.symm
theorem Fld.els_inj {f : Fld} : ∀ {l m : List f.C}, l.map f.el = m.map f.el → l = m
  | [], [], _ => rfl
  | [], b :: m, h => by simp at h
  | a :: l, [], h => by simp at h
  | a :: l, b :: m, h => by
    simp only [List.map, List.cons.injEq] at h
    rw [Fld.el_inj h.1, Fld.els_inj h.2]
theorem Dom.el_inj {d : Dom} {x y : d.C} (h : d.el x = d.el y) : x = y := by
  have := d.el_eqv x y
  rw [h, d.el_eqv y y] at this
  simpa using this.symm
local instance iNat2 {R : Type} [Semiring R] : NatCast R := Semiring.natCast
local instance iInt2 {R : Type} [Ring R] : IntCast R := Ring.intCast
theorem Pol.zero_l {R : Type} [CommRing R] [DecidableEq R] : (0 : Pol R).l = [] := by
  show trim [((0 : Nat) : R)] = []
  exact trim_zero _ fun k => by
    cases k with
    | zero => rw [cf_zero]; exact Semiring.natCast_zero
    | succ k => exact cf_one ..
theorem part_inj {f f' : Fld} {l : List f.C} {l' : List f'.C} {k k' : Nat} (h : ([f.enc, .tuple (l.map f.el), .int k] : List D) = [f'.enc, .tuple (l'.map f'.el), .int k']) : ∃ e : f = f', e ▸ l = l' ∧ k = k' := by
  simp only [List.cons.injEq, PyData.tuple.injEq, PyData.int.injEq, and_true] at h
  have e := Fld.enc_inj h.1
  subst e
  exact ⟨rfl, Fld.els_inj h.2.1, by omega⟩
end My
namespace My
open PySem PySem.Spec PyProof.Rows L2 DL Lean.Grind
theorem Dom.zero_P (f : Fld) : (Dom.P f).el 0 = .tuple [] := by
  show PyData.tuple ((0 : Pol f.C).l.map f.el) = _
  rw [Pol.zero_l]
  rfl
theorem Dom.el_of (f : Fld) (l : List f.C) : (Dom.P f).el (Pol.of l) = .tuple ((trim l).map f.el) := rfl
section
variable {R : Type} [CommRing R] [DecidableEq R]
theorem cf_take (l : List R) (m j : Nat) : cf (l.take m) j = if j < m then cf l j else 0 := by
  unfold cf
  rw [List.getD_eq_getElem?_getD, List.getElem?_take, List.getD_eq_getElem?_getD]
  split <;> rfl
theorem trim_take {l : List R} {m : Nat} (h : cf l m = 0) : trim (l.take (m + 1)) = trim (l.take m) := trim_ext _ _ fun j => by
  rw [cf_take, cf_take]
  by_cases c : j < m
  · rw [if_pos c, if_pos (by omega)]
  · rw [if_neg c]
    by_cases e : j = m
    · subst e; rw [if_pos (by omega), h]
    · rw [if_neg (by omega)]
theorem trim_full : ∀ (l : List R), (l ≠ [] → cf l (l.length - 1) ≠ 0) → trim l = l
  | [], _ => rfl
  | [a], h => by
    have : a ≠ 0 := by simpa [cf] using h (by simp)
    simp [trim, this]
  | a :: b :: l, h => by
    have ih := trim_full (b :: l) fun _ => by
      have := h (by simp)
      simpa [cf] using this
    unfold trim
    rw [ih]
end
end My
namespace My
open PySem PySem.Spec PyProof.Rows L2 DL Lean.Grind
/-! whole numbers as values -/
def Fld.num : (f : Fld) → Int → f.C
  | .Q, n => (n : Rat)
  | .F m, n => Fin.ofNat (m + 2) (n % ((m + 2 : Nat) : Int)).toNat
def Dom.num : (d : Dom) → Int → d.C
  | .Z, n => n
  | .K f, n => f.num n
  | .P f, n => Pol.of [f.num n]
def Dom.flat : Dom → Prop
  | .P _ => False
  | _ => True
theorem fin_mod {m : Nat} {n : Int} : n.fmod ((m + 2 : Nat) : Int) = ((Fin.ofNat (m + 2) (n % ((m + 2 : Nat) : Int)).toNat).val : Nat) := by
  rw [Int.fmod_eq_emod_of_nonneg _ (by omega)]
  have h1 := Int.emod_nonneg n (show ((m + 2 : Nat) : Int) ≠ 0 by omega)
  have h2 := Int.emod_lt_of_pos n (show (0 : Int) < ((m + 2 : Nat) : Int) by omega)
  simp only [Fin.ofNat]
  rw [Nat.mod_eq_of_lt (by omega)]
  omega
theorem Fld.el_num_F (m : Nat) (n : Int) : (Fld.F m).el ((Fld.F m).num n) = .int (n.fmod ((m + 2 : Nat) : Int)) := by
  rw [fin_mod]
  rfl
theorem Fld.el_num_Q (n : Int) : Fld.Q.el (Fld.Q.num n) = .tuple [.int n, .int 1] := rfl
/-- the parts of a fraction are below 2 ^ h -/
def Fld.Small (h : Nat) : (f : Fld) → f.C → Prop
  | .Q, (q : Rat) => q.num.natAbs < 2 ^ h ∧ q.den < 2 ^ h
  | .F _, _ => True
theorem Fld.add_F {m : Nat} (x y : (Fld.F m).C) : (Fld.F m).el (x + y) = .int ((((x : Fin (m + 2)).val : Int) + ((y : Fin (m + 2)).val : Int)).fmod ((m + 2 : Nat) : Int)) := by
  rw [Int.fmod_eq_emod_of_nonneg _ (by omega)]
  rfl
theorem Fld.mul_F {m : Nat} (x y : (Fld.F m).C) : (Fld.F m).el (x * y) = .int ((((x : Fin (m + 2)).val : Int) * ((y : Fin (m + 2)).val : Int)).fmod ((m + 2 : Nat) : Int)) := by
  rw [Int.fmod_eq_emod_of_nonneg _ (by omega)]
  rfl
theorem Fld.add_Q {x y : Rat} {a b : Int} (h : Frac (x.num * y.den + y.num * x.den) (x.den * y.den) a b) : PyData.tuple [.int a, .int b] = Fld.Q.el (x + y : Rat) := by
  have hx := x.den_pos
  have hy := y.den_pos
  obtain ⟨rfl, rfl⟩ := rat_frac h (Int.mul_ne_zero (by omega) (by omega)) (rat_add x y)
  rfl
theorem Fld.mul_Q {x y : Rat} {a b : Int} (h : Frac (x.num * y.num) (x.den * y.den) a b) : PyData.tuple [.int a, .int b] = Fld.Q.el (x * y : Rat) := by
  have hx := x.den_pos
  have hy := y.den_pos
  obtain ⟨rfl, rfl⟩ := rat_frac h (Int.mul_ne_zero (by omega) (by omega)) (rat_mul x y)
  rfl
theorem dxy_inj {d d' : Dom} {x y : d.C} {x' y' : d'.C} (h : ([d.enc, d.el x, d.el y] : List D) = [d'.enc, d'.el x', d'.el y']) : ∃ e : d = d', e ▸ x = x' ∧ e ▸ y = y' := by
  simp only [List.cons.injEq, and_true] at h
  have e := Dom.enc_inj h.1
  subst e
  exact ⟨rfl, Dom.el_inj h.2.1, Dom.el_inj h.2.2⟩
theorem dn_inj {d d' : Dom} {n n' : Int} (h : ([d.enc, .int n] : List D) = [d'.enc, .int n']) : d = d' ∧ n = n' := by
  simp only [List.cons.injEq, PyData.int.injEq, and_true] at h
  exact ⟨Dom.enc_inj h.1, h.2⟩
end My
namespace My
open PySem PySem.Spec PyProof.Rows L2 DL Lean.Grind
theorem cf_map_range {R : Type} [CommRing R] (h : Nat → R) (N k : Nat) : cf ((List.range N).map h) k = if k < N then h k else 0 := by
  unfold cf
  rw [List.getD_eq_getElem?_getD, List.getElem?_map]
  by_cases c : k < N
  · rw [List.getElem?_range c, if_pos c]; rfl
  · rw [List.getElem?_eq_none (by simpa using c), if_neg c]; rfl
theorem cf_out {R : Type} [CommRing R] {l : List R} {k : Nat} (h : l.length ≤ k) : cf l k = 0 := by
  unfold cf
  rw [List.getD_eq_getElem?_getD, List.getElem?_eq_none h]; rfl
theorem map_el (f : Fld) (h : Nat → f.C) (N : Nat) : (List.range N).map (fun k => f.el (h k)) = ((List.range N).map h).map f.el := by rw [List.map_map]; rfl
end My
namespace My
open PySem PySem.Spec PyProof.Rows L2 DL Lean.Grind
/-- v is n / M with n at most A -/
def Fld.In (M A : Nat) : (f : Fld) → f.C → Prop
  | .Q, (v : Rat) => ∃ n : Int, v * ((M : Int) : Rat) = (n : Rat) ∧ n.natAbs ≤ A
  | .F _, _ => True
theorem Fld.In.small {f : Fld} {M A h : Nat} {v : f.C} (i : f.In M A v) (h0 : 0 < M) (h1 : M < 2 ^ h) (h2 : A < 2 ^ h) : f.Small h v := by
  cases f with
  | F n => trivial
  | Q =>
    obtain ⟨n, e, hn⟩ := i
    have e1 := rat_mul_eq e
    have hd := Rat.den_pos v
    have c : Int.gcd ((Rat.den v : Nat) : Int) (Rat.num v) = 1 := by
      have := Rat.reduced v
      rw [Int.gcd_comm]
      show Nat.gcd (Rat.num v).natAbs ((Rat.den v : Nat) : Int).natAbs = 1
      simpa using this
    have dv : ((Rat.den v : Nat) : Int) ∣ (M : Int) := dvd_cop c ⟨n, by rw [e1, Int.mul_comm]⟩
    have dl := Int.le_of_dvd (by omega) dv
    refine ⟨?_, show Rat.den v < 2 ^ h by omega⟩
    have e2 : (Rat.num v).natAbs * M = n.natAbs * Rat.den v := by
      have := congrArg Int.natAbs e1
      rwa [Int.natAbs_mul, Int.natAbs_mul, Int.natAbs_natCast, Int.natAbs_natCast] at this
    have e3 : (Rat.num v).natAbs * M ≤ n.natAbs * M := by rw [e2]; exact Nat.mul_le_mul_left _ (by omega)
    have := Nat.le_of_mul_le_mul_right e3 h0
    exact Nat.lt_of_le_of_lt (Nat.le_trans this hn) h2
theorem Fld.In.mul {f : Fld} {M A N B : Nat} {v w : f.C} (i : f.In M A v) (j : f.In N B w) : f.In (M * N) (A * B) (v * w) := by
  cases f with
  | F n => trivial
  | Q =>
    obtain ⟨n, e, hn⟩ := i
    obtain ⟨m, e', hm⟩ := j
    refine ⟨n * m, ?_, by rw [Int.natAbs_mul]; exact Nat.mul_le_mul hn hm⟩
    rw [Int.natCast_mul, Rat.intCast_mul, Rat.intCast_mul, ← e, ← e']
    have hc : ∀ a b c d : Rat, a * b * (c * d) = a * c * (b * d) := fun a b c d => by grind
    exact hc v w _ _
theorem Fld.In.add {f : Fld} {M A B : Nat} {v w : f.C} (i : f.In M A v) (j : f.In M B w) : f.In M (A + B) (v + w) := by
  cases f with
  | F n => trivial
  | Q =>
    obtain ⟨n, e, hn⟩ := i
    obtain ⟨m, e', hm⟩ := j
    refine ⟨n + m, ?_, by omega⟩
    rw [Rat.intCast_add, ← e, ← e']
    have hc : ∀ a b c : Rat, (a + b) * c = a * c + b * c := fun a b c => by grind
    exact hc v w _
theorem Fld.In.zero (f : Fld) (M A : Nat) : f.In M A 0 := by
  cases f with
  | F n => trivial
  | Q => exact ⟨0, Rat.zero_mul _, by simp⟩
theorem Fld.In.mono {f : Fld} {M A B : Nat} {v : f.C} (i : f.In M A v) (h : A ≤ B) : f.In M B v := by
  cases f with
  | F n => trivial
  | Q =>
    obtain ⟨n, e, hn⟩ := i
    exact ⟨n, e, by omega⟩
/-! a product, row by row -/
section
variable {R : Type} [CommRing R] [DecidableEq R]
theorem cf_mul_take : ∀ (l m : List R) (i k : Nat), cf (pmul (l.take (i + 1)) m) k = cf (pmul (l.take i) m) k + if i ≤ k then cf l i * cf m (k - i) else 0
  | [], m, i, k => by
    simp only [List.take_nil]
    rw [cmn, cf_nil]
    split <;> grind
  | a :: l, m, 0, k => by
    simp only [List.take_succ_cons, List.take_zero]
    rw [cmn, if_pos (Nat.zero_le k), cf_zero, Nat.sub_zero]
    cases k with
    | zero => rw [cm0]; grind
    | succ k => rw [cms, cmn]; grind
  | a :: l, m, i + 1, 0 => by
    simp only [List.take_succ_cons]
    rw [cm0, cm0, if_neg (by omega)]
    grind
  | a :: l, m, i + 1, k + 1 => by
    simp only [List.take_succ_cons]
    rw [cms, cms, cf_mul_take l m i k, cf_succ, show k + 1 - (i + 1) = k - i by omega]
    by_cases c : i ≤ k
    · rw [if_pos c, if_pos (by omega)]; grind
    · rw [if_neg c, if_neg (by omega)]; grind
end
end My
namespace My
open PySem PySem.Spec PyProof.Rows L2 DL Lean.Grind
theorem Fld.el_noList (f : Fld) (x : f.C) : noList (f.el x) = true := by cases f <;> rfl
theorem flat_rep {α : Type} (n : Nat) (a : α) : (List.replicate n [a]).flatten = List.replicate n a := by
  induction n with
  | zero => rfl
  | succ n ih => rw [List.replicate_succ, List.flatten_cons, ih]; rfl
theorem cf_rep {R : Type} [CommRing R] (n k : Nat) : cf (List.replicate n (0 : R)) k = 0 := by
  unfold cf
  rw [List.getD_eq_getElem?_getD, List.getElem?_replicate]
  split <;> rfl
theorem cf_set {R : Type} [CommRing R] {l : List R} {i : Nat} (a : R) (k : Nat) (h : i < l.length) : cf (l.set i a) k = if i = k then a else cf l k := by
  unfold cf
  rw [List.getD_eq_getElem?_getD, List.getElem?_set, List.getD_eq_getElem?_getD]
  by_cases c : i = k
  · rw [if_pos c, if_pos c, if_pos h]; rfl
  · rw [if_neg c, if_neg c]
theorem el_get {f : Fld} {l : List f.C} {i : Nat} {d : D} (h : (l.map f.el)[i]? = some d) : d = f.el (cf l i) := by
  rw [List.getElem?_map] at h
  unfold cf
  rw [List.getD_eq_getElem?_getD]
  cases e : l[i]? with
  | none => rw [e] at h; cases h
  | some a => rw [e] at h; cases h; rfl
end My
namespace My
open PySem PySem.Spec PyProof.Rows L2 DL Lean.Grind
theorem cf_app {R : Type} [CommRing R] (a b : List R) (k : Nat) : cf (a ++ b) k = if k < a.length then cf a k else cf b (k - a.length) := by
  unfold cf
  rw [List.getD_eq_getElem?_getD, List.getElem?_append, List.getD_eq_getElem?_getD, List.getD_eq_getElem?_getD]
  split <;> rfl
theorem cf_drop {R : Type} [CommRing R] (l : List R) (n k : Nat) : cf (l.drop n) k = cf l (n + k) := by
  unfold cf
  rw [List.getD_eq_getElem?_getD, List.getElem?_drop, List.getD_eq_getElem?_getD]
theorem sum_pe {R : Type} [CommRing R] (x y : List R) (N : Nat) (h1 : N ≤ x.length) (h2 : N ≤ y.length) (h : x.length = N ∨ y.length = N) (k : Nat) : cf (((List.range N).map fun j => cf x j + cf y j) ++ x.drop N ++ y.drop N) k = cf x k + cf y k := by
  rw [cf_app, cf_app, List.length_append, List.length_map, List.length_range, List.length_drop, cf_map_range, cf_drop, cf_drop]
  by_cases c : k < N
  · rw [if_pos (by omega), if_pos c, if_pos c]
  · rcases h with h | h
    · rw [if_neg (by omega), cf_out (l := x) (by omega), show N + (k - (N + (x.length - N))) = k by omega]
      grind
    · by_cases d : k < x.length
      · rw [if_pos (by omega), if_neg c, show N + (k - N) = k by omega, cf_out (l := y) (by omega)]
        grind
      · rw [if_neg (by omega), cf_out (l := x) (by omega), cf_out (l := y) (by omega), cf_out (l := y) (by omega)]
        grind
end My
namespace My
open PySem PySem.Spec PyProof.Rows L2 DL Lean.Grind
theorem dx_inj {d d' : Dom} {x : d.C} {x' : d'.C} (h : ([d.enc, d.el x] : List D) = [d'.enc, d'.el x']) : ∃ e : d = d', e ▸ x = x' := by
  simp only [List.cons.injEq, and_true] at h
  have e := Dom.enc_inj h.1
  subst e
  exact ⟨rfl, Dom.el_inj h.2⟩
theorem fin_neg {m : Nat} (x : Fin (m + 2)) : (((-x : Fin (m + 2)).val : Nat) : Int) = (-(x.val : Int)) % ((m + 2 : Nat) : Int) := by
  have hx := x.isLt
  rw [Fin.val_neg']
  generalize x.val = a at *
  rw [Int.natCast_emod, ← Int.add_mul_emod_self_left (-(a : Int)) ((m + 2 : Nat) : Int) 1]
  congr 1
  omega
theorem Fld.neg_F {m : Nat} (x : (Fld.F m).C) : (Fld.F m).el (-x) = .int ((-((x : Fin (m + 2)).val : Int)).fmod ((m + 2 : Nat) : Int)) := by
  rw [Int.fmod_eq_emod_of_nonneg _ (by omega)]
  exact congrArg PyData.int (fin_neg x)
theorem Fld.neg_Q (x : Rat) : Fld.Q.el (-x : Rat) = .tuple [.int (-x.num), .int (x.den : Nat)] := rfl
theorem trim_neg {R : Type} [CommRing R] [DecidableEq R] (l : List R) (h : trim l = l) : trim (l.map fun a => -a) = l.map fun a => -a := by
  refine trim_full _ fun hn => ?_
  have hl : l ≠ [] := by intro e; subst e; exact hn rfl
  rw [List.length_map]
  have e : cf (l.map fun a => -a) (l.length - 1) = -cf l (l.length - 1) := by
    unfold cf
    rw [List.getD_eq_getElem?_getD, List.getElem?_map, List.getD_eq_getElem?_getD]
    cases l[l.length - 1]? with
    | none => show (0 : R) = - 0; grind
    | some a => rfl
  rw [e]
  intro z
  have z2 : cf l (l.length - 1) = 0 := by grind
  have hp : 0 < l.length := List.length_pos_iff.mpr hl
  have t := trim_take (l := l) z2
  rw [show l.length - 1 + 1 = l.length by omega, List.take_length, h] at t
  have len : ∀ m : List R, (trim m).length ≤ m.length := fun m => by
    induction m with
    | nil => simp [trim]
    | cons a m ih =>
      unfold trim
      split
      · split <;> simp
      · next b c e => rw [e] at ih; simp at ih ⊢; omega
  have := len (l.take (l.length - 1))
  rw [← t, List.length_take] at this
  omega
theorem Pol.neg_l {R : Type} [CommRing R] [DecidableEq R] (p : Pol R) : (-p).l = p.l.map fun a => -a := by
  rw [← (-p).ok, ← trim_neg p.l p.ok]
  refine trim_ext _ _ fun k => ?_
  rw [Pol.cneg]
  unfold cf
  rw [List.getD_eq_getElem?_getD, List.getD_eq_getElem?_getD, List.getElem?_map]
  cases p.l[k]? with
  | none => show -(0 : R) = 0; grind
  | some a => rfl
end My
namespace My
open PySem PySem.Spec PyProof.Rows L2 DL Lean.Grind
theorem Pol.neg_cf {R : Type} [CommRing R] [DecidableEq R] (p : Pol R) (j : Nat) : cf (p.l.map fun a => -a) j = -cf p.l j := by
  rw [← Pol.neg_l]
  exact Pol.cneg p j
theorem Dom.neg_P (f : Fld) (x : Pol f.C) : (Dom.P f).el (-x : Pol f.C) = .tuple ((x.l.map fun a => -a).map f.el) := by
  show PyData.tuple ((-x).l.map f.el) = _
  rw [Pol.neg_l]
end My
namespace My
open Lean.Grind
theorem Pol.neg_len {R : Type} [CommRing R] [DecidableEq R] (p : Pol R) : (-p).l.length = p.l.length := by rw [Pol.neg_l]; simp
end My
namespace My
open PySem PySem.Spec PyProof.Rows L2 DL Lean.Grind
local instance iNat3 {R : Type} [Semiring R] : NatCast R := Semiring.natCast
local instance iInt3 {R : Type} [Ring R] : IntCast R := Ring.intCast
theorem Fld.one_ne (f : Fld) : (1 : f.C) ≠ 0 := by
  cases f with
  | Q => exact fun h => absurd (congrArg Rat.num h) (by decide)
  | F n =>
    intro h
    have h1 : (Fin.ofNat (n + 2) 1).val = (Fin.ofNat (n + 2) 0).val := congrArg Fin.val h
    simp only [Fin.ofNat] at h1
    rw [Nat.mod_eq_of_lt (by omega), Nat.mod_eq_of_lt (by omega)] at h1
    omega
theorem Pol.one_l (f : Fld) : (1 : Pol f.C).l = [1] := by
  show trim [((1 : Nat) : f.C)] = [1]
  rw [Semiring.natCast_one]
  exact trim_full _ fun _ => by simpa [cf] using f.one_ne
theorem Dom.one_P (f : Fld) : (Dom.P f).el (1 : Pol f.C) = .tuple [f.el 1] := by
  show PyData.tuple ((1 : Pol f.C).l.map f.el) = _
  rw [Pol.one_l]
  rfl
end My

namespace My
open PySem PySem.Spec PyProof.Rows L2 DL Lean.Grind
/-! whole numbers in a field -/
theorem fin_num {m : Nat} (n : Int) : ((((Fld.F m).num n : Fin (m + 2)).val : Nat) : Int) = n % ((m + 2 : Nat) : Int) := by
  show (((Fin.ofNat (m + 2) (n % ((m + 2 : Nat) : Int)).toNat).val : Nat) : Int) = _
  have h1 := Int.emod_nonneg n (show ((m + 2 : Nat) : Int) ≠ 0 by omega)
  have h2 := Int.emod_lt_of_pos n (show (0 : Int) < ((m + 2 : Nat) : Int) by omega)
  simp only [Fin.ofNat]
  rw [Nat.mod_eq_of_lt (by omega)]
  omega
theorem fin_ext' {m : Nat} {x y : Fin (m + 2)} (h : ((x.val : Nat) : Int) = y.val) : x = y := Fin.ext (by omega)
theorem fin_add' {m : Nat} (x y : Fin (m + 2)) : (((x + y).val : Nat) : Int) = ((x.val : Int) + y.val) % ((m + 2 : Nat) : Int) := by
  rw [Fin.val_add]; simp
theorem fin_mul' {m : Nat} (x y : Fin (m + 2)) : (((x * y).val : Nat) : Int) = ((x.val : Int) * y.val) % ((m + 2 : Nat) : Int) := by
  rw [Fin.val_mul]; simp
theorem Fld.num_add (f : Fld) (a b : Int) : f.num (a + b) = f.num a + f.num b := by
  cases f with
  | Q => exact Rat.intCast_add a b
  | F m =>
    refine fin_ext' ?_
    rw [fin_num]
    refine Eq.trans ?_ (fin_add' _ _).symm
    rw [fin_num, fin_num, Int.emod_add_emod, Int.add_emod_emod]
theorem Fld.num_mul (f : Fld) (a b : Int) : f.num (a * b) = f.num a * f.num b := by
  cases f with
  | Q => exact Rat.intCast_mul a b
  | F m =>
    refine fin_ext' ?_
    rw [fin_num]
    refine Eq.trans ?_ (fin_mul' _ _).symm
    rw [fin_num, fin_num, ← Int.mul_emod]
theorem Fld.num_zero (f : Fld) : f.num 0 = 0 := by
  cases f with
  | Q => rfl
  | F m =>
    refine fin_ext' ?_
    rw [fin_num]
    show (0 : Int) % _ = (((0 : Fin (m + 2)).val : Nat) : Int)
    simp
theorem Fld.num_one (f : Fld) : f.num 1 = 1 := by
  cases f with
  | Q => rfl
  | F m =>
    refine fin_ext' ?_
    rw [fin_num]
    have e : ((1 : Fin (m + 2)).val : Nat) = 1 := by
      show 1 % (m + 2) = 1
      exact Nat.mod_eq_of_lt (by omega)
    refine Eq.trans ?_ (congrArg (Nat.cast (R := Int)) e).symm
    exact Int.emod_eq_of_lt (by omega) (by omega)
theorem Fld.num_neg (f : Fld) (a : Int) : f.num (-a) = - f.num a := by
  have h := f.num_add a (-a)
  rw [show a + -a = 0 by omega, f.num_zero] at h
  grind
theorem Fld.num_sub (f : Fld) (a b : Int) : f.num (a - b) = f.num a - f.num b := by
  rw [Int.sub_eq_add_neg, f.num_add, f.num_neg]; grind
theorem Fld.num_val {m : Nat} (x : (Fld.F m).C) : (Fld.F m).num ((x : Fin (m + 2)).val : Nat) = x := by
  refine fin_ext' ?_
  rw [fin_num]
  have := (x : Fin (m + 2)).isLt
  exact Int.emod_eq_of_lt (by omega) (by omega)
theorem Fld.el_num_mod (m : Nat) (n : Int) : (Fld.F m).el ((Fld.F m).num n) = .int (n.fmod ((m + 2 : Nat) : Int)) := Fld.el_num_F m n
theorem Fld.num_eq {m : Nat} {a b : Int} (h : ((m + 2 : Nat) : Int) ∣ a - b) : (Fld.F m).num a = (Fld.F m).num b := by
  refine fin_ext' ?_
  rw [fin_num, fin_num]
  exact Int.emod_eq_emod_iff_emod_sub_eq_zero.mpr (Int.emod_eq_zero_of_dvd h)
theorem Fld.num_mod (m : Nat) (a : Int) : (Fld.F m).num (a.fmod ((m + 2 : Nat) : Int)) = (Fld.F m).num a := by
  refine Fld.num_eq ?_
  rw [Int.fmod_eq_emod_of_nonneg _ (by omega)]
  have := Int.emod_add_mul_ediv a ((m + 2 : Nat) : Int)
  exact ⟨-(a / ((m + 2 : Nat) : Int)), by rw [Int.mul_neg]; omega⟩
theorem Fld.num_eq0 {m : Nat} {a : Int} : (Fld.F m).num a = 0 ↔ ((m + 2 : Nat) : Int) ∣ a := by
  constructor
  · intro h
    have h2 := fin_num (m := m) a
    rw [h] at h2
    have h3 : (((0 : Fin (m + 2)).val : Nat) : Int) = 0 := by simp
    exact Int.dvd_of_emod_eq_zero (h2.symm.trans h3)
  · intro h
    rw [← (Fld.F m).num_zero]
    exact Fld.num_eq (by simpa using h)
/-- the whole numbers that are no zero there and have an inverse -/
def Fld.Inv (f : Fld) (m : Int) : Prop := ∃ z : f.C, z * f.num m = 1
theorem Fld.inv_Q {m : Int} (h : m ≠ 0) : Fld.Q.Inv m := by
  refine ⟨((1 : Rat) / (m : Rat) : Rat), ?_⟩
  have hm : (m : Rat) ≠ 0 := fun z => h (by exact_mod_cast z)
  exact Rat.div_mul_cancel hm
theorem Fld.inv_F {n : Nat} {m s t : Int} (h : s * m + t * ((n + 2 : Nat) : Int) = 1) : (Fld.F n).num s * (Fld.F n).num m = 1 := by
  rw [← Fld.num_mul, ← Fld.num_one]
  refine Fld.num_eq ⟨-t, ?_⟩
  generalize ((n + 2 : Nat) : Int) = p at *
  grind
theorem Fld.Inv.mul {f : Fld} {m n : Int} (h : f.Inv m) (k : f.Inv n) : f.Inv (m * n) := by
  obtain ⟨z, hz⟩ := h
  obtain ⟨w, hw⟩ := k
  refine ⟨z * w, ?_⟩
  rw [f.num_mul]
  have : z * w * (f.num m * f.num n) = (z * f.num m) * (w * f.num n) := by grind
  rw [this, hz, hw]; grind
theorem Fld.Inv.one (f : Fld) : f.Inv 1 := ⟨1, by rw [f.num_one]; grind⟩
theorem Fld.Inv.cancel {f : Fld} {m : Int} {x y : f.C} (h : f.Inv m) (e : x * f.num m = y * f.num m) : x = y := by
  obtain ⟨z, hz⟩ := h
  have h1 : x * (z * f.num m) = y * (z * f.num m) := by
    have a : x * (z * f.num m) = (x * f.num m) * z := by grind
    have b : y * (z * f.num m) = (y * f.num m) * z := by grind
    rw [a, b, e]
  rw [hz] at h1
  have a : x * 1 = x := by grind
  have b : y * 1 = y := by grind
  rw [a, b] at h1
  exact h1
/-- the row a of whole numbers over the one number m is the row x -/
def Fld.Over (f : Fld) (x : List f.C) (a : List Int) (m : Int) : Prop := f.Inv m ∧ ∀ k, cf x k * f.num m = f.num (cf a k)
theorem Fld.Over.uniq {f : Fld} {x y : List f.C} {a : List Int} {m : Int} (h : f.Over x a m) (k : f.Over y a m) : Pol.of x = Pol.of y :=
  Pol.of_eq fun j => h.1.cancel ((h.2 j).trans (k.2 j).symm)
theorem num_pmul (f : Fld) : ∀ (x y : List f.C) (a b : List Int) (m n : Int), (∀ k, cf x k * f.num m = f.num (cf a k)) → (∀ k, cf y k * f.num n = f.num (cf b k)) → ∀ k, cf (pmul x y) k * f.num (m * n) = f.num (cf (pmul a b) k)
  | [], y, a, b, m, n, hx, hy, k => by
    have z : ∀ j, f.num (cf a j) = 0 := fun j => by rw [← hx j, cf_nil]; grind
    rw [cmn]
    have : f.num (cf (pmul a b) k) = 0 := by
      clear hx hy
      revert z
      induction a generalizing k with
      | nil => intro _; rw [cmn, f.num_zero]
      | cons a0 a ih =>
        intro z
        have z0 := z 0
        rw [cf_zero] at z0
        have zs : ∀ j, f.num (cf a j) = 0 := fun j => by have := z (j + 1); rwa [cf_succ] at this
        cases k with
        | zero => rw [cm0, f.num_mul, z0]; grind
        | succ k => rw [cms, f.num_add, f.num_mul, z0, ih k zs]; grind
    rw [this]; grind
  | x0 :: x, y, [], b, m, n, hx, hy, k => by
    have h0 : x0 * f.num m = 0 := by have := hx 0; rwa [cf_zero, cf_nil, f.num_zero] at this
    have hs : ∀ j, cf x j * f.num m = f.num (cf ([] : List Int) j) := fun j => by have := hx (j + 1); rw [cf_succ] at this; rw [this, cf_nil, cf_nil]
    have ih := num_pmul f x y [] b m n hs hy
    rw [cmn, f.num_zero]
    cases k with
    | zero => rw [cm0, f.num_mul]; grind
    | succ k =>
      have := ih k
      rw [cmn, f.num_zero, f.num_mul] at this
      rw [cms, f.num_mul]; grind
  | x0 :: x, y, a0 :: a, b, m, n, hx, hy, k => by
    have h0 : x0 * f.num m = f.num a0 := by have := hx 0; rwa [cf_zero, cf_zero] at this
    have hs : ∀ j, cf x j * f.num m = f.num (cf a j) := fun j => by have := hx (j + 1); rwa [cf_succ, cf_succ] at this
    have ih := num_pmul f x y a b m n hs hy
    cases k with
    | zero =>
      have e := hy 0
      rw [cm0, cm0, f.num_mul, f.num_mul, ← h0, ← e]; grind
    | succ k =>
      have e := hy (k + 1)
      have i := ih k
      rw [f.num_mul] at i
      rw [cms, cms, f.num_mul, f.num_add, f.num_mul, ← h0, ← e, ← i]; grind
theorem Fld.Over.mul {f : Fld} {x y : List f.C} {a b : List Int} {m n : Int} (h : f.Over x a m) (k : f.Over y b n) : f.Over (pmul x y) (pmul a b) (m * n) := ⟨h.1.mul k.1, num_pmul f x y a b m n h.2 k.2⟩
end My
namespace My
open PySem PySem.Spec PyProof.Rows L2 DL Lean.Grind
theorem ints_inj : ∀ {l m : List Int}, l.map PyData.int = m.map PyData.int → l = m
  | [], [], _ => rfl
  | [], b :: m, h => by simp at h
  | a :: l, [], h => by simp at h
  | a :: l, b :: m, h => by
    simp only [List.map, List.cons.injEq, PyData.int.injEq] at h
    rw [h.1, ints_inj h.2]
theorem int_get {l : List Int} {i : Nat} {d : D} (h : (l.map PyData.int)[i]? = some d) : d = .int (cf l i) := by
  rw [List.getElem?_map] at h
  unfold cf
  rw [List.getD_eq_getElem?_getD]
  cases e : l[i]? with
  | none => rw [e] at h; cases h
  | some a => rw [e] at h; cases h; rfl
/-- the sizes of what cleared gives -/
def Fld.Bd (M A : Nat) : Fld → List Int → Int → Prop
  | .Q, a, m => m ≤ M ∧ ∀ k, (cf a k).natAbs ≤ A
  | .F n, a, m => m = 1 ∧ ∀ k, 0 ≤ cf a k ∧ cf a k < (n + 2 : Nat)
theorem fl_inj {f f' : Fld} {l : List f.C} {l' : List f'.C} (h : ([f.enc, .tuple (l.map f.el)] : List D) = [f'.enc, .tuple (l'.map f'.el)]) : ∃ e : f = f', e ▸ l = l' := by
  simp only [List.cons.injEq, PyData.tuple.injEq, and_true] at h
  have e := Fld.enc_inj h.1
  subst e
  exact ⟨rfl, Fld.els_inj h.2⟩
theorem cf_map {R S : Type} [CommRing R] [CommRing S] (g : R → S) (h : g 0 = 0) (l : List R) (k : Nat) : cf (l.map g) k = g (cf l k) := by
  unfold cf
  rw [List.getD_eq_getElem?_getD, List.getElem?_map, List.getD_eq_getElem?_getD]
  cases l[k]? with
  | none => exact h.symm
  | some a => rfl
def vF {n : Nat} (x : (Fld.F n).C) : Int := ((x : Fin (n + 2)).val : Nat)
theorem vF_zero {n : Nat} : vF (0 : (Fld.F n).C) = 0 := by
  show (((0 : Fin (n + 2)).val : Nat) : Int) = 0
  simp
theorem vF_bd {n : Nat} (x : (Fld.F n).C) : 0 ≤ vF x ∧ vF x < (n + 2 : Nat) := by
  have := (x : Fin (n + 2)).isLt
  exact ⟨Int.natCast_nonneg _, Int.ofNat_lt.mpr this⟩
def qn (x : Fld.Q.C) : Int := (x : Rat).num
def qd (x : Fld.Q.C) : Nat := (x : Rat).den
theorem el_Q (x : Fld.Q.C) : Fld.Q.el x = .tuple [.int (qn x), .int (qd x : Nat)] := rfl
theorem qd_pos (x : Fld.Q.C) : 0 < qd x := Rat.den_pos x
theorem qd_zero : qd (0 : Fld.Q.C) = 1 := rfl
theorem small_Q {h : Nat} {x : Fld.Q.C} (s : Fld.Q.Small h x) : (qn x).natAbs < 2 ^ h ∧ qd x < 2 ^ h := s
theorem q_eq (x : Fld.Q.C) : x * Fld.Q.num (qd x) = Fld.Q.num (qn x) := rat_den x
def vQ (m : Nat) (x : Fld.Q.C) : Int := qn x * ((m / qd x : Nat) : Int)
theorem vQ_zero (m : Nat) : vQ m (0 : Fld.Q.C) = 0 := by
  show (0 : Int) * _ = 0
  exact Int.zero_mul _
theorem In_den {M A : Nat} {q : Fld.Q.C} (h : Fld.Q.In M A q) : qd q ∣ M := by
  obtain ⟨n, e, hn⟩ := h
  have e1 := rat_mul_eq e
  have c : Int.gcd ((Rat.den q : Nat) : Int) (Rat.num q) = 1 := by
    have := Rat.reduced q
    rw [Int.gcd_comm]
    show Nat.gcd (Rat.num q).natAbs ((Rat.den q : Nat) : Int).natAbs = 1
    simpa using this
  have dv : ((Rat.den q : Nat) : Int) ∣ (M : Int) := dvd_cop c ⟨n, by rw [e1, Int.mul_comm]⟩
  exact Int.natCast_dvd_natCast.mp dv
theorem In_num {M A : Nat} {q : Fld.Q.C} (h : Fld.Q.In M A q) {m : Nat} (hm : qd q ∣ m) (h0 : 0 < m) (hM : m ∣ M) (M0 : 0 < M) : (vQ m q).natAbs ≤ A := by
  obtain ⟨n, e, hn⟩ := h
  have e1 : qn q * (M : Int) = n * (qd q : Nat) := rat_mul_eq e
  obtain ⟨k, rfl⟩ := hm
  obtain ⟨j, rfl⟩ := hM
  have hd := qd_pos q
  unfold vQ
  rw [Nat.mul_div_cancel_left _ hd]
  have e2 : qn q * (k : Int) * (j : Int) = n := by
    have e3 : (qn q * k * j) * ((qd q : Nat) : Int) = n * (qd q : Nat) := by
      rw [← e1]; simp only [Int.natCast_mul]; grind
    exact Int.eq_of_mul_eq_mul_right (by omega) e3
  have j0 : 0 < j := by
    rcases Nat.eq_zero_or_pos j with z | z
    · subst z; simp at M0
    · exact z
  have e4 : (qn q * (k : Int)).natAbs * j = n.natAbs := by rw [← e2, Int.natAbs_mul (qn q * k), Int.natAbs_natCast]
  have : (qn q * (k : Int)).natAbs ≤ n.natAbs := by rw [← e4]; exact Nat.le_mul_of_pos_right _ j0
  omega
theorem over_vQ {q : Fld.Q.C} {m : Nat} (hm : qd q ∣ m) : q * Fld.Q.num m = Fld.Q.num (vQ m q) := by
  obtain ⟨k, rfl⟩ := hm
  have h := q_eq q
  unfold vQ
  rw [Nat.mul_div_cancel_left _ (qd_pos q), Fld.num_mul, ← h, Int.natCast_mul, Fld.num_mul]
  grind
theorem log2_ok {n : Nat} (h : n < 2 ^ 3000) : n.log2 < 13000 := by
  by_cases h0 : n = 0
  · subst h0; decide
  · exact Nat.lt_trans ((Nat.log2_lt h0).mpr h) (by decide)
end My
namespace My
open PySem PySem.Spec PyProof.Rows L2 DL Lean.Grind
def Dom.Sm' (h : Nat) : (d : Dom) → d.C → Prop
  | .Z, _ => True
  | .K f, x => f.Small h x
  | .P f, (p : Pol f.C) => p.l.length ≤ 50000 ∧ ∀ k, f.Small h (cf p.l k)
def Dom.Sm (h : Nat) : (d : Dom) → d.C → Prop
  | .Z, _ => True
  | .K f, x => f.Small h x
  | .P f, (p : Pol f.C) => p.l.length ≤ 50000 ∧ ∀ k, f.Small h (cf p.l k)
def Dom.Mu : (d : Dom) → d.C → d.C → Prop
  | .Z, (n : Int), (m : Int) => n.natAbs < 2 ^ 6000 ∧ m.natAbs < 2 ^ 6000
  | .K f, x, y => f.Small 3000 x ∧ f.Small 3000 y
  | .P f, (p : Pol f.C), (q : Pol f.C) => p.l.length ≤ 50000 ∧ q.l.length ≤ 50000 ∧ ∃ M A N B : Nat, 0 < M ∧ 0 < N ∧ M * N < 2 ^ 3000 ∧ A < 2 ^ 3000 ∧ B < 2 ^ 3000 ∧ (p.l.length + 1) * (A * B) < 2 ^ 3000 ∧ (∀ k, f.In M A (cf p.l k)) ∧ ∀ k, f.In N B (cf q.l k)
theorem mul_mod {m : Nat} (ho : (Fld.F m).Ok) (x y : (Fld.F m).C) : mulOk ((x : Fin (m + 2)).val : Int) ((y : Fin (m + 2)).val : Int) := by
  have a := (show Fin (m + 2) from x).isLt
  have b := (show Fin (m + 2) from y).isLt
  have ho := ho.2
  exact mulOk_of (a := 20) (b := 20) (Nat.lt_of_lt_of_le a (by have : (2 : Nat) ^ 20 = 1048576 := by decide
                                                               omega)) (Nat.lt_of_lt_of_le b (by have : (2 : Nat) ^ 20 = 1048576 := by decide
                                                                                                 omega)) (by decide) (by decide) (by decide)
set_option exponentiation.threshold 20000 in
theorem den_mul_lt {x y : Rat} (hx : Fld.Q.Small 3000 x) (hy : Fld.Q.Small 3000 y) : ((x.den : Int) * (y.den : Int)).natAbs < 2 ^ 8000 := by
  rw [Int.natAbs_mul]
  have h1 : x.den * y.den < 2 ^ 3000 * 2 ^ 3000 := Nat.mul_lt_mul'' hx.2 hy.2
  have h2 : 2 ^ 3000 * 2 ^ 3000 = 2 ^ 6000 := (Nat.pow_add 2 3000 3000).symm
  have h3 : 2 ^ 6000 < 2 ^ 8000 := Nat.pow_lt_pow_right (by decide) (by decide)
  exact Nat.lt_trans (h2 ▸ h1) h3
theorem bd_small {f : Fld} {M A : Nat} {a : List Int} {m : Int} (ho : f.Ok) (h : f.Bd M A a m) (h0 : 0 < m) (hM : M < 2 ^ 3000) (hA : A < 2 ^ 3000) : m.natAbs < 2 ^ 3000 ∧ ∀ k, (cf a k).natAbs < 2 ^ 3000 := by
  cases f with
  | Q =>
    obtain ⟨h1, h2⟩ := h
    exact ⟨Nat.lt_of_le_of_lt (by omega) hM, fun k => Nat.lt_of_le_of_lt (h2 k) hA⟩
  | F n =>
    obtain ⟨rfl, h2⟩ := h
    have ho' : n + 2 ≤ 65536 := Nat.le_trans ho.2 (by decide)
    have : 65536 < 2 ^ 3000 := Nat.lt_of_lt_of_le (show 65536 < 2 ^ 17 by decide) (Nat.pow_le_pow_right (by decide) (by decide))
    refine ⟨Nat.lt_trans (by decide) this, fun k => Nat.lt_trans ?_ this⟩
    have := h2 k
    omega
/-- sizes of products, row by row -/
theorem pmul_bd : ∀ (a b : List Int) (A B : Nat), (∀ k, (cf a k).natAbs ≤ A) → (∀ k, (cf b k).natAbs ≤ B) → ∀ k, (cf (pmul a b) k).natAbs ≤ a.length * (A * B)
  | [], b, A, B, _, _, k => by rw [cmn]; exact Nat.zero_le _
  | a0 :: a, b, A, B, ha, hb, k => by
    have h0 : a0.natAbs ≤ A := by have := ha 0; rwa [cf_zero] at this
    have hs : ∀ j, (cf a j).natAbs ≤ A := fun j => by have := ha (j + 1); rwa [cf_succ] at this
    have ih := pmul_bd a b A B hs hb
    have e1 : (a0 :: a).length * (A * B) = a.length * (A * B) + A * B := by rw [List.length_cons, Nat.add_mul, Nat.one_mul]
    rw [e1]
    cases k with
    | zero =>
      have := abs_mul_le h0 (hb 0)
      rw [cm0]; omega
    | succ k =>
      have h1 := abs_mul_le h0 (hb (k + 1))
      have h2 := ih k
      rw [cms]
      have := Int.natAbs_add_le (a0 * cf b (k + 1)) (cf (pmul a b) k)
      omega
theorem cf_trim_len {R : Type} [CommRing R] [DecidableEq R] (l : List R) : (trim l).length ≤ l.length := by
  induction l with
  | nil => simp [trim]
  | cons a m ih =>
    unfold trim
    split
    · split <;> simp
    · next b c e => rw [e] at ih; simp at ih ⊢; omega
theorem trim_last {R : Type} [CommRing R] [DecidableEq R] (l : List R) (h : trim l = l) (hn : l ≠ []) : cf l (l.length - 1) ≠ 0 := fun z => by
  have hp : 0 < l.length := List.length_pos_iff.mpr hn
  have t := trim_take (l := l) z
  rw [show l.length - 1 + 1 = l.length by omega, List.take_length, h] at t
  have := cf_trim_len (l.take (l.length - 1))
  rw [← t, List.length_take] at this
  omega
theorem frac_el {n m a b : Int} (h : Frac n m a b) (hm : m ≠ 0) : ∃ x : Fld.Q.C, PyData.tuple [.int a, .int b] = Fld.Q.el x ∧ x * Fld.Q.num m = Fld.Q.num n := by
  have e : ((n : Rat) / (m : Rat)) * (m : Rat) = (n : Rat) := Rat.div_mul_cancel (fun z => hm (by exact_mod_cast z))
  refine ⟨((n : Rat) / (m : Rat) : Rat), ?_, e⟩
  obtain ⟨rfl, rfl⟩ := rat_frac h hm e
  rfl
end My
namespace My
open PySem PySem.Spec PyProof.Rows L2 DL Lean.Grind
/-! sizes of products and powers -/
def Dom.Sz (M A L : Nat) : (d : Dom) → d.C → Prop
  | .Z, (n : Int) => n.natAbs ≤ A
  | .K f, x => f.In M A x
  | .P f, (p : Pol f.C) => p.l.length ≤ L ∧ ∀ k, f.In M A (cf p.l k)
theorem pmul_In (f : Fld) : ∀ (a b : List f.C) (M A N B : Nat), (∀ k, f.In M A (cf a k)) → (∀ k, f.In N B (cf b k)) → ∀ k, f.In (M * N) (a.length * (A * B)) (cf (pmul a b) k)
  | [], b, M, A, N, B, _, _, k => by rw [cmn]; exact Fld.In.zero ..
  | a0 :: a, b, M, A, N, B, ha, hb, k => by
    have h0 : f.In M A a0 := by have := ha 0; rwa [cf_zero] at this
    have hs : ∀ j, f.In M A (cf a j) := fun j => by have := ha (j + 1); rwa [cf_succ] at this
    have ih := pmul_In f a b M A N B hs hb
    have e1 : (a0 :: a).length * (A * B) = A * B + a.length * (A * B) := by rw [List.length_cons, Nat.add_mul, Nat.one_mul, Nat.add_comm]
    rw [e1]
    cases k with
    | zero =>
      rw [cm0]
      exact (h0.mul (hb 0)).mono (by omega)
    | succ k =>
      rw [cms]
      exact (h0.mul (hb (k + 1))).add (ih k)
theorem padd_len {R : Type} [CommRing R] : ∀ a b : List R, (padd a b).length = max a.length b.length
  | [], b => by simp [padd]
  | a0 :: a, [] => by simp [padd]
  | a0 :: a, b0 :: b => by simp only [padd, List.length_cons, padd_len a b]; omega
theorem pmul_len {R : Type} [CommRing R] : ∀ a b : List R, (pmul a b).length ≤ a.length + b.length
  | [], b => by simp [pmul]
  | a0 :: a, b => by
    have := pmul_len a b
    simp only [pmul, padd_len, psm, List.length_map, List.length_cons]
    omega
theorem Pol.mul_len {R : Type} [CommRing R] [DecidableEq R] (p q : Pol R) : (p * q).l.length ≤ p.l.length + q.l.length := Nat.le_trans (cf_trim_len _) (pmul_len ..)
theorem Pol.add_len {R : Type} [CommRing R] [DecidableEq R] (p q : Pol R) : (p + q).l.length ≤ max p.l.length q.l.length := by
  have h : (p + q).l.length ≤ (padd p.l q.l).length := cf_trim_len _
  rwa [padd_len] at h
theorem Dom.Sz.mul {d : Dom} {M A L N B K : Nat} {x y : d.C} (h : d.Sz M A L x) (k : d.Sz N B K y) (hL : 1 ≤ L) : d.Sz (M * N) (L * (A * B)) (L + K) (x * y) := by
  have hA : A * B ≤ L * (A * B) := Nat.le_mul_of_pos_left _ hL
  cases d with
  | Z => exact Nat.le_trans (abs_mul_le (x := x) (y := y) h k) hA
  | K f => exact (Fld.In.mul h k).mono hA
  | P f =>
    have hh : ∀ (x y : Pol f.C), x.l.length ≤ L → (∀ j, f.In M A (cf x.l j)) → (∀ j, f.In N B (cf y.l j)) → ∀ j, f.In (M * N) (L * (A * B)) (cf (x * y).l j) := fun x y h1 h2 h3 j => by
      rw [Pol.cmul]
      exact (pmul_In f _ _ _ _ _ _ h2 h3 j).mono (Nat.mul_le_mul_right _ h1)
    exact ⟨Nat.le_trans (Pol.mul_len (x : Pol f.C) y) (Nat.add_le_add h.1 k.1), hh x y h.1 h.2 k.2⟩
theorem Dom.Sz.mono {d : Dom} {M A L B K : Nat} {x : d.C} (h : d.Sz M A L x) (hA : A ≤ B) (hL : L ≤ K) : d.Sz M B K x := by
  cases d with
  | Z => exact Nat.le_trans h hA
  | K f => exact Fld.In.mono h hA
  | P f => exact ⟨Nat.le_trans h.1 hL, fun j => (h.2 j).mono hA⟩
theorem Fld.In.one (f : Fld) : f.In 1 1 1 := by
  cases f with
  | F n => trivial
  | Q => exact ⟨1, by show (1 : Rat) * ((1 : Int) : Rat) = ((1 : Int) : Rat); exact Rat.one_mul _, by decide⟩
theorem Fld.In.zero1 (f : Fld) : f.In 1 1 0 := Fld.In.zero f 1 1
theorem Dom.Sz.one (d : Dom) : d.Sz 1 1 1 (1 : d.C) := by
  cases d with
  | Z => exact Nat.le_refl 1
  | K f => exact Fld.In.one f
  | P f =>
    have e : (1 : Pol f.C).l = [1] := Pol.one_l f
    have hh : (1 : Pol f.C).l.length ≤ 1 ∧ ∀ k, f.In 1 1 (cf (1 : Pol f.C).l k) := by
      rw [e]
      refine ⟨Nat.le_refl 1, fun k => ?_⟩
      cases k with
      | zero => rw [cf_zero]; exact Fld.In.one f
      | succ k => rw [cf_one]; exact Fld.In.zero1 f
    exact hh
def gp {R : Type} [CommRing R] (x : R) : Nat → R
  | 0 => 1
  | n + 1 => x * gp x n
theorem gp_add {R : Type} [CommRing R] (x : R) (a b : Nat) : gp x (a + b) = gp x a * gp x b := by
  induction a with
  | zero => rw [Nat.zero_add, gp]; grind
  | succ a ih => rw [Nat.succ_add, gp, gp, ih]; grind
theorem gp_mul {R : Type} [CommRing R] (x : R) (a b : Nat) : gp (gp x a) b = gp x (a * b) := by
  induction b with
  | zero => rw [Nat.mul_zero, gp, gp]
  | succ b ih => rw [gp, ih, Nat.mul_succ, Nat.add_comm, gp_add]
theorem gp_one {R : Type} [CommRing R] (x : R) : gp x 1 = x := by rw [gp, gp]; grind
theorem Dom.Sz.pow {d : Dom} {M A L : Nat} {x : d.C} (h : d.Sz M A L x) (hL : 1 ≤ L) (e : Nat) : d.Sz (M ^ e) ((L * A) ^ e) (L * e + 1) (gp x e) := by
  induction e with
  | zero => exact Dom.Sz.one d
  | succ e ih =>
    have := h.mul ih hL
    rw [gp, show M ^ (e + 1) = M * M ^ e by rw [Nat.pow_succ, Nat.mul_comm], show (L * A) ^ (e + 1) = L * (A * (L * A) ^ e) by rw [Nat.pow_succ, Nat.mul_comm, Nat.mul_assoc]]
    exact this.mono (Nat.le_refl _) (by rw [Nat.mul_succ]; omega)
def Dom.isP : Dom → Prop
  | .P _ => True
  | _ => False
set_option exponentiation.threshold 20000 in
theorem Dom.Mu.of {d : Dom} {M A L N B K : Nat} {x y : d.C} (h : d.Sz M A L x) (k : d.Sz N B K y) (M0 : 0 < M) (N0 : 0 < N) (hMN : M * N < 2 ^ 3000) (hA : A < 2 ^ 3000) (hB : B < 2 ^ 3000) (hAB : (L + 1) * (A * B) < 2 ^ 3000) (hL : d.isP → L ≤ 50000) (hK : d.isP → K ≤ 50000) : d.Mu x y := by
  have m3 : M < 2 ^ 3000 := Nat.lt_of_le_of_lt (Nat.le_mul_of_pos_right M N0) hMN
  have n3 : N < 2 ^ 3000 := Nat.lt_of_le_of_lt (Nat.le_mul_of_pos_left N M0) hMN
  cases d with
  | Z =>
    have up : (2 : Nat) ^ 3000 ≤ 2 ^ 6000 := Nat.pow_le_pow_right (by decide) (by decide)
    exact ⟨Nat.lt_of_lt_of_le (Nat.lt_of_le_of_lt h hA) up, Nat.lt_of_lt_of_le (Nat.lt_of_le_of_lt k hB) up⟩
  | K f => exact ⟨Fld.In.small h M0 m3 hA, Fld.In.small k N0 n3 hB⟩
  | P f => exact ⟨Nat.le_trans h.1 (hL trivial), Nat.le_trans k.1 (hK trivial), M, A, N, B, M0, N0, hMN, hA, hB, Nat.lt_of_le_of_lt (Nat.mul_le_mul_right _ (Nat.add_le_add_right h.1 1)) hAB, h.2, k.2⟩
/-- all powers of x to the k-th are small enough to be multiplied -/
def Dom.Pw (d : Dom) (k : Nat) (x : d.C) : Prop := ∃ M A L : Nat, 0 < M ∧ 1 ≤ A ∧ 1 ≤ L ∧ d.Sz M A L x ∧ M ^ k < 2 ^ 3000 ∧ (L * k + 2) * (L * A) ^ k < 2 ^ 3000 ∧ (d.isP → L * k + 1 ≤ 50000)
theorem Dom.Pw.mu {d : Dom} {k : Nat} {x : d.C} (h : d.Pw k x) {a b : Nat} (hab : a + b ≤ k) : d.Mu (gp x a) (gp x b) := by
  obtain ⟨M, A, L, M0, A1, L1, hS, hM, hA, hP⟩ := h
  have la : 0 < L * A := Nat.mul_pos L1 A1
  have p1 : (L * A) ^ a * (L * A) ^ b ≤ (L * A) ^ k := by rw [← Nat.pow_add]; exact Nat.pow_le_pow_right la hab
  have pa : (L * A) ^ a ≤ (L * A) ^ k := Nat.pow_le_pow_right la (by omega)
  have pb : (L * A) ^ b ≤ (L * A) ^ k := Nat.pow_le_pow_right la (by omega)
  have one : (L * A) ^ k ≤ (L * k + 2) * (L * A) ^ k := Nat.le_mul_of_pos_left _ (by omega)
  have l1 : L * a ≤ L * k := Nat.mul_le_mul_left _ (by omega)
  have l2 : L * b ≤ L * k := Nat.mul_le_mul_left _ (by omega)
  refine Dom.Mu.of (hS.pow L1 a) (hS.pow L1 b) (Nat.pow_pos M0) (Nat.pow_pos M0) ?_ (by omega) (by omega) ?_ (fun h => by have := hP h; omega) (fun h => by have := hP h; omega)
  · rw [← Nat.pow_add]
    exact Nat.lt_of_le_of_lt (Nat.pow_le_pow_right M0 hab) hM
  · exact Nat.lt_of_le_of_lt (Nat.le_trans (Nat.mul_le_mul_left _ p1) (Nat.mul_le_mul_right _ (by omega))) hA
end My
namespace My
open PySem PySem.Spec PyProof.Rows L2 DL Lean.Grind
theorem Dom.num_one (d : Dom) : d.num 1 = 1 := by
  cases d with
  | Z => rfl
  | K f => exact Fld.num_one f
  | P f =>
    refine Pol.ext' (p := Pol.of [f.num 1]) (q := 1) fun k => ?_
    rw [Fld.num_one, Pol.one_l, pe_of]
theorem Pol.neg1 (f : Fld) : Pol.of [f.num (-1)] = (-1 : Pol f.C) := Pol.ext' fun k => by
  rw [Fld.num_neg, Fld.num_one, Pol.cneg, Pol.one_l, pe_of]
  cases k with
  | zero => rw [cf_zero, cf_zero]
  | succ k => rw [cf_one, cf_one]; grind
theorem Dom.num_neg1 (d : Dom) (y : d.C) : d.num (-1) * y = -y := by
  have h : d.num (-1) = -1 := by
    cases d with
    | Z => rfl
    | K f =>
      show f.num (-1) = -1
      rw [Fld.num_neg, Fld.num_one]
    | P f => exact Pol.neg1 f
  rw [h]; grind
end My
namespace My
open PySem PySem.Spec PyProof.Rows L2 DL Lean.Grind
theorem dxk_inj {d d' : Dom} {x : d.C} {x' : d'.C} {k k' : Int} (h : ([d.enc, d.el x, .int k] : List D) = [d'.enc, d'.el x', .int k']) : ∃ e : d = d', e ▸ x = x' ∧ k = k' := by
  simp only [List.cons.injEq, PyData.int.injEq, and_true] at h
  have e := Dom.enc_inj h.1
  subst e
  exact ⟨rfl, Dom.el_inj h.2.1, h.2.2⟩
end My
namespace My
open PySem PySem.Spec PyProof.Rows L2 DL Lean.Grind
theorem els_of (f : Fld) (Pp : f.C → Prop) : ∀ ys : List D, (∀ (j : Nat) (y : D), ys[j]? = some y → ∃ x : f.C, y = f.el x ∧ Pp x) → ∃ l : List f.C, ys = l.map f.el ∧ l.length = ys.length ∧ ∀ x ∈ l, Pp x
  | [], _ => ⟨[], rfl, rfl, fun x h => nomatch h⟩
  | y :: ys, h => by
    obtain ⟨x, rfl, hx⟩ := h 0 y rfl
    obtain ⟨l, rfl, hl, hp⟩ := els_of f Pp ys fun j y hy => h (j + 1) y hy
    refine ⟨x :: l, rfl, by simp, fun z hz => ?_⟩
    rcases List.mem_cons.mp hz with e | e
    · rw [e]; exact hx
    · exact hp z e
theorem cf_all {R : Type} [CommRing R] {l : List R} {Pp : R → Prop} (h0 : Pp 0) (h : ∀ x ∈ l, Pp x) (k : Nat) : Pp (cf l k) := by
  unfold cf
  rw [List.getD_eq_getElem?_getD]
  cases e : l[k]? with
  | none => exact h0
  | some a => exact h a (List.mem_of_getElem? e)
/-- the modulus is a prime that the program takes -/
def Fld.Pm : Fld → Prop
  | .Q => True
  | .F n => Prime ((n + 2 : Nat) : Int) ∧ n + 2 ≤ 65521
def Dom.Pm : Dom → Prop
  | .Z => True
  | .K f => f.Pm
  | .P f => f.Pm
theorem Fld.Pm.ok {f : Fld} (h : f.Pm) : f.Ok := by
  cases f with
  | Q => trivial
  | F n => exact h
theorem Dom.Pm.ok {d : Dom} (h : d.Pm) : d.Ok := by
  cases d with
  | Z => trivial
  | K f => exact Fld.Pm.ok h
  | P f => exact Fld.Pm.ok h
theorem prime_chk {n l : Nat} (h : chk n l 2 = true) (h2 : 2 ≤ n) (hn : n < (2 + 2 ^ l) * (2 + 2 ^ l)) : Prime (n : Int) := by
  refine ⟨by omega, fun d d2 dd dv => ?_⟩
  obtain ⟨k, rfl⟩ := Int.eq_ofNat_of_zero_le (show 0 ≤ d by omega)
  have dd' : k * k ≤ n := by exact_mod_cast dd
  have k2 : k < 2 + 2 ^ l := by
    apply Nat.lt_of_not_le
    intro z
    have := Nat.mul_le_mul z z
    omega
  exact chk_spec n l 2 h k (by omega) k2 (Nat.mod_eq_zero_of_dvd (Int.natCast_dvd_natCast.mp dv))
theorem prime_65521 : Prime ((65521 : Nat) : Int) := prime_chk (l := 8) (by decide +kernel) (by decide) (by decide)
theorem prime_101 : Prime ((101 : Nat) : Int) := prime_chk (l := 4) (by decide +kernel) (by decide) (by decide)
/-- what the laws draw as elements -/
def Dom.Elt (d : Dom) (x : d.C) : Prop := ∃ M A : Nat, 0 < M ∧ M ≤ 50 ∧ 1 ≤ A ∧ A ≤ 10 ^ 12 ∧ d.Sz M A 4 x
end My
namespace My
open PySem PySem.Spec PyProof.Rows L2 DL Lean.Grind
end My
namespace My
open PySem PySem.Spec PyProof.Rows L2 DL Lean.Grind
theorem In_of {x : Fld.Q.C} {n m : Int} {M A : Nat} (h : x * Fld.Q.num m = Fld.Q.num n) {k : Int} (hM : m * k = M) (hA : (n * k).natAbs ≤ A) : Fld.Q.In M A x := by
  refine ⟨n * k, ?_, hA⟩
  have e : x * Fld.Q.num (M : Int) = Fld.Q.num (n * k) := by
    rw [← hM, Fld.num_mul, Fld.num_mul, ← h]; grind
  exact e
end My
namespace My
open PySem PySem.Spec PyProof.Rows L2 DL Lean.Grind
theorem Fld.In.neg {f : Fld} {M A : Nat} {v : f.C} (i : f.In M A v) : f.In M A (-v) := by
  cases f with
  | F n => trivial
  | Q =>
    obtain ⟨n, e, hn⟩ := i
    refine ⟨-n, ?_, by omega⟩
    have h : (-v) * Fld.Q.num M = Fld.Q.num (-n) := by
      have e' : v * Fld.Q.num M = Fld.Q.num n := e
      rw [Fld.num_neg, ← e']; grind
    exact h
theorem Fld.In.scale {f : Fld} {M A : Nat} {v : f.C} (i : f.In M A v) (N : Nat) : f.In (M * N) (A * N) v := by
  cases f with
  | F n => trivial
  | Q =>
    obtain ⟨n, e, hn⟩ := i
    have e' : v * Fld.Q.num M = Fld.Q.num n := e
    exact In_of (m := M) (n := n) e' (k := N) (by simp) (by rw [Int.natAbs_mul, Int.natAbs_natCast]; exact Nat.mul_le_mul_right _ hn)
theorem Dom.Sz.neg {d : Dom} {M A L : Nat} {x : d.C} (h : d.Sz M A L x) : d.Sz M A L (-x) := by
  cases d with
  | Z =>
    have : ∀ n : Int, n.natAbs ≤ A → (-n).natAbs ≤ A := fun n h => by omega
    exact this x h
  | K f => exact Fld.In.neg h
  | P f =>
    have : ∀ p : Pol f.C, p.l.length ≤ L → (∀ k, f.In M A (cf p.l k)) → (-p).l.length ≤ L ∧ ∀ k, f.In M A (cf (-p).l k) := fun p h1 h2 => ⟨by rw [Pol.neg_len]; exact h1, fun k => by rw [Pol.cneg]; exact (h2 k).neg⟩
    exact this x h.1 h.2
theorem Dom.Sz.scale {d : Dom} {M A L : Nat} {x : d.C} (h : d.Sz M A L x) {N : Nat} (hN : 0 < N) : d.Sz (M * N) (A * N) L x := by
  cases d with
  | Z => exact Nat.le_trans h (Nat.le_mul_of_pos_right _ hN)
  | K f => exact Fld.In.scale h N
  | P f => exact ⟨h.1, fun k => (h.2 k).scale N⟩
theorem Dom.Sz.add {d : Dom} {M A B L K : Nat} {x y : d.C} (h : d.Sz M A L x) (k : d.Sz M B K y) : d.Sz M (A + B) (max L K) (x + y) := by
  cases d with
  | Z =>
    have : ∀ n m : Int, n.natAbs ≤ A → m.natAbs ≤ B → (n + m).natAbs ≤ A + B := fun n m h k => by omega
    exact this x y h k
  | K f => exact Fld.In.add h k
  | P f =>
    have : ∀ p q : Pol f.C, p.l.length ≤ L → (∀ k, f.In M A (cf p.l k)) → q.l.length ≤ K → (∀ k, f.In M B (cf q.l k)) → (p + q).l.length ≤ max L K ∧ ∀ k, f.In M (A + B) (cf (p + q).l k) := fun p q h1 h2 h3 h4 =>
      ⟨by have := Pol.add_len p q; omega, fun k => by rw [Pol.cadd]; exact (h2 k).add (h4 k)⟩
    exact this x y h.1 h.2 k.1 k.2
theorem Dom.Sz.sm {d : Dom} {M A L : Nat} {x : d.C} (h : d.Sz M A L x) (M0 : 0 < M) (hM : M < 2 ^ 3000) (hA : A < 2 ^ 3000) (hL : d.isP → L ≤ 50000) : d.Sm' 3000 x ∧ d.Sm 3000 x := by
  cases d with
  | Z => exact ⟨trivial, trivial⟩
  | K f => exact ⟨Fld.In.small h M0 hM hA, Fld.In.small h M0 hM hA⟩
  | P f => exact ⟨⟨Nat.le_trans h.1 (hL trivial), fun k => (h.2 k).small M0 hM hA⟩, Nat.le_trans h.1 (hL trivial), fun k => (h.2 k).small M0 hM hA⟩
theorem Dom.Sz.minus1 (d : Dom) : d.Sz 1 1 1 (d.num (-1)) := by
  have h := (Dom.Sz.one d).neg
  have e : d.num (-1) = -1 := by
    have := d.num_neg1 1
    have e1 : d.num (-1) * 1 = d.num (-1) := by grind
    rw [e1] at this; exact this
  rw [e]; exact h
theorem big_of {n : Nat} (h : n < 2 ^ 1100) : n < 2 ^ 3000 := Nat.lt_of_lt_of_le h (Nat.pow_le_pow_right (by decide) (by decide))
end My
namespace My
open PySem PySem.Spec PyProof.Rows L2 DL Lean.Grind
theorem Dom.Sz.zero (d : Dom) (M A L : Nat) : d.Sz M A L 0 := by
  cases d with
  | Z => exact Nat.zero_le A
  | K f => exact Fld.In.zero f M A
  | P f =>
    have : (0 : Pol f.C).l.length ≤ L ∧ ∀ k, f.In M A (cf (0 : Pol f.C).l k) := by
      rw [Pol.zero_l]
      exact ⟨Nat.zero_le _, fun k => by rw [cf_nil]; exact Fld.In.zero f M A⟩
    exact this
end My

namespace My
open PySem PySem.Spec PyProof.Rows L2 DL Lean.Grind
/-! primes, inverses -/
theorem prime_cop {p a : Int} (hp : Prime p) (h : ¬ p ∣ a) : Int.gcd a p = 1 := by
  have h1 : ((Int.gcd a p : Nat) : Int) ∣ a := Int.gcd_dvd_left ..
  have h2 : ((Int.gcd a p : Nat) : Int) ∣ p := Int.gcd_dvd_right ..
  have p2 := hp.1
  have g0 : Int.gcd a p ≠ 0 := fun z => by
    rw [z] at h2
    have := Int.zero_dvd.mp h2
    omega
  apply Classical.byContradiction
  intro g1
  have le := Int.le_of_dvd (by omega) h2
  by_cases e : ((Int.gcd a p : Nat) : Int) = p
  · rw [e] at h1; exact h h1
  · exact notPrime (d := ((Int.gcd a p : Nat) : Int)) (by omega) h2 (by omega) hp
theorem prime_mul {p a b : Int} (hp : Prime p) (h : p ∣ a * b) : p ∣ a ∨ p ∣ b := by
  by_cases c : p ∣ a
  · exact .inl c
  · exact .inr (dvd_cop (by rw [Int.gcd_comm]; exact prime_cop hp c) h)
theorem bez (a b : Nat) : ∃ s t : Int, s * a + t * b = (Nat.gcd a b : Nat) := by
  induction a, b using Nat.gcd.induction with
  | H0 b => exact ⟨0, 1, by simp⟩
  | H1 a b h ih =>
    obtain ⟨s, t, e⟩ := ih
    refine ⟨t - s * ((b / a : Nat) : Int), s, ?_⟩
    rw [Nat.gcd_rec, ← e]
    have : (b : Int) = ((b % a : Nat) : Int) + (a : Int) * ((b / a : Nat) : Int) := by
      have := Nat.mod_add_div b a
      exact_mod_cast this.symm
    generalize ((b % a : Nat) : Int) = r at *
    generalize ((b / a : Nat) : Int) = q at *
    rw [this]
    grind
theorem ibez (a b : Int) : ∃ s t : Int, s * a + t * b = (Int.gcd a b : Nat) := by
  obtain ⟨s, t, e⟩ := bez a.natAbs b.natAbs
  have : ∀ x : Int, ∃ u : Int, ((x.natAbs : Nat) : Int) = u * x := fun x => by
    rcases Int.natAbs_eq x with h | h
    · exact ⟨1, by omega⟩
    · exact ⟨-1, by omega⟩
  obtain ⟨u, hu⟩ := this a
  obtain ⟨v, hv⟩ := this b
  refine ⟨s * u, t * v, ?_⟩
  rw [hu, hv] at e
  have e' : s * (u * a) + t * (v * b) = (Int.gcd a b : Nat) := e
  rw [← e']
  grind
theorem Fld.val_dvd {n : Nat} {x : (Fld.F n).C} (h : ((n + 2 : Nat) : Int) ∣ vF x) : x = 0 := by
  rw [← Fld.num_val x]
  exact Fld.num_eq0.mpr h
theorem Fld.nzd {f : Fld} (ho : f.Ok) {x y : f.C} (h : x * y = 0) : x = 0 ∨ y = 0 := by
  cases f with
  | Q => exact Rat.mul_eq_zero.mp h
  | F n =>
    have h1 : (Fld.F n).num (vF x * vF y) = 0 := by
      rw [Fld.num_mul]
      have ex : (Fld.F n).num (vF x) = x := Fld.num_val x
      have ey : (Fld.F n).num (vF y) = y := Fld.num_val y
      rw [ex, ey]; exact h
    rcases prime_mul ho.1 (Fld.num_eq0.mp h1) with z | z
    · exact .inl (Fld.val_dvd z)
    · exact .inr (Fld.val_dvd z)
theorem Fld.inv_ex {f : Fld} (ho : f.Ok) {x : f.C} (h : x ≠ 0) : ∃ y : f.C, y * x = 1 := by
  cases f with
  | Q =>
    have : ∀ q : Rat, q ≠ 0 → ∃ y : Rat, y * q = 1 := fun q hq => ⟨1 / q, Rat.div_mul_cancel hq⟩
    exact this x h
  | F n =>
    obtain ⟨s, t, e⟩ := ibez (vF x) ((n + 2 : Nat) : Int)
    rw [prime_cop ho.1 (fun z => h (Fld.val_dvd z))] at e
    have := Fld.inv_F (n := n) (m := vF x) (s := s) (t := t) e
    have ex : (Fld.F n).num (vF x) = x := Fld.num_val x
    rw [ex] at this
    exact ⟨_, this⟩
/-- one of the factors is short -/
def Dom.Sh : (d : Dom) → d.C → d.C → Prop
  | .P f, (p : Pol f.C), (q : Pol f.C) => p.l.length ≤ 40 ∨ q.l.length ≤ 40
  | _, _, _ => True
/-- a constant that is not zero times a polynomial -/
theorem Pol.smul_l {f : Fld} (ho : f.Ok) (p q : Pol f.C) (a : f.C) (e : p.l = [a]) : (p * q).l = q.l.map (a * ·) := by
  have ha : a ≠ 0 := by
    have := trim_last p.l p.ok (by rw [e]; simp)
    rw [e] at this
    simpa [cf] using this
  have h1 : PE (p * q).l (q.l.map (a * ·)) := fun k => by
    rw [Pol.cmul, e, cf_map (a * ·) (by grind)]
    cases k with
    | zero => rw [cm0]
    | succ k => rw [cms, cmn]; grind
  have h2 : trim (q.l.map (a * ·)) = q.l.map (a * ·) := by
    refine trim_full _ fun hn => ?_
    have hl : q.l ≠ [] := by intro z; rw [z] at hn; exact hn rfl
    rw [List.length_map, cf_map (a * ·) (by grind)]
    intro z
    rcases Fld.nzd ho z with z | z
    · exact ha z
    · exact trim_last q.l q.ok hl z
  rw [← h2, ← (p * q).ok]
  exact trim_ext _ _ h1
def Fld.Rs : Fld → Int → Prop
  | .Q, m => m ≠ 0
  | .F n, m => Int.gcd m ((n + 2 : Nat) : Int) = 1
end My

namespace My
open PySem PySem.Spec PyProof.Rows L2 DL Lean.Grind
abbrev LE : DEnds := { nx := fun _ => False, rt := fun d => d = .bool true }
theorem Dom.Elt.sz {d : Dom} {x : d.C} (h : d.Elt x) : ∃ M A : Nat, 0 < M ∧ M ≤ 50 ∧ 1 ≤ A ∧ A ≤ 1000000000000 ∧ d.Sz M A 4 x := by
  obtain ⟨M, A, h1, h2, h3, h4, h5⟩ := h
  exact ⟨M, A, h1, h2, h3, by rw [show 10 ^ 12 = 1000000000000 by decide] at h4; exact h4, h5⟩
theorem Dom.Elt.neg {d : Dom} {x : d.C} (h : d.Elt x) : d.Elt (-x) := by
  obtain ⟨M, A, h1, h2, h3, h4, h5⟩ := h
  exact ⟨M, A, h1, h2, h3, h4, h5.neg⟩
theorem lt_big {n : Nat} (h : n < 1000000000000000000000000000000000000000000000000) : n < 2 ^ 3000 := by
  have e : (2 : Nat) ^ 160 = 1461501637330902918203684832716283019655932542976 := by decide
  have h1 : n < 2 ^ 160 := by omega
  exact Nat.lt_of_lt_of_le h1 (Nat.pow_le_pow_right (by decide) (by decide))
theorem Dom.Elt.sm {d : Dom} {x : d.C} (h : d.Elt x) : d.Sm' 3000 x ∧ d.Sm 3000 x := by
  obtain ⟨M, A, M0, M1, A0, A1, hS⟩ := h.sz
  exact hS.sm M0 (lt_big (by omega)) (lt_big (by omega)) (fun _ => by decide)
theorem Dom.Elt.mu {d : Dom} {x y : d.C} (h : d.Elt x) (k : d.Elt y) : d.Mu x y ∧ d.Sm' 3000 (x * y) := by
  obtain ⟨M, A, M0, M1, A0, A1, hS⟩ := h.sz
  obtain ⟨N, B, N0, N1, B0, B1, kS⟩ := k.sz
  have h1 := Nat.mul_le_mul M1 N1
  have h2 := Nat.mul_le_mul A1 B1
  exact ⟨Dom.Mu.of hS kS M0 N0 (lt_big (by omega)) (lt_big (by omega)) (lt_big (by omega)) (lt_big (by omega)) (fun _ => by decide) (fun _ => by decide), ((hS.mul kS (by decide)).sm (Nat.mul_pos M0 N0) (lt_big (by omega)) (lt_big (by omega)) (fun _ => by decide)).1⟩
theorem Dom.Elt.add {d : Dom} {x y z : d.C} (h : d.Elt x) (k : d.Elt y) (l : d.Elt z) : d.Mu (x + y) z ∧ d.Sm' 3000 (x + y) := by
  obtain ⟨M, A, M0, M1, A0, A1, hS⟩ := h.sz
  obtain ⟨N, B, N0, N1, B0, B1, kS⟩ := k.sz
  obtain ⟨O, C, O0, O1, C0, C1, lS⟩ := l.sz
  have h1 := Nat.mul_le_mul M1 N1
  have h2 := Nat.mul_le_mul A1 N1
  have h3 := Nat.mul_le_mul B1 M1
  have h4 := Nat.mul_le_mul h1 O1
  have kS' := kS.scale M0
  rw [Nat.mul_comm N M] at kS'
  have s := (hS.scale N0).add kS'
  have hAB : A * N + B * M ≤ 100000000000000 := by omega
  have h5 := Nat.mul_le_mul hAB C1
  exact ⟨Dom.Mu.of s lS (Nat.mul_pos M0 N0) O0 (lt_big (by omega)) (lt_big (by omega)) (lt_big (by omega)) (lt_big (by rw [Nat.max_self]; omega)) (fun _ => by decide) (fun _ => by decide), (s.sm (Nat.mul_pos M0 N0) (lt_big (by omega)) (lt_big (by omega)) (fun _ => by decide)).1⟩
set_option exponentiation.threshold 4000 in
theorem Dom.Elt.pw {d : Dom} {x : d.C} (h : d.Elt x) {k : Nat} (hk : k ≤ 24) : d.Pw k x := by
  obtain ⟨M, A, M0, M1, A0, A1, hS⟩ := h.sz
  refine ⟨M, A, 4, M0, A0, by decide, hS, ?_, ?_, fun _ => by omega⟩
  · have h1 : M ^ k ≤ 50 ^ 24 := Nat.le_trans (Nat.pow_le_pow_left M1 k) (Nat.pow_le_pow_right (by decide) hk)
    exact Nat.lt_of_le_of_lt h1 (big_of (Nat.lt_of_lt_of_le (show 50 ^ 24 < 2 ^ 150 by decide) (Nat.pow_le_pow_right (by decide) (by decide))))
  · have e42 : (2 : Nat) ^ 42 = 4398046511104 := by decide
    have e7 : (2 : Nat) ^ 7 = 128 := by decide
    have h0 : 4 * A ≤ 2 ^ 42 := by omega
    have h1 : (4 * A) ^ k ≤ (2 ^ 42) ^ 24 := Nat.le_trans (Nat.pow_le_pow_left h0 k) (Nat.pow_le_pow_right (by decide) hk)
    have h2 : 4 * k + 2 ≤ 2 ^ 7 := by omega
    have h3 := Nat.mul_le_mul h2 h1
    rw [← Nat.pow_mul, ← Nat.pow_add] at h3
    exact Nat.lt_of_le_of_lt h3 (big_of (Nat.pow_lt_pow_right (by decide) (by decide)))
theorem Dom.Elt.shl {d : Dom} {x y : d.C} (h : d.Elt x) : d.Sh x y := by
  obtain ⟨M, A, M0, M1, A0, A1, hS⟩ := h.sz
  cases d with
  | Z => trivial
  | K f => trivial
  | P f => exact .inl (Nat.le_trans hS.1 (by decide))
theorem Dom.Elt.shr {d : Dom} {x y : d.C} (h : d.Elt y) : d.Sh x y := by
  obtain ⟨M, A, M0, M1, A0, A1, hS⟩ := h.sz
  cases d with
  | Z => trivial
  | K f => trivial
  | P f => exact .inr (Nat.le_trans hS.1 (by decide))
theorem Dom.Elt.shp {d : Dom} {x : d.C} (h : d.Elt x) {k : Nat} (hk : k ≤ 12) : ∀ a b, a + b ≤ k → d.Sh (gp x a) (gp x b) := fun a b hab => by
  obtain ⟨M, A, M0, M1, A0, A1, hS⟩ := h.sz
  cases d with
  | Z => trivial
  | K f => trivial
  | P f =>
    have h1 := (hS.pow (by decide) a).1
    have h2 := (hS.pow (by decide) b).1
    by_cases c : a ≤ b
    · exact .inl (Nat.le_trans h1 (by omega))
    · exact .inr (Nat.le_trans h2 (by omega))
end My

namespace My
open PySem PySem.Spec PyProof.Rows L2 DL Lean.Grind
/-! values of any kind: what is a field, a domain, an element -/
def isW : D → Bool
  | .int _ => true
  | _ => false
theorem eqv_str {x : D} {s : Str} : PyData.eqv x (.str s) = true ↔ x = .str s := by
  cases x <;> simp [PyData.eqv]
theorem eqv_strT {x : D} {s : Str} : PyData.eqv x (.tuple [.str s]) = true ↔ x = .tuple [.str s] := by
  cases x with
  | tuple l =>
    rcases l with _ | ⟨a, _ | ⟨b, l⟩⟩
    · simp [PyData.eqv, PyData.eqvAll]
    · simp [PyData.eqv, PyData.eqvAll, eqv_str]
    · simp [PyData.eqv, PyData.eqvAll]
  | _ => simp [PyData.eqv]
theorem dEq_any {x y : D} {P : D → Prop} (hx : x.plain = true) (hy : y.plain = true) (hd : y.depth ≤ 64) (h : ∀ b : Bool, b = PyData.eqv x y → P (.bool b)) : dEq x y P := ⟨⟨hx, hy, .inr hd⟩, h _ rfl⟩
theorem dNe_any {x y : D} {P : D → Prop} (hx : x.plain = true) (hy : y.plain = true) (hd : y.depth ≤ 64) (h : ∀ b : Bool, b = PyData.eqv x y → P (.bool (!b))) : dNe x y P := ⟨⟨hx, hy, .inr hd⟩, h _ rfl⟩
theorem dEq_str {x : D} {s : Str} {P : D → Prop} (hx : x.plain = true) (h : ∀ b : Bool, (b = true ↔ x = .str s) → P (.bool b)) : dEq x (.str s) P := dEq_any hx rfl (by simp [PyData.depth]) fun b hb => h b (by rw [hb, eqv_str])
theorem dEq_strT {x : D} {s : Str} {P : D → Prop} (hx : x.plain = true) (h : ∀ b : Bool, (b = true ↔ x = .tuple [.str s]) → P (.bool b)) : dEq x (.tuple [.str s]) P := dEq_any hx rfl (by simp [PyData.depth, PyData.depthAll]) fun b hb => h b (by rw [hb, eqv_strT])
def IsFld (d : D) : Prop := ∃ f : Fld, f.Ok ∧ d = f.enc
def IsEuc (d : D) : Prop := d = Dom.Z.enc ∨ ∃ f : Fld, f.Ok ∧ d = (Dom.P f).enc
def IsDom (d : D) : Prop := ∃ e : Dom, e.Ok ∧ d = e.enc
theorem isDom_iff {d : D} : IsDom d ↔ IsEuc d ∨ IsFld d := by
  constructor
  · rintro ⟨e, ho, rfl⟩
    cases e with
    | Z => exact .inl (.inl rfl)
    | K f => exact .inr ⟨f, ho, rfl⟩
    | P f => exact .inl (.inr ⟨f, ho, rfl⟩)
  · rintro ((rfl | ⟨f, ho, rfl⟩) | ⟨f, ho, rfl⟩)
    · exact ⟨.Z, trivial, rfl⟩
    · exact ⟨.P f, ho, rfl⟩
    · exact ⟨.K f, ho, rfl⟩
theorem IsFld.tup {d : D} (h : IsFld d) : ∃ l, d = .tuple l := by
  obtain ⟨f, _, rfl⟩ := h
  exact f.enc_len
theorem IsEuc.tup {d : D} (h : IsEuc d) : ∃ l, d = .tuple l := by
  rcases h with rfl | ⟨f, _, rfl⟩
  · exact ⟨_, rfl⟩
  · exact ⟨_, rfl⟩
/-- a field of the form ('F', b) -/
theorem isFld_F {b : D} : IsFld (.tuple [.str tF, b]) ↔ ∃ n : Int, b = .int n ∧ n ≤ 65521 ∧ Prime n := by
  constructor
  · rintro ⟨f, ho, e⟩
    cases f with
    | Q => simp [Fld.enc] at e
    | F n =>
      simp only [Fld.enc, PyData.tuple.injEq, List.cons.injEq, and_true, true_and] at e
      have ho2 := ho.2
      exact ⟨_, e, by omega, ho.1⟩
  · rintro ⟨n, rfl, hn, hp⟩
    have := hp.1
    refine ⟨.F (n - 2).toNat, ⟨?_, by omega⟩, ?_⟩
    · rw [show (((n - 2).toNat + 2 : Nat) : Int) = n by omega]; exact hp
    · simp only [Fld.enc, PyData.tuple.injEq, List.cons.injEq, PyData.int.injEq, and_true, true_and]
      omega
theorem isFld_Q {d : D} (h : ∀ b, d ≠ .tuple [.str tF, b]) : IsFld d ↔ d = .tuple [.str tQ] := by
  constructor
  · rintro ⟨f, ho, rfl⟩
    cases f with
    | Q => rfl
    | F n => exact absurd rfl (h _)
  · rintro rfl
    exact ⟨.Q, trivial, rfl⟩
theorem isEuc_P {b : D} : IsEuc (.tuple [.str tP, b]) ↔ IsFld b := by
  constructor
  · rintro (e | ⟨f, ho, e⟩)
    · simp [Dom.enc] at e
    · simp only [Dom.enc, PyData.tuple.injEq, List.cons.injEq, and_true, true_and] at e
      exact ⟨f, ho, e⟩
  · rintro ⟨f, ho, rfl⟩
    exact .inr ⟨f, ho, rfl⟩
theorem isEuc_Z {d : D} (h : ∀ b, d ≠ .tuple [.str tP, b]) : IsEuc d ↔ d = .tuple [.str tZ] := by
  constructor
  · rintro (rfl | ⟨f, ho, rfl⟩)
    · rfl
    · exact absurd rfl (h _)
  · rintro rfl
    exact .inl rfl
/-- an element -/
def Dom.Has (d : Dom) (x : D) : Prop := ∃ e : d.C, x = d.el e
theorem bool_ext {a b : Bool} {P : Prop} (h : a = true ↔ P) (k : b = true ↔ P) : a = b := by
  cases a <;> cases b <;> simp_all
theorem Fld.enc_plain (f : Fld) : f.enc.plain = true ∧ f.enc.depth ≤ 2 := by cases f <;> simp [Fld.enc, PyData.plain, PyData.plainAll, PyData.depth, PyData.depthAll]
theorem Dom.enc_plain (d : Dom) : d.enc.plain = true ∧ d.enc.depth ≤ 3 := by
  cases d with
  | Z => simp [Dom.enc, PyData.plain, PyData.plainAll, PyData.depth, PyData.depthAll]
  | K f => exact ⟨f.enc_plain.1, by have := f.enc_plain.2; simp only [Dom.enc]; omega⟩
  | P f =>
    have h := f.enc_plain
    simp only [Dom.enc, PyData.plain, PyData.plainAll, PyData.depth, PyData.depthAll, h.1, Bool.and_true, Bool.true_and]
    refine ⟨trivial, ?_⟩
    omega
theorem plain_mem : ∀ {l : List D} {x : D}, PyData.plainAll l = true → x ∈ l → x.plain = true
  | a :: l, x, h, hx => by
    simp only [PyData.plainAll, Bool.and_eq_true] at h
    rcases List.mem_cons.mp hx with rfl | hx
    · exact h.1
    · exact plain_mem h.2 hx
theorem plain_tup {l : List D} {x : D} (h : (PyData.tuple l).plain = true) (hx : x ∈ l) : x.plain = true := plain_mem (by simpa [PyData.plain] using h) hx
theorem tyD_plain {x : D} (h : x.plain = true) : tyD x ≠ none := by cases x <;> simp_all [tyD, PyData.plain]
theorem rat_of {n d : Int} (hd : 1 ≤ d) (h : Int.gcd n d = 1) : ∃ q : Fld.Q.C, PyData.tuple [.int n, .int d] = Fld.Q.el q := by
  refine ⟨(⟨n, d.toNat, by omega, ?_⟩ : Rat), ?_⟩
  · show Nat.gcd n.natAbs d.toNat = 1
    rw [show d.toNat = d.natAbs by omega]; exact h
  · show _ = PyData.tuple [.int n, .int ((d.toNat : Nat) : Int)]
    rw [Int.toNat_of_nonneg (by omega)]
theorem Q_has {x : D} : (Dom.K .Q).Has x ↔ ∃ n d : Int, x = .tuple [.int n, .int d] ∧ 1 ≤ d ∧ Int.gcd n d = 1 := by
  constructor
  · rintro ⟨q, rfl⟩
    have h1 := qd_pos q
    refine ⟨qn q, qd q, rfl, by omega, ?_⟩
    show Nat.gcd (Rat.num q).natAbs (Rat.den q) = 1
    exact Rat.reduced q
  · rintro ⟨n, d, rfl, hd, hg⟩
    obtain ⟨q, e⟩ := rat_of hd hg
    exact ⟨q, e⟩
theorem F_has {m : Nat} {x : D} : (Dom.K (.F m)).Has x ↔ ∃ n : Int, x = .int n ∧ 0 ≤ n ∧ n < ((m + 2 : Nat) : Int) := by
  constructor
  · rintro ⟨q, rfl⟩
    have := vF_bd q
    exact ⟨vF q, rfl, this.1, this.2⟩
  · rintro ⟨n, rfl, h0, h1⟩
    refine ⟨(⟨n.toNat, by omega⟩ : Fin (m + 2)), ?_⟩
    show PyData.int n = .int ((n.toNat : Nat) : Int)
    rw [Int.toNat_of_nonneg h0]
theorem Z_has {x : D} : Dom.Z.Has x ↔ ∃ n : Int, x = .int n := ⟨fun ⟨n, h⟩ => ⟨n, h⟩, fun ⟨n, h⟩ => ⟨n, h⟩⟩
/-- a polynomial's parts -/
theorem has_list {f : Fld} : ∀ {l : List D}, (∀ x ∈ l, (Dom.K f).Has x) → ∃ cs : List f.C, l = cs.map f.el
  | [], _ => ⟨[], rfl⟩
  | x :: l, h => by
    obtain ⟨c, hc⟩ := h x (List.mem_cons_self ..)
    obtain ⟨cs, hs⟩ := has_list (l := l) fun y hy => h y (List.mem_cons_of_mem _ hy)
    exact ⟨c :: cs, by rw [hc, hs]; rfl⟩
theorem P_has {f : Fld} {l : List D} : (Dom.P f).Has (.tuple l) ↔ ∃ cs : List f.C, l = cs.map f.el ∧ (cs ≠ [] → cf cs (cs.length - 1) ≠ 0) := by
  constructor
  · rintro ⟨p, e⟩
    have e' : l = (Pol.l p).map f.el := by
      have : PyData.tuple l = .tuple ((Pol.l p).map f.el) := e
      simpa using this
    exact ⟨Pol.l p, e', trim_last (Pol.l p) (Pol.ok p)⟩
  · rintro ⟨cs, rfl, h⟩
    exact ⟨(⟨cs, trim_full cs h⟩ : Pol f.C), rfl⟩
theorem P_tup {f : Fld} {x : D} (h : (Dom.P f).Has x) : ∃ l, x = .tuple l := by
  obtain ⟨p, rfl⟩ := h
  exact ⟨_, rfl⟩
theorem getlast_split {α : Type} (l : List α) (h : l ≠ []) : ∃ a i, l = i ++ [a] := ⟨l.getLast h, l.dropLast, (List.dropLast_concat_getLast h).symm⟩
/-- xs[-1] -/
theorem dIx_lastT {f : Fld} {cs : List f.C} {P : D → Prop} (h : cs ≠ []) (hp : P (f.el (cf cs (cs.length - 1)))) : dIx (.tuple (cs.map f.el)) (.int (-1)) P := by
  obtain ⟨a, i, e⟩ := getlast_split cs h
  subst e
  refine ⟨f.el a, ?_, ?_⟩
  · rw [List.map_append]; exact atI_last _ _
  · have : cf (i ++ [a]) ((i ++ [a]).length - 1) = a := by
      rw [List.length_append, List.length_singleton, Nat.add_sub_cancel]
      unfold cf
      simp [List.getD_eq_getElem?_getD]
    rwa [this] at hp
/-- plain, and a tuple of not too many parts -/
def shortB : D → Bool
  | .tuple l => decide (l.length ≤ 1000)
  | _ => true
theorem shortB_t (l : List D) : shortB (.tuple l) = decide (l.length ≤ 1000) := rfl
theorem shortB_n : shortB .none = true := rfl
theorem shortB_b (b : Bool) : shortB (.bool b) = true := rfl
theorem shortB_i (b : Int) : shortB (.int b) = true := rfl
theorem shortB_s (b : Str) : shortB (.str b) = true := rfl
def plainS (x : D) : Bool := x.plain && shortB x
theorem plainS_p {x : D} (h : plainS x = true) : x.plain = true := by
  unfold plainS at h
  rw [Bool.and_eq_true] at h
  exact h.1
theorem plainS_l {l : List D} (h : plainS (.tuple l) = true) : l.length ≤ 1000 := by
  unfold plainS at h
  rw [Bool.and_eq_true] at h
  simpa [shortB] using h.2
/-- what may be a domain, by its looks -/
def fldB : D → Bool
  | .tuple [.str s] => s == tQ
  | .tuple [.str s, .int n] => s == tF && decide (2 ≤ n) && decide (n ≤ 65521) && (decide (n ≤ 3) || (n % 2 != 0 && n % 3 != 0))
  | _ => false
def domB : D → Bool
  | .tuple [.str s] => s == tZ || s == tQ
  | .tuple [.str s, b] => (s == tP && fldB b) || fldB (.tuple [.str s, b])
  | _ => false
theorem fldB_of {d : D} (h : IsFld d) : fldB d = true := by
  obtain ⟨f, ho, rfl⟩ := h
  cases f with
  | Q => simp [Fld.enc, fldB]
  | F n =>
    have hp := ho.1
    have h2 := ho.2
    simp only [Fld.enc, fldB, beq_self_eq_true, Bool.true_and, Bool.and_eq_true, Bool.or_eq_true, decide_eq_true_eq, bne_iff_ne]
    refine ⟨⟨by omega, by omega⟩, ?_⟩
    by_cases c : ((n + 2 : Nat) : Int) ≤ 3
    · exact .inl c
    · refine .inr ⟨fun z => ?_, fun z => ?_⟩
      · exact notPrime (d := 2) (by decide) (Int.dvd_of_emod_eq_zero z) (by omega) hp
      · exact notPrime (d := 3) (by decide) (Int.dvd_of_emod_eq_zero z) (by omega) hp
theorem domB_of {d : D} (h : IsDom d) : domB d = true := by
  obtain ⟨e, ho, rfl⟩ := h
  cases e with
  | Z => simp [Dom.enc, domB]
  | K f =>
    have k := fldB_of ⟨f, ho, rfl⟩
    cases f with
    | Q => simp [Dom.enc, Fld.enc, domB]
    | F n =>
      simp only [Dom.enc, Fld.enc, domB] at k ⊢
      rw [k, Bool.or_true]
  | P f =>
    have k := fldB_of ⟨f, ho, rfl⟩
    simp [Dom.enc, domB, k]
/-- surely no domain, and plain -/
def badB (d : D) : Bool := d.plain && !domB d
theorem badB_of {d : D} (h : badB d = true) : d.plain = true ∧ ¬ IsDom d := by
  unfold badB at h
  rw [Bool.and_eq_true] at h
  refine ⟨h.1, fun z => ?_⟩
  rw [domB_of z] at h
  simp at h
theorem notPrime_mul {p q : Int} (hp : 2 ≤ p) (hq : 2 ≤ q) : ¬ Prime (p * q) := by
  have h := Int.mul_le_mul (Int.le_refl p) hq (by omega) (by omega)
  exact notPrime hp ⟨q, rfl⟩ (by omega)
theorem bad_F {n : Int} (h : ¬ Prime n) : ¬ IsDom (.tuple [.str tF, .int n]) ∧ ¬ IsDom (.tuple [.str tP, .tuple [.str tF, .int n]]) := by
  have hf : ¬ IsFld (.tuple [.str tF, .int n]) := fun z => by
    obtain ⟨m, e, _, hm⟩ := isFld_F.mp z
    cases e
    exact h hm
  refine ⟨fun z => ?_, fun z => ?_⟩
  · rcases isDom_iff.mp z with z | z
    · rcases z with e | ⟨f, _, e⟩
      · simp [Dom.enc] at e
      · simp only [Dom.enc, PyData.tuple.injEq, List.cons.injEq, PyData.str.injEq] at e
        exact s_ne s_FP e.1
    · exact hf z
  · rcases isDom_iff.mp z with z | z
    · exact hf (isEuc_P.mp z)
    · obtain ⟨f, _, e⟩ := z
      cases f with
      | Q => simp [Fld.enc] at e
      | F n => simp [Fld.enc] at e
/-! ## one divided by x -/
theorem In_small_inv {x q : Fld.Q.C} (hx : x ≠ 0) (h : q * Fld.Q.num (qn x) = Fld.Q.num (qd x)) : q * x = 1 ∧ ∀ k, Fld.Q.Small k x → Fld.Q.Small k q := by
  have hn : qn x ≠ 0 := fun z => hx (by
    have e := q_eq x
    rw [z, Fld.num_zero] at e
    rcases Fld.nzd (f := .Q) trivial e with e | e
    · exact e
    · have : ((qd x : Nat) : Rat) = 0 := e
      have := Rat.natCast_eq_zero_iff.mp this
      have := qd_pos x
      omega)
  refine ⟨?_, fun k s => ?_⟩
  · have e := q_eq x
    have i : Fld.Q.Inv ((qd x : Nat) : Int) := Fld.inv_Q (by have := qd_pos x; omega)
    refine i.cancel ?_
    have e2 : q * x * Fld.Q.num ((qd x : Nat) : Int) = q * (x * Fld.Q.num ((qd x : Nat) : Int)) := by grind
    rw [e2, e, h]
    grind
  · have hs := small_Q s
    rcases Int.lt_or_gt_of_ne hn with c | c
    · have I := In_of (x := q) (n := qd x) (m := qn x) h (k := -1) (M := (qn x).natAbs) (A := qd x) (by omega) (by omega)
      exact I.small (by omega) hs.1 hs.2
    · have I := In_of (x := q) (n := qd x) (m := qn x) h (k := 1) (M := (qn x).natAbs) (A := qd x) (by omega) (by omega)
      exact I.small (by omega) hs.1 hs.2
theorem Dom.Elt.zero (d : Dom) : d.Elt 0 := ⟨1, 1, by decide, by decide, by decide, by decide, Dom.Sz.zero d 1 1 4⟩
theorem Dom.num_one' (d : Dom) : d.num 1 = 1 := by
  cases d with
  | Z => rfl
  | K f => exact f.num_one
  | P f =>
    show Pol.of [f.num 1] = 1
    rw [f.num_one]
    refine Pol.ext' fun k => ?_
    rw [pe_of, Pol.one_l]
theorem Dom.Elt.one (d : Dom) : d.Elt 1 := ⟨1, 1, by decide, by decide, by decide, by decide, (Dom.Sz.one d).mono (by decide) (by decide)⟩
/-- the field of a domain, where it is one -/
def Dom.isK : Dom → Prop
  | .K _ => True
  | _ => False
theorem isFld_enc {d : Dom} (ho : d.Ok) : IsFld d.enc ↔ d.isK := by
  cases d with
  | K f => exact ⟨fun _ => trivial, fun _ => ⟨f, ho, rfl⟩⟩
  | Z =>
    refine ⟨fun ⟨f, _, e⟩ => ?_, fun h => h.elim⟩
    cases Dom.enc_inj (d := .Z) (e := .K f) e
  | P g =>
    refine ⟨fun ⟨f, _, e⟩ => ?_, fun h => h.elim⟩
    cases Dom.enc_inj (d := .P g) (e := .K f) e
theorem Fld.Small.mul {f : Fld} {a b : Nat} {x y : f.C} (h : f.Small a x) (k : f.Small b y) : f.Small (a + b) (x * y) := by
  cases f with
  | F n => trivial
  | Q =>
    have hx := small_Q h
    have hy := small_Q k
    have px := qd_pos x
    have py := qd_pos y
    have e : x * y * Fld.Q.num ((qd x : Int) * qd y) = Fld.Q.num (qn x * qn y) := by
      rw [Fld.num_mul, Fld.num_mul, ← q_eq x, ← q_eq y]; grind
    have I := In_of (x := x * y) e (k := 1) (M := qd x * qd y) (A := (qn x).natAbs * (qn y).natAbs) (by simp) (by rw [Int.mul_one, Int.natAbs_mul]; exact Nat.le_refl _)
    refine I.small (Nat.mul_pos px py) ?_ ?_
    · rw [Nat.pow_add]; exact Nat.mul_lt_mul'' hx.2 hy.2
    · rw [Nat.pow_add]; exact Nat.mul_lt_mul'' hx.1 hy.1
theorem Fld.Small.up {f : Fld} {a b : Nat} {x : f.C} (h : f.Small a x) (k : a ≤ b) : f.Small b x := by
  cases f with
  | F n => trivial
  | Q =>
    have := Nat.pow_le_pow_right (n := 2) (by decide) k
    exact ⟨Nat.lt_of_lt_of_le h.1 this, Nat.lt_of_lt_of_le h.2 this⟩
theorem Dom.Elt.small {f : Fld} {x : f.C} (h : (Dom.K f).Elt x) : f.Small 100 x := by
  obtain ⟨M, A, M0, M1, A0, A1, hS⟩ := h.sz
  have e : (2 : Nat) ^ 100 = 1267650600228229401496703205376 := by decide
  exact Fld.In.small hS M0 (by omega) (by omega)
end My

namespace My
open PySem PySem.Spec PyProof.Rows L2 DL Lean.Grind
/-! division of lists -/
section
variable {R : Type} [CommRing R]
theorem cf_pmul_set : ∀ (q b : List R) (i : Nat) (t : R) (k : Nat), i < q.length → cf q i = 0 → cf (pmul (q.set i t) b) k = cf (pmul q b) k + if i ≤ k then t * cf b (k - i) else 0
  | [], b, i, t, k, h, _ => by simp at h
  | q0 :: q, b, 0, t, k, _, h0 => by
    rw [cf_zero] at h0
    rw [List.set_cons_zero, if_pos (Nat.zero_le k), Nat.sub_zero]
    cases k with
    | zero => rw [cm0, cm0, h0]; grind
    | succ k => rw [cms, cms, h0]; grind
  | q0 :: q, b, i + 1, t, 0, h, h0 => by
    rw [List.set_cons_succ, cm0, cm0, if_neg (by omega)]; grind
  | q0 :: q, b, i + 1, t, k + 1, h, h0 => by
    rw [cf_succ] at h0
    have ih := cf_pmul_set q b i t k (by simpa using h) h0
    rw [List.set_cons_succ, cms, cms, ih, show k + 1 - (i + 1) = k - i by omega]
    by_cases c : i ≤ k
    · rw [if_pos c, if_pos (by omega)]; grind
    · rw [if_neg c, if_neg (by omega)]; grind
end
theorem cf_dropLast {R : Type} [CommRing R] [DecidableEq R] (l : List R) (k : Nat) : cf l.dropLast k = if k < l.length - 1 then cf l k else 0 := by rw [List.dropLast_eq_take, cf_take]
theorem cutD_init (xs : List D) : DL.cutD xs none (some (-1)) = xs.dropLast := by
  unfold DL.cutD
  rw [HT.sIx_none, List.drop_zero, Nat.sub_zero, List.dropLast_eq_take]
  congr 1
  unfold HT.sIx
  simp
  omega
theorem dIx_lastL {cs : List Int} {P : D → Prop} (h : cs ≠ []) (hp : P (.int (cf cs (cs.length - 1)))) : dIx (.list (cs.map .int)) (.int (-1)) P := by
  obtain ⟨a, i, e⟩ := getlast_split cs h
  subst e
  refine ⟨.int a, ?_, ?_⟩
  · rw [List.map_append]; exact atI_last _ _
  · have : cf (i ++ [a]) ((i ++ [a]).length - 1) = a := by
      rw [List.length_append, List.length_singleton, Nat.add_sub_cancel]
      unfold cf
      simp [List.getD_eq_getElem?_getD]
    rwa [this] at hp
theorem int_last {l : List Int} (h : l ≠ []) : (l.map PyData.int)[(l.map PyData.int).length - 1]? = some (.int (cf l (l.length - 1))) := by
  have hp : 0 < l.length := List.length_pos_iff.mpr h
  have h1 : (l.map PyData.int).length - 1 < (l.map PyData.int).length := by rw [List.length_map]; omega
  have h2 := List.getElem?_eq_getElem h1
  rw [h2, int_get h2, List.length_map]
/-- the size of a number over a field -/
def Fld.Bdd (W : Nat) : Fld → Int → Prop
  | .Q, x => x.natAbs ≤ W
  | .F n, x => 0 ≤ x ∧ x < (n + 2 : Nat)
/-- the greatest absolute value, at least one -/
def nm (l : List Int) : Nat := l.foldr (fun x m => max x.natAbs m) 1
theorem nm_pos : ∀ l : List Int, 1 ≤ nm l
  | [] => Nat.le_refl 1
  | x :: l => Nat.le_trans (nm_pos l) (Nat.le_max_right ..)
theorem nm_le : ∀ (l : List Int) (k : Nat), (cf l k).natAbs ≤ nm l
  | [], k => by rw [cf_nil]; exact Nat.zero_le _
  | x :: l, 0 => by rw [cf_zero]; exact Nat.le_max_left ..
  | x :: l, k + 1 => by rw [cf_succ]; exact Nat.le_trans (nm_le l k) (Nat.le_max_right ..)
theorem nm_of {A : Nat} (h0 : 1 ≤ A) : ∀ {l : List Int}, (∀ k, (cf l k).natAbs ≤ A) → nm l ≤ A
  | [], _ => h0
  | x :: l, h => Nat.max_le.mpr ⟨by have := h 0; rwa [cf_zero] at this, nm_of h0 fun k => by have := h (k + 1); rwa [cf_succ] at this⟩
/-- the size of what a division gives -/
def Wd (a b : List Int) : Nat := nm a * (2 * nm b) ^ (a.length + 1 - b.length)
theorem Wd_ge (a b : List Int) {i : Nat} (h : i ≤ a.length + 1 - b.length) : nm a * (2 * nm b) ^ i ≤ Wd a b := Nat.mul_le_mul_left _ (Nat.pow_le_pow_right (by have := nm_pos b; omega) h)
theorem Wd_b (a b : List Int) {i : Nat} (h : i ≤ a.length + 1 - b.length) : nm b ^ i ≤ Wd a b := by
  have h1 : nm b ^ i ≤ (2 * nm b) ^ i := Nat.pow_le_pow_left (by omega) i
  have h2 := Wd_ge a b h
  have h3 : (2 * nm b) ^ i ≤ nm a * (2 * nm b) ^ i := Nat.le_mul_of_pos_left _ (nm_pos a)
  omega
/-- k a = q b + r -/
structure Divd (f : Fld) (a b q r : List Int) (k : Int) : Prop where
  rs : f.Rs k
  inv : f.Inv k
  k0 : 0 < k
  kW : k.natAbs ≤ Wd a b
  eq : ∀ j, f.num (k * cf a j) = f.num (cf (pmul q b) j + cf r j)
  lr : r.length < b.length
  tr : trim r = r
  lq : q.length ≤ a.length
  bd : ∀ j, f.Bdd (Wd a b) (cf q j) ∧ f.Bdd (Wd a b) (cf r j)
/-- what a division asks of the sizes -/
def DivPre (f : Fld) (a b : List Int) : Prop := b ≠ [] ∧ f.num (cf b (b.length - 1)) ≠ 0 ∧ a.length ≤ 1000 ∧ b.length ≤ 1000 ∧ match f with
  | .Q => Wd a b < 2 ^ 3000
  | .F n => (∀ j, 0 ≤ cf a j ∧ cf a j < (n + 2 : Nat)) ∧ ∀ j, 0 ≤ cf b j ∧ cf b j < (n + 2 : Nat)
theorem cf_imap (c : Int) (l : List Int) (k : Nat) : cf (l.map fun x => c * x) k = c * cf l k := cf_map (fun x => c * x) (by simp) l k
theorem pmul_imap (c : Int) (l b : List Int) (k : Nat) : cf (pmul (l.map fun x => c * x) b) k = c * cf (pmul l b) k := psm_mul c l b k
theorem last_ne {l : List Int} (h : trim l = l) (hn : l ≠ []) : cf l (l.length - 1) ≠ 0 := trim_last l h hn
theorem Pol.len_of {R : Type} [CommRing R] [DecidableEq R] (p : Pol R) {L : Nat} (h : ∀ k, L ≤ k → cf p.l k = 0) : p.l.length ≤ L := by
  by_cases hn : p.l = []
  · rw [hn]; exact Nat.zero_le _
  · have hl := trim_last p.l p.ok hn
    have hp : 0 < p.l.length := List.length_pos_iff.mpr hn
    by_cases c : p.l.length ≤ L
    · exact c
    · exact absurd (h _ (by omega)) hl
theorem Fld.Over.In {f : Fld} {x : List f.C} {a : List Int} {m : Int} {A : Nat} (h : f.Over x a m) (m0 : 0 < m) (hA : ∀ k, (cf a k).natAbs ≤ A) (k : Nat) : f.In m.toNat A (cf x k) := by
  cases f with
  | F n => trivial
  | Q => exact In_of (h.2 k) (k := 1) (by omega) (by rw [Int.mul_one]; exact hA k)
theorem Fld.Over.len {f : Fld} {x : Pol f.C} {a : List Int} {m : Int} (h : f.Over x.l a m) : x.l.length ≤ a.length := x.len_of fun k hk => by
  refine h.1.cancel ?_
  rw [h.2 k, cf_out hk, f.num_zero]; grind
theorem Fld.Over.last {f : Fld} {x : Pol f.C} {a : List Int} {m : Int} (h : f.Over x.l a m) (hl : a.length = x.l.length) (hx : x ≠ 0) : a ≠ [] ∧ f.num (cf a (a.length - 1)) ≠ 0 := by
  have hn : x.l ≠ [] := fun z => hx (Pol.ext' fun k => by rw [z, Pol.zero_l])
  have hp : 0 < x.l.length := List.length_pos_iff.mpr hn
  refine ⟨fun z => by rw [z] at hl; simp at hl; omega, fun z => trim_last x.l x.ok hn ?_⟩
  rw [← hl]
  refine h.1.cancel ?_
  rw [h.2, z]; grind
/-- what a division of the lists says of the polynomials -/
theorem Divd.pol {f : Fld} {x y q' r' : Pol f.C} {a b q r : List Int} {m n k : Int} (ha : f.Over x.l a m) (hb : f.Over y.l b n) (hd : Divd f a b q r k) (hq : f.Over q'.l (q.map fun c => n * c) (k * m)) (hr : f.Over r'.l r (k * m)) : x = q' * y + r' := by
  have h1 := hq.mul hb
  have ikm := hd.inv.mul ha.1
  refine Pol.ext' fun j => ?_
  rw [Pol.cadd, Pol.cmul]
  have e1 := h1.2 j
  rw [pmul_imap, Fld.num_mul, Fld.num_mul] at e1
  have e2 : cf (pmul q'.l y.l) j * f.num (k * m) = f.num (cf (pmul q b) j) := by
    refine hb.1.cancel ?_
    rw [Fld.num_mul] at e1 ⊢
    grind
  have e3 := hr.2 j
  have e4 := ha.2 j
  have e5 := hd.eq j
  rw [Fld.num_mul, Fld.num_add] at e5
  refine ikm.cancel ?_
  rw [Fld.num_mul] at e2 e3 ⊢
  grind
/-- the numbers of a field as residues or numerators are small -/
theorem Fld.Bdd.le {f : Fld} (ho : f.Ok) {W : Nat} {x : Int} (h : f.Bdd W x) : x.natAbs ≤ W + 2 ^ 17 := by
  cases f with
  | Q => exact Nat.le_trans h (Nat.le_add_right ..)
  | F n =>
    have h : 0 ≤ x ∧ x < ((n + 2 : Nat) : Int) := h
    have : n + 2 ≤ 65521 := ho.2
    have : (2 : Nat) ^ 17 = 131072 := by decide
    omega
theorem Fld.Bd.le {f : Fld} (ho : f.Ok) {M A : Nat} {a : List Int} {m : Int} (h : f.Bd M A a m) (M0 : 0 < M) : m ≤ M ∧ ∀ k, (cf a k).natAbs ≤ A + 2 ^ 17 := by
  cases f with
  | Q => exact ⟨h.1, fun k => Nat.le_trans (h.2 k) (Nat.le_add_right ..)⟩
  | F n =>
    have h1 : m = 1 := h.1
    refine ⟨by omega, fun k => ?_⟩
    have h2 : 0 ≤ cf a k ∧ cf a k < ((n + 2 : Nat) : Int) := h.2 k
    have : n + 2 ≤ 65521 := ho.2
    have : (2 : Nat) ^ 17 = 131072 := by decide
    omega
theorem Fld.Rs.mul {f : Fld} {m n : Int} (h : f.Rs m) (k : f.Rs n) : f.Rs (m * n) := by
  cases f with
  | Q => exact Int.mul_ne_zero h k
  | F p =>
    have h : Int.gcd m ((p + 2 : Nat) : Int) = 1 := h
    have k : Int.gcd n ((p + 2 : Nat) : Int) = 1 := k
    show Nat.gcd (m * n).natAbs ((p + 2 : Nat) : Int).natAbs = 1
    rw [Int.natAbs_mul]
    exact Nat.Coprime.mul_left h k
theorem Wd_le {a b : List Int} {A B : Nat} (ha : ∀ k, (cf a k).natAbs ≤ A) (hb : ∀ k, (cf b k).natAbs ≤ B) (h1 : 1 ≤ A) (h2 : 1 ≤ B) : Wd a b ≤ A * (2 * B) ^ (a.length + 1 - b.length) :=
  Nat.mul_le_mul (nm_of h1 ha) (Nat.pow_le_pow_left (Nat.mul_le_mul_left _ (nm_of h2 hb)) _)
/-- numerators and one denominator up to 2 ^ e -/
def Dom.Ez (e L : Nat) (d : Dom) (x : d.C) : Prop := ∃ M A : Nat, 0 < M ∧ M ≤ 2 ^ e ∧ A ≤ 2 ^ e ∧ d.Sz M A L x
theorem Dom.Ez.mono {e L g K : Nat} {d : Dom} {x : d.C} (h : d.Ez e L x) (h1 : e ≤ g) (h2 : L ≤ K) : d.Ez g K x := by
  obtain ⟨M, A, M0, M1, A1, hS⟩ := h
  have := Nat.pow_le_pow_right (n := 2) (by decide) h1
  exact ⟨M, A, M0, by omega, by omega, hS.mono (Nat.le_refl _) h2⟩
theorem Dom.Ez.zero (d : Dom) : d.Ez 0 0 0 := ⟨1, 1, by decide, by decide, by decide, Dom.Sz.zero d 1 1 0⟩
theorem Dom.Ez.one (d : Dom) : d.Ez 0 1 1 := ⟨1, 1, by decide, by decide, by decide, Dom.Sz.one d⟩
theorem Dom.Ez.neg {e L : Nat} {d : Dom} {x : d.C} (h : d.Ez e L x) : d.Ez e L (-x) := by
  obtain ⟨M, A, M0, M1, A1, hS⟩ := h
  exact ⟨M, A, M0, M1, A1, hS.neg⟩
theorem Dom.Elt.ez {d : Dom} {x : d.C} (h : d.Elt x) : d.Ez 40 4 x := by
  obtain ⟨M, A, M0, M1, A0, A1, hS⟩ := h.sz
  have : (2 : Nat) ^ 40 = 1099511627776 := by decide
  exact ⟨M, A, M0, by omega, by omega, hS⟩
theorem Dom.Ez.mul {e L g K : Nat} {d : Dom} {x y : d.C} (h : d.Ez e L x) (k : d.Ez g K y) (hL : 1 ≤ L) (h8 : L ≤ 64) : d.Ez (e + g + 6) (L + K) (x * y) := by
  obtain ⟨M, A, M0, M1, A1, hS⟩ := h
  obtain ⟨N, B, N0, N1, B1, kS⟩ := k
  have h1 := Nat.mul_le_mul M1 N1
  have h2 := Nat.mul_le_mul A1 B1
  rw [← Nat.pow_add] at h1 h2
  have p : 2 ^ (e + g + 6) = 64 * 2 ^ (e + g) := by rw [Nat.pow_add, Nat.mul_comm]
  refine ⟨M * N, L * (A * B), Nat.mul_pos M0 N0, by omega, ?_, hS.mul kS hL⟩
  rw [p]
  exact Nat.mul_le_mul h8 h2
theorem Dom.Ez.add {e L g K : Nat} {d : Dom} {x y : d.C} (h : d.Ez e L x) (k : d.Ez g K y) : d.Ez (e + g + 1) (max L K) (x + y) := by
  obtain ⟨M, A, M0, M1, A1, hS⟩ := h
  obtain ⟨N, B, N0, N1, B1, kS⟩ := k
  have h1 := Nat.mul_le_mul M1 N1
  have h2 := Nat.mul_le_mul A1 N1
  have h3 := Nat.mul_le_mul B1 M1
  have kS' := kS.scale M0
  rw [Nat.mul_comm N M] at kS'
  rw [← Nat.pow_add] at h1 h2 h3
  rw [Nat.add_comm g e] at h3
  have p : 2 ^ (e + g + 1) = 2 * 2 ^ (e + g) := by rw [Nat.pow_add, Nat.mul_comm]
  exact ⟨M * N, A * N + B * M, Nat.mul_pos M0 N0, by omega, by omega, (hS.scale N0).add kS'⟩
theorem pw3 {n e : Nat} (h : n ≤ 2 ^ e) (he : e < 3000) : n < 2 ^ 3000 := Nat.lt_of_le_of_lt h (Nat.pow_lt_pow_right (by decide) he)
theorem Dom.Ez.sm {e L : Nat} {d : Dom} {x : d.C} (h : d.Ez e L x) (he : e < 3000) (hL : L ≤ 50000) : d.Sm' 3000 x ∧ d.Sm 3000 x := by
  obtain ⟨M, A, M0, M1, A1, hS⟩ := h
  exact hS.sm M0 (pw3 M1 he) (pw3 A1 he) fun _ => hL
theorem Dom.Ez.mu {e L g K : Nat} {d : Dom} {x y : d.C} (h : d.Ez e L x) (k : d.Ez g K y) (he : e + g + 6 < 3000) (hL : L ≤ 60) (hK : K ≤ 50000) : d.Mu x y := by
  obtain ⟨M, A, M0, M1, A1, hS⟩ := h
  obtain ⟨N, B, N0, N1, B1, kS⟩ := k
  have h1 := Nat.mul_le_mul M1 N1
  have h2 := Nat.mul_le_mul A1 B1
  rw [← Nat.pow_add] at h1 h2
  have p : 2 ^ (e + g + 6) = 64 * 2 ^ (e + g) := by rw [Nat.pow_add, Nat.mul_comm]
  exact Dom.Mu.of hS kS M0 N0 (pw3 h1 (by omega)) (pw3 A1 (by omega)) (pw3 B1 (by omega)) (Nat.lt_of_le_of_lt (Nat.mul_le_mul (show L + 1 ≤ 64 by omega) h2) (by rw [← p]; exact Nat.pow_lt_pow_right (by decide) he)) (fun _ => by omega) (fun _ => hK)
/-- what the laws of the division give to it -/
abbrev Dom.Mid (d : Dom) (x : d.C) : Prop := d.Ez 60 8 x
/-- what it gives to them -/
abbrev Dom.Mdl (d : Dom) (x : d.C) : Prop := d.Ez 760 8 x
/-- the rest of a division -/
def Dom.Less : (d : Dom) → d.C → d.C → Prop
  | .Z, (t : Int), (y : Int) => 0 ≤ t ∧ t < y.natAbs
  | .K _, _, _ => False
  | .P f, (t : Pol f.C), (y : Pol f.C) => t.l.length < y.l.length
end My

namespace My
open PySem PySem.Spec PyProof.Rows L2 DL Lean.Grind
/-- a number as the lists over a field keep it -/
def Fld.red : Fld → Int → Int
  | .Q, x => x
  | .F n, x => x.fmod ((n + 2 : Nat) : Int)
theorem Fld.num_red (f : Fld) (x : Int) : f.num (f.red x) = f.num x := by
  cases f with
  | Q => rfl
  | F n => exact Fld.num_mod n x
/-- the polynomial of a list -/
def Fld.pol (f : Fld) (l : List Int) : Pol f.C := Pol.of (l.map f.num)
theorem Fld.pol_cf (f : Fld) (l : List Int) (j : Nat) : cf (f.pol l).l j = f.num (cf l j) := by
  unfold Fld.pol
  rw [pe_of]
  exact cf_map f.num f.num_zero l j
theorem Fld.pol_low {f : Fld} {k : Int} {a q b n : List Int} (h : ∀ j, cf n j = f.red (k * cf a j - cf (pmul q b) j)) : f.pol n = Pol.C (f.num k) * f.pol a + -(f.pol q * f.pol b) := Pol.ext' fun j => by
  have e := num_pmul f (f.pol q).l (f.pol b).l q b 1 1 (fun k => by rw [f.pol_cf, f.num_one]; grind) (fun k => by rw [f.pol_cf, f.num_one]; grind) j
  rw [show (1 : Int) * 1 = 1 by decide, f.num_one] at e
  rw [Pol.cadd, Pol.cneg, Pol.Cmul, Pol.cmul, f.pol_cf, f.pol_cf, h, Fld.num_red, Fld.num_sub, Fld.num_mul]
  grind
theorem Fld.pol_mul {f : Fld} {c : Int} {m : List Int} : f.pol (m.map fun x => c * x) = Pol.C (f.num c) * f.pol m := Pol.ext' fun j => by
  rw [Pol.Cmul, f.pol_cf, f.pol_cf, cf_imap, Fld.num_mul]
theorem Pol.C_inv {f : Fld} {c : Int} (h : f.Inv c) : ∃ z : Pol f.C, z * Pol.C (f.num c) = 1 := by
  obtain ⟨z, hz⟩ := h
  refine ⟨Pol.C z, Pol.ext' fun j => ?_⟩
  rw [Pol.mulC, Pol.cC, Pol.one_l]
  cases j with
  | zero => rw [if_pos rfl, cf_zero]; grind
  | succ j => rw [if_neg (by omega), cf_one]; grind
theorem eg_alg {R : Type} [CommRing R] {z C y K G0 S0 T0 G1 S1 T1 Mg Ms Mt Q A B : R} (hz : z * C = 1) (hy : y * K = 1) (hg : C * Mg = K * G0 + -(Q * G1)) (hs : C * Ms = K * S0 + -(Q * S1)) (ht : C * Mt = K * T0 + -(Q * T1)) (e0 : G0 = S0 * A + T0 * B) (e1 : G1 = S1 * A + T1 * B) : Mg = Ms * A + Mt * B ∧ ∀ X u v : R, X = u * G0 + v * G1 → X = (u * y * Q + v) * G1 + u * y * C * Mg := by
  have g : ∀ X : R, X = z * (C * X) := fun X => by
    have : z * (C * X) = (z * C) * X := by grind
    rw [this, hz]; grind
  have eG0 : G0 = y * (C * Mg + Q * G1) := by
    have h1 : C * Mg + Q * G1 = K * G0 := by rw [hg]; grind
    have h2 : y * (K * G0) = (y * K) * G0 := by grind
    rw [h1, h2, hy]; grind
  refine ⟨?_, fun X u v hX => ?_⟩
  · have h1 : C * (Ms * A + Mt * B) = (C * Ms) * A + (C * Mt) * B := by grind
    have h2 : C * Mg = C * (Ms * A + Mt * B) := by
      rw [h1, hg, hs, ht, e0, e1]; grind
    rw [g Mg, h2, ← g]
  · have h1 : u * y * C * Mg = u * (y * (C * Mg + Q * G1)) + -(u * y * Q * G1) := by grind
    rw [h1, ← eG0, hX]; grind
/-- where the algorithm of Euclid stands -/
structure EG (f : Fld) (A B : Pol f.C) (g0 s0 t0 g1 s1 t1 : List Int) : Prop where
  e0 : f.pol g0 = f.pol s0 * A + f.pol t0 * B
  e1 : f.pol g1 = f.pol s1 * A + f.pol t1 * B
  ex : ∃ u v : Pol f.C, A = u * f.pol g0 + v * f.pol g1
  ey : ∃ u v : Pol f.C, B = u * f.pol g0 + v * f.pol g1
theorem EG.step {f : Fld} {A B : Pol f.C} {g0 s0 t0 g1 s1 t1 q ng ns nt mg ms mt : List Int} {k c : Int} (h : EG f A B g0 s0 t0 g1 s1 t1) (ik : f.Inv k) (ic : f.Inv c)
    (hg : ∀ j, cf ng j = f.red (k * cf g0 j - cf (pmul q g1) j)) (hs : ∀ j, cf ns j = f.red (k * cf s0 j - cf (pmul q s1) j)) (ht : ∀ j, cf nt j = f.red (k * cf t0 j - cf (pmul q t1) j))
    (eg : ng = mg.map fun x => c * x) (es : ns = ms.map fun x => c * x) (et : nt = mt.map fun x => c * x) : EG f A B g1 s1 t1 mg ms mt := by
  have hg := Fld.pol_low hg
  have hs := Fld.pol_low hs
  have ht := Fld.pol_low ht
  rw [eg, Fld.pol_mul] at hg
  rw [es, Fld.pol_mul] at hs
  rw [et, Fld.pol_mul] at ht
  obtain ⟨z, hz⟩ := Pol.C_inv ic
  obtain ⟨y, hy⟩ := Pol.C_inv ik
  obtain ⟨e0, e1, ⟨u, v, hu⟩, ⟨w, x, hw⟩⟩ := h
  have := eg_alg hz hy hg hs ht e0 e1
  exact ⟨e1, this.1, ⟨_, _, this.2 _ u v hu⟩, ⟨_, _, this.2 _ w x hw⟩⟩
theorem EG.init (f : Fld) (a b : List Int) : EG f (f.pol a) (f.pol b) a [1] [] b [] [1] := by
  have o : f.pol [1] = 1 := Pol.ext' fun j => by
    rw [f.pol_cf, Pol.one_l]
    cases j with
    | zero => rw [cf_zero, cf_zero, f.num_one]
    | succ j => rw [cf_one, cf_one, f.num_zero]
  have z : f.pol [] = 0 := Pol.ext' fun j => by
    rw [f.pol_cf, Pol.zero_l, cf_nil, cf_nil, f.num_zero]
  refine ⟨?_, ?_, ⟨1, 0, ?_⟩, ⟨0, 1, ?_⟩⟩ <;> (try rw [o, z]) <;> grind
/-- an entry of a list over the field -/
theorem Fld.red_bd (n : Nat) (x : Int) : 0 ≤ (Fld.F n).red x ∧ (Fld.F n).red x < ((n + 2 : Nat) : Int) := by
  show 0 ≤ x.fmod _ ∧ x.fmod _ < _
  rw [Int.fmod_eq_emod_of_nonneg _ (by omega)]
  exact ⟨Int.emod_nonneg _ (by omega), Int.emod_lt_of_pos _ (by omega)⟩
theorem Fld.red_zero {f : Fld} {x : Int} (h : f.num x = 0) : f.red x = 0 := by
  cases f with
  | Q => exact (show ((x : Int) : Rat) = 0 from h) |> fun h => by exact_mod_cast h
  | F n =>
    show x.fmod _ = 0
    rw [Int.fmod_eq_emod_of_nonneg _ (by omega)]
    exact Int.emod_eq_zero_of_dvd (Fld.num_eq0.mp h)
theorem Divd.low {f : Fld} {g0 g1 q r ng : List Int} {k : Int} (hd : Divd f g0 g1 q r k) (hg : ∀ j, cf ng j = f.red (k * cf g0 j - cf (pmul q g1) j)) (ht : trim ng = ng) : ng.length < g1.length := by
  have h : ng.length ≤ r.length := by
    by_cases c : ng.length ≤ r.length
    · exact c
    · have hn : ng ≠ [] := fun z => by rw [z] at c; simp at c
      have h1 := trim_last ng ht hn
      refine absurd ?_ h1
      rw [hg]
      refine Fld.red_zero ?_
      have := hd.eq (ng.length - 1)
      rw [cf_out (l := r) (by omega), Int.add_zero] at this
      rw [Fld.num_sub, this]; grind
  exact Nat.lt_of_le_of_lt h hd.lr
/-- the bits of the numbers where the divisor before had l places -/
def EX (E N l : Nat) : Nat := E * 3 ^ (N + 1 - l)
theorem three_pow : ∀ d : Nat, d + 3 ≤ 3 ^ (d + 1)
  | 0 => by decide
  | d + 1 => by have := three_pow d; rw [Nat.pow_succ]; omega
theorem EX_step {E N l m : Nat} (h : m < l) (hl : l ≤ N + 1) (h1 : 1 ≤ m) : (l - m + 2) * EX E N l ≤ EX E N m ∧ 3 * EX E N l ≤ EX E N m := by
  obtain ⟨d, rfl⟩ : ∃ d, l = m + d + 1 := ⟨l - m - 1, by omega⟩
  have e : N + 1 - m = (N + 1 - (m + d + 1)) + (d + 1) := by omega
  have p := three_pow d
  have q : EX E N m = 3 ^ (d + 1) * EX E N (m + d + 1) := by
    unfold EX
    rw [e, Nat.pow_add]; grind
  rw [q, show m + d + 1 - m + 2 = d + 3 by omega]
  exact ⟨Nat.mul_le_mul_right _ p, Nat.mul_le_mul_right _ (by omega)⟩
theorem EX_ge (E N l : Nat) : E ≤ EX E N l := Nat.le_mul_of_pos_right _ (Nat.pow_pos (by decide))
theorem EX_le {E N l : Nat} (h : 1 ≤ l) : EX E N l ≤ E * 3 ^ N := Nat.mul_le_mul_left _ (Nat.pow_le_pow_right (by decide) (by omega))
/-- entries over a finite field are residues -/
def Fld.Rg : Fld → List Int → Prop
  | .Q, _ => True
  | .F n, l => ∀ j, 0 ≤ cf l j ∧ cf l j < ((n + 2 : Nat) : Int)
def LB (l : List Int) (V : Nat) : Prop := ∀ j, (cf l j).natAbs ≤ 2 ^ V
structure ES (f : Fld) (E N l : Nat) (g0 s0 t0 g1 s1 t1 : List Int) : Prop where
  hl : l ≤ N + 1
  l0 : g0.length ≤ l
  lN : g0.length ≤ N
  l1 : g1.length < l
  tr0 : trim g0 = g0
  tr1 : trim g1 = g1
  r0 : f.Rg g0
  r1 : f.Rg g1
  b0 : LB g0 (EX E N l - 1)
  b1 : LB g1 (EX E N l - 1)
  bs : ∃ V, 2 * V ≤ 3 * EX E N l + 12 * (N + 1 - l) ∧ LB s0 V ∧ LB t0 V ∧ LB s1 V ∧ LB t1 V
  ls : s0.length ≤ 1 + N * (N + 1 - l) ∧ t0.length ≤ 1 + N * (N + 1 - l) ∧ s1.length ≤ 1 + N * (N + 1 - l) ∧ t1.length ≤ 1 + N * (N + 1 - l)
  ne : g0 ≠ [] ∨ g1 ≠ []
theorem p17 {X : Nat} (h : 18 ≤ X) : (2 : Nat) ^ 17 ≤ 2 ^ (X - 1) := Nat.pow_le_pow_right (by decide) (by omega)
theorem ES.W {f : Fld} {E N l : Nat} {g0 s0 t0 g1 s1 t1 : List Int} (h : ES f E N l g0 s0 t0 g1 s1 t1) (hE : 18 ≤ E) (hg : g1 ≠ []) : Wd g0 g1 ≤ 2 ^ (EX E N g1.length - 1) := by
  have hp : 1 ≤ g1.length := List.length_pos_iff.mpr hg
  have hX : 18 ≤ EX E N l := Nat.le_trans hE (EX_ge ..)
  have st := (EX_step (E := E) h.l1 h.hl hp).1
  have l0 := h.l0
  have l1 := h.l1
  refine Nat.le_trans (Wd_le h.b0 h.b1 (Nat.pow_pos (by decide)) (Nat.pow_pos (by decide))) ?_
  have e2 : 2 * 2 ^ (EX E N l - 1) = 2 ^ EX E N l := by
    rw [Nat.mul_comm, ← Nat.pow_succ]; congr 1; omega
  rw [e2, ← Nat.pow_mul, ← Nat.pow_add]
  refine Nat.pow_le_pow_right (by decide) ?_
  have h1 : EX E N l * (g0.length + 1 - g1.length) ≤ EX E N l * (l - g1.length + 1) := Nat.mul_le_mul_left _ (by omega)
  have h2 : (l - g1.length + 2) * EX E N l = EX E N l * (l - g1.length + 1) + EX E N l := by
    rw [Nat.add_mul, Nat.mul_comm (EX E N l), Nat.add_mul]; omega
  omega
theorem ES.pre {f : Fld} {E N l : Nat} {g0 s0 t0 g1 s1 t1 : List Int} (h : ES f E N l g0 s0 t0 g1 s1 t1) (hE : 18 ≤ E) (hN : N ≤ 30) (hb : E * 3 ^ N ≤ 3000) (hg : g1 ≠ []) : DivPre f g0 g1 := by
  have hp : 1 ≤ g1.length := List.length_pos_iff.mpr hg
  have h1 := h.l1
  have h2 := h.hl
  have h3 := h.lN
  have la := trim_last g1 h.tr1 hg
  refine ⟨hg, ?_, by omega, by omega, ?_⟩
  · cases f with
    | Q => exact fun z => la (by exact_mod_cast (show ((cf g1 (g1.length - 1) : Int) : Rat) = 0 from z))
    | F n =>
      intro z
      have d := Fld.num_eq0.mp z
      have r := h.r1 (g1.length - 1)
      exact la ((Int.emod_eq_of_lt r.1 r.2).symm.trans (Int.emod_eq_zero_of_dvd d))
  · cases f with
    | Q =>
      have := EX_le (E := E) (N := N) hp
      have X1 := EX_ge E N g1.length
      exact Nat.lt_of_le_of_lt (h.W hE hg) (Nat.pow_lt_pow_right (by decide) (by omega))
    | F n => exact ⟨h.r0, h.r1⟩
/-- a step, before the common factor is taken out -/
theorem low_bd {f : Fld} (ho : f.Ok) {X V N : Nat} {k : Int} {q s0 s1 ns : List Int} (hX : 18 ≤ X) (hN : N ≤ 30) (hk : k.natAbs ≤ 2 ^ (X - 1)) (hq : LB q (X - 1)) (lq : q.length ≤ N) (h0 : LB s0 V) (h1 : LB s1 V) (hs : ∀ j, cf ns j = f.red (k * cf s0 j - cf (pmul q s1) j)) : LB ns (X + V + 5) := fun j => by
  have p : (2 : Nat) ^ (X + V + 5) = 64 * (2 ^ (X - 1) * 2 ^ V) := by
    rw [← Nat.pow_add, show (64 : Nat) = 2 ^ 6 by decide, ← Nat.pow_add]; congr 1; omega
  rw [hs j]
  cases f with
  | F n =>
    have r := Fld.red_bd n (k * cf s0 j - cf (pmul q s1) j)
    have : n + 2 ≤ 65521 := ho.2
    have : (2 : Nat) ^ 17 ≤ 2 ^ (X + V + 5) := Nat.pow_le_pow_right (by decide) (by omega)
    have : (2 : Nat) ^ 17 = 131072 := by decide
    omega
  | Q =>
    show (k * cf s0 j - cf (pmul q s1) j).natAbs ≤ _
    have e1 := abs_mul_le hk (h0 j)
    have e2 := pmul_bd q s1 _ _ hq h1 j
    have e3 : q.length * (2 ^ (X - 1) * 2 ^ V) ≤ 30 * (2 ^ (X - 1) * 2 ^ V) := Nat.mul_le_mul_right _ (by omega)
    rw [p]
    generalize 2 ^ (X - 1) * 2 ^ V = T at *
    omega
theorem low_len {f : Fld} {k : Int} {q s0 s1 ns : List Int} {L N : Nat} (lq : q.length ≤ N) (h0 : s0.length ≤ L) (h1 : s1.length ≤ L) (hs : ∀ j, cf ns j = f.red (k * cf s0 j - cf (pmul q s1) j)) (ht : trim ns = ns) : ns.length ≤ L + N := by
  by_cases c : ns.length ≤ L + N
  · exact c
  · have hn : ns ≠ [] := fun z => by rw [z] at c; simp at c
    refine absurd ?_ (trim_last ns ht hn)
    have := pmul_len q s1
    rw [hs, cf_out (l := s0) (by omega), cf_out (l := pmul q s1) (by omega)]
    refine Fld.red_zero ?_
    rw [Int.mul_zero]
    exact f.num_zero
theorem LB.less {c : Int} (hc : 0 < c) {m n : List Int} {V : Nat} (h : LB n V) (e : n = m.map fun x => c * x) : LB m V := fun j => by
  have := h j
  rw [e, cf_imap, Int.natAbs_mul] at this
  have h2 : (cf m j).natAbs ≤ c.natAbs * (cf m j).natAbs := Nat.le_mul_of_pos_left _ (by omega)
  omega
theorem LB.mono {m : List Int} {V W : Nat} (h : LB m V) (k : V ≤ W) : LB m W := fun j => Nat.le_trans (h j) (Nat.pow_le_pow_right (by decide) k)
theorem trim_less {c : Int} {m n : List Int} (h : trim n = n) (e : n = m.map fun x => c * x) : trim m = m := trim_full m fun hm z => by
  have hn : n ≠ [] := fun z => hm (by rw [z] at e; exact List.map_eq_nil_iff.mp e.symm)
  refine trim_last n h hn ?_
  rw [e, List.length_map, cf_imap, z, Int.mul_zero]
/-- one turn of the algorithm -/
structure Turn3 (f : Fld) (g0 s0 t0 g1 s1 t1 q r ng ns nt mg ms mt : List Int) (k c : Int) : Prop where
  hd : Divd f g0 g1 q r k
  hg : ∀ j, cf ng j = f.red (k * cf g0 j - cf (pmul q g1) j)
  hs : ∀ j, cf ns j = f.red (k * cf s0 j - cf (pmul q s1) j)
  ht : ∀ j, cf nt j = f.red (k * cf t0 j - cf (pmul q t1) j)
  tg : trim ng = ng
  ts : trim ns = ns
  tt : trim nt = nt
  c0 : 0 < c
  c1 : f ≠ .Q → c = 1
  eg : ng = mg.map fun x => c * x
  es : ns = ms.map fun x => c * x
  et : nt = mt.map fun x => c * x
theorem ES.step {f : Fld} (ho : f.Ok) {E N l : Nat} {g0 s0 t0 g1 s1 t1 q r ng ns nt mg ms mt : List Int} {k c : Int} (h : ES f E N l g0 s0 t0 g1 s1 t1) (hE : 18 ≤ E) (hN : N ≤ 30) (hg : g1 ≠ []) (T : Turn3 f g0 s0 t0 g1 s1 t1 q r ng ns nt mg ms mt k c) : ES f E N g1.length g1 s1 t1 mg ms mt := by
  have hp : 1 ≤ g1.length := List.length_pos_iff.mpr hg
  have l1 := h.l1
  have hl := h.hl
  have lq := T.hd.lq
  have lN := h.lN
  have hW := h.W hE hg
  have hX : 18 ≤ EX E N g1.length := Nat.le_trans hE (EX_ge ..)
  have st := EX_step (E := E) h.l1 h.hl hp
  have e17 : (2 : Nat) ^ 17 ≤ 2 ^ (EX E N g1.length - 1) := p17 hX
  have v17 : (2 : Nat) ^ 17 = 131072 := by decide
  have hq : LB q (EX E N g1.length - 1) := fun j => by
    have := (T.hd.bd j).1
    cases f with
    | Q => exact Nat.le_trans this hW
    | F n =>
      have this : 0 ≤ cf q j ∧ cf q j < ((n + 2 : Nat) : Int) := this
      have : n + 2 ≤ 65521 := ho.2
      omega
  have hk : k.natAbs ≤ 2 ^ (EX E N g1.length - 1) := Nat.le_trans T.hd.kW hW
  obtain ⟨V, hV, v1, v2, v3, v4⟩ := h.bs
  obtain ⟨n1, n2, n3, n4⟩ := h.ls
  have hln : ng.length < g1.length := T.hd.low T.hg T.tg
  have lmg : mg.length = ng.length := by rw [T.eg, List.length_map]
  have bn : LB ng (EX E N g1.length - 1) := fun j => by
    rw [T.hg]
    cases f with
    | Q =>
      have e := T.hd.eq j
      have e : ((k * cf g0 j : Int) : Rat) = ((cf (pmul q g1) j + cf r j : Int) : Rat) := e
      have e : k * cf g0 j = cf (pmul q g1) j + cf r j := by exact_mod_cast e
      show (k * cf g0 j - cf (pmul q g1) j).natAbs ≤ _
      rw [show k * cf g0 j - cf (pmul q g1) j = cf r j by omega]
      exact Nat.le_trans (T.hd.bd j).2 hW
    | F n =>
      have := Fld.red_bd n (k * cf g0 j - cf (pmul q g1) j)
      have : n + 2 ≤ 65521 := ho.2
      omega
  have lst : ∀ {a b n m : List Int}, a.length ≤ 1 + N * (N + 1 - l) → b.length ≤ 1 + N * (N + 1 - l) → (∀ j, cf n j = f.red (k * cf a j - cf (pmul q b) j)) → trim n = n → (n = m.map fun x => c * x) → m.length ≤ 1 + N * (N + 1 - g1.length) := fun {a b n m} ha hb hn ht e => by
    have h1 := low_len (N := N) (by omega) ha hb hn ht
    rw [e, List.length_map] at h1
    have h2 : N * (N + 1 - l) + N ≤ N * (N + 1 - g1.length) := by
      rw [← Nat.mul_succ]; exact Nat.mul_le_mul_left _ (by omega)
    omega
  have lmo : N * (N + 1 - l) ≤ N * (N + 1 - g1.length) := Nat.mul_le_mul_left _ (by omega)
  refine ⟨by omega, Nat.le_refl _, by omega, by omega, h.tr1, trim_less T.tg T.eg, h.r1, ?_, h.b1.mono (by omega), bn.less T.c0 T.eg, ⟨EX E N g1.length + V + 5, by omega, v3.mono (by omega), v4.mono (by omega), (low_bd ho hX hN hk hq (by omega) v1 v3 T.hs).less T.c0 T.es, (low_bd ho hX hN hk hq (by omega) v2 v4 T.ht).less T.c0 T.et⟩, ⟨by omega, by omega, lst n1 n3 T.hs T.ts T.es, lst n2 n4 T.ht T.tt T.et⟩, .inl hg⟩
  cases f with
  | Q => trivial
  | F n =>
    intro j
    have c1 := T.c1 (by simp)
    have := Fld.red_bd n (k * cf g0 j - cf (pmul q g1) j)
    have e := T.hg j
    rw [T.eg, cf_imap, c1, Int.one_mul] at e
    rw [e]; exact this
theorem EG.turn {f : Fld} {A B : Pol f.C} {g0 s0 t0 g1 s1 t1 q r ng ns nt mg ms mt : List Int} {k c : Int} (h : EG f A B g0 s0 t0 g1 s1 t1) (T : Turn3 f g0 s0 t0 g1 s1 t1 q r ng ns nt mg ms mt k c) : EG f A B g1 s1 t1 mg ms mt := h.step T.hd.inv (by
  cases f with
  | Q => exact Fld.inv_Q (by have := T.c0; omega)
  | F n => rw [T.c1 (by simp)]; exact Fld.Inv.one _) T.hg T.hs T.ht T.eg T.es T.et
/-- what the algorithm of Euclid asks of the lists -/
structure EPre (f : Fld) (E N : Nat) (a b : List Int) : Prop where
  hE : 18 ≤ E
  hN : N ≤ 30
  hb : E * 3 ^ N ≤ 3000
  la : a.length ≤ N
  lb : b.length ≤ N
  ta : trim a = a
  tb : trim b = b
  ra : f.Rg a
  rb : f.Rg b
  ba : LB a (E - 1)
  bb : LB b (E - 1)
  ne : a ≠ [] ∨ b ≠ []
theorem ES.init {f : Fld} {E N : Nat} {a b : List Int} (h : EPre f E N a b) : ES f E N (N + 1) a [1] [] b [] [1] := by
  have e : EX E N (N + 1) = E := by unfold EX; rw [Nat.sub_self, Nat.pow_zero, Nat.mul_one]
  have o : LB [1] 0 := fun j => by
    cases j with
    | zero => rw [cf_zero]; decide
    | succ j => rw [cf_one]; decide
  have z : LB [] 0 := fun j => by rw [cf_nil]; decide
  have la := h.la
  have lb := h.lb
  refine ⟨by omega, by omega, by omega, by omega, h.ta, h.tb, h.ra, h.rb, by rw [e]; exact h.ba, by rw [e]; exact h.bb, ⟨0, by omega, o, z, z, o⟩, ⟨?_, ?_, ?_, ?_⟩, h.ne⟩ <;> simp
theorem p8000 {n V : Nat} (h : n ≤ 2 ^ V) (hV : V < 8000) : n < 2 ^ 8000 := Nat.lt_of_le_of_lt h (Nat.pow_lt_pow_right (by decide) hV)
/-- lists that the steps may take -/
def Fit (l : List Int) : Prop := l.length ≤ 1000 ∧ ∀ j, (cf l j).natAbs < 2 ^ 8000
theorem ES.fit {f : Fld} {E N l : Nat} {g0 s0 t0 g1 s1 t1 : List Int} (h : ES f E N l g0 s0 t0 g1 s1 t1) (hN : N ≤ 30) (hb : E * 3 ^ N ≤ 3000) : (Fit g0 ∧ Fit s0 ∧ Fit t0) ∧ Fit g1 ∧ Fit s1 ∧ Fit t1 := by
  have hp : 1 ≤ l := by have := h.l1; omega
  have X := EX_le (E := E) (N := N) hp
  obtain ⟨V, hV, v1, v2, v3, v4⟩ := h.bs
  obtain ⟨n1, n2, n3, n4⟩ := h.ls
  have l0 := h.l0
  have l1 := h.l1
  have hl := h.hl
  have n0 : N * (N + 1 - l) ≤ 30 * 30 := Nat.mul_le_mul hN (by omega)
  exact ⟨⟨⟨by omega, fun j => p8000 (h.b0 j) (by omega)⟩, ⟨by omega, fun j => p8000 (v1 j) (by omega)⟩, ⟨by omega, fun j => p8000 (v2 j) (by omega)⟩⟩, ⟨by omega, fun j => p8000 (h.b1 j) (by omega)⟩, ⟨by omega, fun j => p8000 (v3 j) (by omega)⟩, ⟨by omega, fun j => p8000 (v4 j) (by omega)⟩⟩
theorem ES.fitq {f : Fld} (ho : f.Ok) {E N l : Nat} {g0 s0 t0 g1 s1 t1 q r : List Int} {k : Int} (h : ES f E N l g0 s0 t0 g1 s1 t1) (hE : 18 ≤ E) (hN : N ≤ 30) (hb : E * 3 ^ N ≤ 3000) (hg : g1 ≠ []) (hd : Divd f g0 g1 q r k) : k.natAbs < 2 ^ 8000 ∧ q.length ≤ 40 ∧ ∀ j, (cf q j).natAbs < 2 ^ 8000 := by
  have hp : 1 ≤ g1.length := List.length_pos_iff.mpr hg
  have X := EX_le (E := E) (N := N) hp
  have hW := h.W hE hg
  have lq := hd.lq
  have lN := h.lN
  refine ⟨p8000 (Nat.le_trans hd.kW hW) (by omega), by omega, fun j => ?_⟩
  have := (hd.bd j).1.le ho
  have X1 := EX_ge E N g1.length
  have e17 := p17 (X := EX E N g1.length) (by omega)
  have : (cf q j).natAbs ≤ 2 ^ EX E N g1.length := by
    have e2 : 2 ^ EX E N g1.length = 2 * 2 ^ (EX E N g1.length - 1) := by
      rw [Nat.mul_comm, ← Nat.pow_succ]; congr 1; omega
    omega
  exact p8000 this (by omega)
theorem Fit.mem {l : List Int} (h : Fit l) : ∀ x ∈ l, x.natAbs < 2 ^ 8000 := fun x hx => by
  obtain ⟨j, hj, rfl⟩ := List.getElem_of_mem hx
  have := h.2 j
  unfold cf at this
  rwa [List.getD_eq_getElem?_getD, List.getElem?_eq_getElem hj] at this
theorem pmul_len1 {R : Type} [CommRing R] : ∀ (a b : List R) (L K : Nat), a.length ≤ L → b.length ≤ K → 1 ≤ L → 1 ≤ K → (pmul a b).length ≤ L + K - 1
  | [], b, L, K, _, _, _, _ => by simp [pmul]
  | [a0], b, L, K, ha, hb, hL, hK => by
    simp only [pmul, padd_len, psm, List.length_map, List.length_cons, List.length_nil] at *
    omega
  | a0 :: a1 :: a, b, L, K, ha, hb, hL, hK => by
    have ih := pmul_len1 (a1 :: a) b (L - 1) K (by simp only [List.length_cons] at *; omega) hb (by simp only [List.length_cons] at *; omega) hK
    have e : (pmul (a0 :: a1 :: a) b).length = max b.length ((pmul (a1 :: a) b).length + 1) := by
      rw [pmul, padd_len]
      simp [psm]
    rw [e]
    simp only [List.length_cons] at ha
    omega
theorem Dom.Sz.mul1 {d : Dom} {M A L N B K : Nat} {x y : d.C} (h : d.Sz M A L x) (k : d.Sz N B K y) (hL : 1 ≤ L) (hK : 1 ≤ K) : d.Sz (M * N) (L * (A * B)) (L + K - 1) (x * y) := by
  have h0 := h.mul k hL
  cases d with
  | Z => exact h0
  | K f => exact h0
  | P f =>
    refine ⟨?_, h0.2⟩
    exact Nat.le_trans (cf_trim_len _) (pmul_len1 _ _ L K h.1 k.1 hL hK)
/-- the number of steps of a division -/
def Dom.Many (m : Nat) : (d : Dom) → d.C → d.C → Prop
  | .P f, (x : Pol f.C), (y : Pol f.C) => x.l.length + 1 ≤ m + y.l.length
  | _, _, _ => True
theorem cf_pmul_last {R : Type} [CommRing R] : ∀ (a b : List R) (i : Nat), a.length = i + 1 → b ≠ [] → cf (pmul a b) (i + (b.length - 1)) = cf a i * cf b (b.length - 1)
  | [], _, _, h, _ => by simp at h
  | [a0], b, i, h, hb => by
    obtain rfl : i = 0 := by simpa using h.symm
    rw [Nat.zero_add, cf_zero]
    have hp : 0 < b.length := List.length_pos_iff.mpr hb
    cases e : b.length - 1 with
    | zero => rw [cm0]
    | succ n => rw [cms, cmn]; grind
  | a0 :: a1 :: a, b, i, h, hb => by
    obtain ⟨n, rfl⟩ : ∃ n, i = n + 1 := ⟨a.length, by simp at h; omega⟩
    have hp : 0 < b.length := List.length_pos_iff.mpr hb
    have ih := cf_pmul_last (a1 :: a) b n (by simpa using h) hb
    rw [show n + 1 + (b.length - 1) = (n + (b.length - 1)) + 1 by omega, cms, ih, cf_succ, cf_out (l := b) (by omega)]
    grind
/-- a rest that is a multiple is zero -/
theorem Dom.Less.zero {d : Dom} (ho : d.Ok) {t y w : d.C} (h : d.Less t y) (e : t = w * y) : t = 0 := by
  cases d with
  | K f => exact h.elim
  | Z =>
    have key : ∀ t y w : Int, 0 ≤ t ∧ t < (y.natAbs : Int) → t = w * y → t = 0 := fun t y w h e => by
      by_cases c : w = 0
      · rw [e, c, Int.zero_mul]
      · have h1 : t.natAbs = w.natAbs * y.natAbs := by rw [e, Int.natAbs_mul]
        have h2 : y.natAbs ≤ w.natAbs * y.natAbs := Nat.le_mul_of_pos_left _ (by omega)
        omega
    exact key t y w h e
  | P f =>
    have key : ∀ t y w : Pol f.C, t.l.length < y.l.length → t = w * y → t = 0 := fun t y w h e => by
      by_cases c : w.l = []
      · rw [e]
        refine Pol.ext' fun k => ?_
        rw [Pol.cmul, c, cmn, Pol.zero_l, cf_nil]
      · exfalso
        have hy : y.l ≠ [] := fun z => by rw [z] at h; simp at h
        have lw : 0 < w.l.length := List.length_pos_iff.mpr c
        have h1 := cf_pmul_last w.l y.l (w.l.length - 1) (by omega) hy
        have h2 : cf t.l (w.l.length - 1 + (y.l.length - 1)) = 0 := cf_out (by omega)
        rw [e, Pol.cmul, h1] at h2
        rcases Fld.nzd ho h2 with z | z
        · exact trim_last w.l w.ok c z
        · exact trim_last y.l y.ok hy z
    exact key t y w h e
/-- the units and the normal elements -/
def Dom.Unit : (d : Dom) → d.C → Prop
  | .Z, (u : Int) => u = 1 ∨ u = -1
  | .K _, _ => False
  | .P f, (u : Pol f.C) => u.l.length = 1
def Dom.Nrm : (d : Dom) → d.C → Prop
  | .Z, (y : Int) => 0 ≤ y
  | .K _, _ => False
  | .P f, (y : Pol f.C) => y.l = [] ∨ (y.l ≠ [] ∧ cf y.l (y.l.length - 1) = 1)
theorem Fld.Small.ez {f : Fld} {h : Nat} {z : f.C} (hs : f.Small h z) : (Dom.P f).Ez h 1 (Pol.of [z]) := by
  have hl : (Pol.of [z] : Pol f.C).l.length ≤ 1 := cf_trim_len [z]
  have hcf : ∀ k, cf (Pol.of [z] : Pol f.C).l k = if k = 0 then z else 0 := fun k => by
    rw [pe_of]
    cases k with
    | zero => rw [if_pos rfl, cf_zero]
    | succ k => rw [if_neg (by omega), cf_one]
  have key : ∀ M A : Nat, f.In M A z → ∀ k, f.In M A (cf (Pol.of [z] : Pol f.C).l k) := fun M A hI k => by
    rw [hcf]
    split
    · exact hI
    · exact Fld.In.zero f M A
  cases f with
  | F n => exact ⟨1, 1, by decide, Nat.pow_pos (by decide), Nat.pow_pos (by decide), hl, key 1 1 trivial⟩
  | Q =>
    have h2 := small_Q hs
    exact ⟨qd z, (qn z).natAbs, qd_pos z, by omega, by omega, hl, key _ _ (In_of (q_eq z) (k := 1) (by omega) (by omega))⟩
theorem Pol.of1 {f : Fld} {z : f.C} (hz : z ≠ 0) : (Pol.of [z] : Pol f.C).l = [z] := trim_full [z] fun _ => by
  show cf [z] 0 ≠ 0
  rw [cf_zero]; exact hz
theorem Pol.ne_nil {f : Fld} {x : Pol f.C} (h : x ≠ 0) : x.l ≠ [] := fun z => h (Pol.ext' fun k => by rw [z, Pol.zero_l])
theorem Dom.Ez.last {f : Fld} {e L : Nat} {x : Pol f.C} (h : (Dom.P f).Ez e L x) : f.Small (e + 1) (cf x.l (x.l.length - 1)) := by
  obtain ⟨M, A, M0, M1, A1, _, hI⟩ := h
  have p : 2 ^ e < 2 ^ (e + 1) := Nat.pow_lt_pow_right (by decide) (by omega)
  exact (hI _).small M0 (by omega) (by omega)
theorem Fld.Over.pol {f : Fld} {x : Pol f.C} {a : List Int} {m : Int} (h : f.Over x.l a m) : Pol.C (f.num m) * x = f.pol a := Pol.ext' fun j => by
  rw [Pol.Cmul, f.pol_cf, ← h.2 j]; grind
theorem great_alg {R : Type} [CommRing R] {x y A B G S T g s t Cm Cn Cl z : R} (hz : z * Cl = 1) (hA : Cm * x = A) (hB : Cn * y = B) (hG : Cl * G = g) (hS : Cl * S = Cm * s) (hT : Cl * T = Cn * t) (e : g = s * A + t * B) : S * x + T * y = G := by
  have h1 : ∀ X : R, X = z * (Cl * X) := fun X => by
    have : z * (Cl * X) = (z * Cl) * X := by grind
    rw [this, hz]; grind
  have h2 : Cl * (S * x + T * y) = (Cl * S) * x + (Cl * T) * y := by grind
  rw [h1 (S * x + T * y), h2, hS, hT, h1 G, hG, e, ← hA, ← hB]
  grind
theorem great_div {R : Type} [CommRing R] {x A G g Cm Cl u z : R} (hz : z * Cm = 1) (hA : Cm * x = A) (hG : Cl * G = g) (e : A = u * g) : x = (z * u * Cl) * G := by
  have h1 : x = z * (Cm * x) := by
    have : z * (Cm * x) = (z * Cm) * x := by grind
    rw [this, hz]; grind
  rw [h1, hA, e, ← hG]; grind
theorem Fld.Over.In' {f : Fld} {x : List f.C} {a : List Int} {m : Int} {A : Nat} (h : f.Over x a m) (hA : ∀ k, (cf a k).natAbs ≤ A) (k : Nat) : f.In m.natAbs A (cf x k) := by
  cases f with
  | F n => trivial
  | Q =>
    by_cases c : 0 ≤ m
    · exact In_of (h.2 k) (k := 1) (by omega) (by rw [Int.mul_one]; exact hA k)
    · exact In_of (h.2 k) (k := -1) (by omega) (by rw [Int.natAbs_mul]; simpa using hA k)
/-- what the greatest common divisor asks of the sizes -/
def Dom.Gp : (d : Dom) → d.C → d.C → Prop
  | .P f, x, y => (∃ M A : Nat, 0 < M ∧ M ≤ 2 ^ 10 ∧ A ≤ 900000 ∧ (Dom.P f).Sz M A 4 x) ∧ ∃ M A : Nat, 0 < M ∧ M ≤ 2 ^ 10 ∧ A ≤ 900000 ∧ (Dom.P f).Sz M A 4 y
  | d, x, y => d.Ez 60 8 x ∧ d.Ez 60 8 y
theorem Cleared_trim {f : Fld} {x : Pol f.C} {a : List Int} {m : Int} (h : f.Over x.l a m) (hl : a.length = x.l.length) : trim a = a := trim_full a fun hn z => by
  have hx : x ≠ 0 := fun c => hn (by rw [c, Pol.zero_l] at hl; exact List.eq_nil_of_length_eq_zero hl)
  refine (h.last hl hx).2 ?_
  rw [z]; exact f.num_zero
/-- from the lists back to the polynomials -/
theorem great_pol {f : Fld} (ho : f.Ok) {x y G S T : Pol f.C} {a b g s t s1 t1 : List Int} {m n : Int} {l : Nat} (oa : f.Over x.l a m) (ob : f.Over y.l b n) (hg : EG f (f.pol a) (f.pol b) g s t [] s1 t1) (hG : f.Over G.l g (cf g (g.length - 1))) (hS : f.Over S.l (s.map fun c => m * c) (cf g (g.length - 1))) (hT : f.Over T.l (t.map fun c => n * c) (cf g (g.length - 1))) (hn : g ≠ []) : S * x + T * y = G ∧ (∃ u, x = u * G) ∧ (∃ u, y = u * G) ∧ G.l.length = g.length ∧ cf G.l (G.l.length - 1) = 1 := by
  obtain ⟨z, hz⟩ := Pol.C_inv hG.1
  obtain ⟨z1, hz1⟩ := Pol.C_inv oa.1
  obtain ⟨z2, hz2⟩ := Pol.C_inv ob.1
  have pz : f.pol [] = 0 := Pol.ext' fun j => by rw [f.pol_cf, Pol.zero_l, cf_nil, cf_nil, f.num_zero]
  have eS := hS.pol
  rw [Fld.pol_mul] at eS
  have eT := hT.pol
  rw [Fld.pol_mul] at eT
  obtain ⟨u, v, hu⟩ := hg.ex
  obtain ⟨u', v', hu'⟩ := hg.ey
  have hu : f.pol a = u * f.pol g := by rw [hu, pz]; grind
  have hu' : f.pol b = u' * f.pol g := by rw [hu', pz]; grind
  have h1 : cf G.l (g.length - 1) = 1 := by
    refine hG.1.cancel ?_
    rw [hG.2]; grind
  have hp : 0 < g.length := List.length_pos_iff.mpr hn
  have hl : G.l.length = g.length := by
    have a1 := hG.len
    by_cases c : G.l.length = g.length
    · exact c
    · exfalso
      rw [cf_out (by omega)] at h1
      have h2 : cf x.l 0 = cf x.l 0 * 1 := by grind
      obtain ⟨w, hw⟩ := hG.1
      have : (1 : f.C) = w * f.num (cf g (g.length - 1)) := hw.symm
      have z0 : ∀ k : f.C, k = 0 := fun k => by
        have : k = k * 1 := by grind
        rw [this, ← h1]; grind
      exact f.one_ne (z0 1)
  refine ⟨great_alg hz oa.pol ob.pol hG.pol eS eT hg.e0, ⟨_, great_div hz1 oa.pol hG.pol hu⟩, ⟨_, great_div hz2 ob.pol hG.pol hu'⟩, hl, by rw [hl]; exact h1⟩
def DvPre (d : Dom) (x y : d.C) : Prop := d.Ok ∧ ¬ d.isK ∧ y ≠ 0 ∧ ∃ e g m L : Nat, d.Ez e L x ∧ d.Ez g L y ∧ L ≤ 30 ∧ d.Many m x y ∧ e + 18 + (g + 19) * m ≤ 2990 ∧ e ≤ 2000 ∧ g ≤ 2000
/-- the lists of two polynomials suit the algorithm of Euclid -/
theorem EPre_of {f : Fld} (ho : f.Ok) {x y : Pol f.C} {a b : List Int} {m n : Int} {M A N B : Nat} (M0 : 0 < M) (N0 : 0 < N) (A1 : A ≤ 900000) (B1 : B ≤ 900000) (lx : x.l.length ≤ 4) (ly : y.l.length ≤ 4) (la : a.length = x.l.length) (lb : b.length = y.l.length) (oa : f.Over x.l a m) (ob : f.Over y.l b n) (ba : f.Bd M A a m) (bb : f.Bd N B b n) (hn : ¬ (x = 0 ∧ y = 0)) : EPre f 21 4 a b := by
  have v17 : (2 : Nat) ^ 17 = 131072 := by decide
  have v20 : (2 : Nat) ^ (21 - 1) = 1048576 := by decide
  have bda := (ba.le ho M0).2
  have bdb := (bb.le ho N0).2
  refine ⟨by decide, by decide, by decide, by omega, by omega, Cleared_trim oa la, Cleared_trim ob lb, ?_, ?_, fun k => by have := bda k; omega, fun k => by have := bdb k; omega, ?_⟩
  · cases f with
    | Q => trivial
    | F p => exact ba.2
  · cases f with
    | Q => trivial
    | F p => exact bb.2
  · by_cases c : x = 0
    · have hy : y ≠ 0 := fun z => hn ⟨c, z⟩
      have := List.length_pos_iff.mpr (Pol.ne_nil hy)
      exact .inr fun z => by rw [z] at lb; simp at lb; omega
    · have := List.length_pos_iff.mpr (Pol.ne_nil c)
      exact .inl fun z => by rw [z] at la; simp at la; omega
theorem EX4 {l : Nat} : (1 ≤ l → EX 21 4 l ≤ 1701) ∧ (2 ≤ l → EX 21 4 l ≤ 567) := by
  unfold EX
  refine ⟨fun h => ?_, fun h => ?_⟩
  · have : (3 : Nat) ^ (4 + 1 - l) ≤ 3 ^ 4 := Nat.pow_le_pow_right (by decide) (by omega)
    have e : (3 : Nat) ^ 4 = 81 := by decide
    omega
  · have : (3 : Nat) ^ (4 + 1 - l) ≤ 3 ^ 3 := Nat.pow_le_pow_right (by decide) (by omega)
    have e : (3 : Nat) ^ 3 = 27 := by decide
    omega
theorem Ez_of_over {f : Fld} {x : Pol f.C} {a : List Int} {m : Int} {e L : Nat} (h : f.Over x.l a m) (m0 : m ≠ 0) (hm : m.natAbs ≤ 2 ^ e) (ha : LB a e) (hl : a.length ≤ L) : (Dom.P f).Ez e L x := ⟨m.natAbs, 2 ^ e, by omega, hm, Nat.le_refl _, Nat.le_trans h.len hl, h.In' ha⟩
end My

namespace My
open PySem PySem.Spec PyProof.Rows L2 DL Lean.Grind
/-! ## matrices as data -/
def Mt (m n : Nat) (R : List (List D)) : D := .tuple [.int m, .int n, .tuple (R.map .tuple)]
structure Shp (m n : Nat) (R : List (List D)) : Prop where
  rows : R.length = m
  cols : ∀ r ∈ R, r.length = n
def ent (R : List (List D)) (i j : Nat) : D := (R.getD i []).getD j .none
theorem tups_inj : ∀ {R S : List (List D)}, R.map PyData.tuple = S.map PyData.tuple → R = S
  | [], [], _ => rfl
  | [], _ :: _, h => by simp at h
  | _ :: _, [], h => by simp at h
  | r :: R, s :: S, h => by
    simp only [List.map_cons, List.cons.injEq, PyData.tuple.injEq] at h
    rw [h.1, tups_inj h.2]
theorem Mt_inj {m n m' n' : Nat} {R S : List (List D)} (h : Mt m n R = Mt m' n' S) : m = m' ∧ n = n' ∧ R = S := by
  unfold Mt at h
  simp only [PyData.tuple.injEq, List.cons.injEq, PyData.int.injEq, and_true] at h
  exact ⟨by omega, by omega, tups_inj h.2.2⟩
theorem tup_get {R : List (List D)} {i : Nat} {x : D} (h : (R.map PyData.tuple)[i]? = some x) : ∃ r, R[i]? = some r ∧ x = .tuple r := by
  rw [List.getElem?_map] at h
  cases e : R[i]? with
  | none => rw [e] at h; cases h
  | some r => rw [e] at h; cases h; exact ⟨r, rfl, rfl⟩
theorem ent_get {R : List (List D)} {i j : Nat} {r : List D} {x : D} (h : R[i]? = some r) (k : r[j]? = some x) : ent R i j = x := by
  unfold ent
  rw [List.getD_eq_getElem?_getD, List.getD_eq_getElem?_getD, h]
  show (r[j]?).getD _ = _
  rw [k]; rfl
theorem Shp.row {m n : Nat} {R : List (List D)} (h : Shp m n R) {i : Nat} (hi : i < m) : ∃ r, R[i]? = some r ∧ r.length = n := by
  have hl : i < R.length := by rw [h.rows]; exact hi
  exact ⟨R[i], List.getElem?_eq_getElem hl, h.cols _ (List.getElem_mem hl)⟩
/-! ### plain and flat -/
def Pl (R : List (List D)) : Prop := ∀ r ∈ R, ∀ x ∈ r, x.plain = true ∧ x.depth ≤ 10
theorem plainAll_of : ∀ {l : List D}, (∀ x ∈ l, x.plain = true) → PyData.plainAll l = true
  | [], _ => rfl
  | x :: l, h => by
    simp only [PyData.plainAll, Bool.and_eq_true]
    exact ⟨h x (List.mem_cons_self ..), plainAll_of fun y hy => h y (List.mem_cons_of_mem _ hy)⟩
theorem depthAll_of {k : Nat} : ∀ {l : List D}, (∀ x ∈ l, x.depth ≤ k) → PyData.depthAll l ≤ k
  | [], _ => by simp [PyData.depthAll]
  | x :: l, h => by
    have h1 := h x (List.mem_cons_self ..)
    have h2 := depthAll_of (k := k) fun y hy => h y (List.mem_cons_of_mem _ hy)
    simp only [PyData.depthAll]
    omega
theorem tup_plain {l : List D} (h : ∀ x ∈ l, x.plain = true) : (PyData.tuple l).plain = true := by
  simp only [PyData.plain]; exact plainAll_of h
theorem tup_depth {l : List D} {k : Nat} (h : ∀ x ∈ l, x.depth ≤ k) : (PyData.tuple l).depth ≤ k + 1 := by
  have := depthAll_of h
  simp only [PyData.depth]; omega
theorem list_plain {l : List D} (h : ∀ x ∈ l, x.plain = true) : (PyData.list l).plain = true := by
  simp only [PyData.plain]; exact plainAll_of h
theorem list_depth {l : List D} {k : Nat} (h : ∀ x ∈ l, x.depth ≤ k) : (PyData.list l).depth ≤ k + 1 := by
  have := depthAll_of h
  simp only [PyData.depth]; omega
theorem Pl.mt {m n : Nat} {R : List (List D)} (h : Pl R) : (Mt m n R).plain = true ∧ (Mt m n R).depth ≤ 13 := by
  have h1 : ∀ y ∈ R.map PyData.tuple, y.plain = true ∧ y.depth ≤ 11 := fun y hy => by
    obtain ⟨r, hr, rfl⟩ := List.mem_map.mp hy
    exact ⟨tup_plain fun x hx => (h r hr x hx).1, tup_depth fun x hx => (h r hr x hx).2⟩
  have h2 := tup_plain (l := R.map PyData.tuple) fun y hy => (h1 y hy).1
  have h3 := tup_depth (l := R.map PyData.tuple) (k := 11) fun y hy => (h1 y hy).2
  refine ⟨tup_plain fun x hx => ?_, tup_depth fun x hx => ?_⟩
  · simp only [List.mem_cons, List.not_mem_nil, or_false] at hx
    rcases hx with rfl | rfl | rfl
    · rfl
    · rfl
    · exact h2
  · simp only [List.mem_cons, List.not_mem_nil, or_false] at hx
    rcases hx with rfl | rfl | rfl
    · simp [PyData.depth]
    · simp [PyData.depth]
    · exact h3
theorem dNe_refl' {x : D} {P : D → Prop} (hp : x.plain = true) (hd : x.depth ≤ 64) (h : P (.bool false)) : dNe x x P := (dNe_of ⟨hp, hp, .inl hd⟩ (SeqAt.eqv_refl_plain _ hp)).symm ▸ h
theorem dEq_refl' {x : D} {P : D → Prop} (hp : x.plain = true) (hd : x.depth ≤ 64) (h : P (.bool true)) : dEq x x P := (dEq_of ⟨hp, hp, .inl hd⟩ (SeqAt.eqv_refl_plain _ hp)).symm ▸ h
/-- the item of a tuple at a place -/
theorem dIx_tup {l : List D} {i : Int} {P : D → Prop} {x : D} (h0 : 0 ≤ i) (h : l[i.toNat]? = some x) (p : P x) : dIx (.tuple l) (.int i) P := by
  have hi := (List.getElem?_eq_some_iff.mp h).1
  refine ⟨x, ?_, p⟩
  unfold atI
  rw [ixN_nat h0 hi]
  exact h
theorem dIx_lst {l : List D} {i : Int} {P : D → Prop} {x : D} (h0 : 0 ≤ i) (h : l[i.toNat]? = some x) (p : P x) : dIx (.list l) (.int i) P := by
  have hi := (List.getElem?_eq_some_iff.mp h).1
  refine ⟨x, ?_, p⟩
  unfold atI
  rw [ixN_nat h0 hi]
  exact h
/-! ### blocks on a diagonal -/
structure Blk where
  m : Nat
  n : Nat
  R : List (List D)
def Blk.d (b : Blk) : D := Mt b.m b.n b.R
def Blk.Ok (b : Blk) : Prop := Shp b.m b.n b.R ∧ b.m ≤ 1000 ∧ b.n ≤ 1000 ∧ Pl b.R
def wsum (L : List Blk) : Nat := (L.map (·.n)).sum
def brow (z : D) (N bf : Nat) (b : Blk) (r : List D) : List D := List.replicate bf z ++ r ++ List.replicate (N - bf - b.n) z
def diagR (z : D) (N : Nat) : Nat → List Blk → List (List D)
  | _, [] => []
  | bf, b :: L => b.R.map (brow z N bf b) ++ diagR z N (bf + b.n) L
theorem wsum_cons (b : Blk) (L : List Blk) : wsum (b :: L) = b.n + wsum L := by simp [wsum]
theorem wsum_app (L K : List Blk) : wsum (L ++ K) = wsum L + wsum K := by simp [wsum]
theorem diagR_app (z : D) (N : Nat) : ∀ (L : List Blk) (bf : Nat) (b : Blk), diagR z N bf (L ++ [b]) = diagR z N bf L ++ b.R.map (brow z N (bf + wsum L) b)
  | [], bf, b => by simp [diagR, wsum]
  | a :: L, bf, b => by
    rw [List.cons_append, diagR, diagR, diagR_app z N L (bf + a.n) b, wsum_cons, List.append_assoc, Nat.add_assoc]
theorem isum_cast : ∀ L : List Blk, (L.map fun b => ((b.n : Nat) : Int)).sum = ((wsum L : Nat) : Int)
  | [] => rfl
  | b :: L => by
    rw [List.map_cons, List.sum_cons, isum_cast L, wsum_cons]; omega
theorem diagR_len (z : D) (N : Nat) : ∀ (L : List Blk) (bf : Nat), (diagR z N bf L).length = (L.map fun b => b.R.length).sum
  | [], _ => rfl
  | b :: L, bf => by
    rw [diagR, List.length_append, List.length_map, diagR_len z N L, List.map_cons, List.sum_cons]
theorem diagR_pl {z : D} (hz : z.plain = true ∧ z.depth ≤ 10) {N : Nat} : ∀ (L : List Blk) (bf : Nat), (∀ b ∈ L, Pl b.R) → Pl (diagR z N bf L)
  | [], _, _ => fun r hr => by cases hr
  | b :: L, bf, h => fun r hr x hx => by
    rcases List.mem_append.mp hr with hr | hr
    · obtain ⟨s, hs, rfl⟩ := List.mem_map.mp hr
      rcases List.mem_append.mp hx with hx | hx
      · rcases List.mem_append.mp hx with hx | hx
        · rw [(List.mem_replicate.mp hx).2]; exact hz
        · exact h b (List.mem_cons_self ..) s hs x hx
      · rw [(List.mem_replicate.mp hx).2]; exact hz
    · exact diagR_pl hz L (bf + b.n) (fun c hc => h c (List.mem_cons_of_mem _ hc)) r hr x hx
end My

namespace My
open PySem PySem.Spec PyProof.Rows L2 DL Lean.Grind
/-! ## sums -/
def sm {R : Type} [CommRing R] : Nat → (Nat → R) → R
  | 0, _ => 0
  | n + 1, r => sm n r + r n
section
variable {R : Type} [CommRing R]
theorem sm_congr {r s : Nat → R} : ∀ n : Nat, (∀ k, k < n → r k = s k) → sm n r = sm n s
  | 0, _ => rfl
  | n + 1, h => by rw [sm, sm, sm_congr n fun k hk => h k (by omega), h n (by omega)]
theorem sm_add (r s : Nat → R) : ∀ n : Nat, sm n (fun k => r k + s k) = sm n r + sm n s
  | 0 => by simp only [sm]; grind
  | n + 1 => by simp only [sm, sm_add r s n]; grind
theorem sm_mul (c : R) (r : Nat → R) : ∀ n : Nat, sm n (fun k => c * r k) = c * sm n r
  | 0 => by simp only [sm]; grind
  | n + 1 => by simp only [sm, sm_mul c r n]; grind
theorem sm_zero : ∀ n : Nat, sm n (fun _ => (0 : R)) = 0
  | 0 => rfl
  | n + 1 => by simp only [sm, sm_zero n]; grind
theorem sm_front (r : Nat → R) : ∀ n : Nat, sm (n + 1) r = r 0 + sm n (fun k => r (k + 1))
  | 0 => by simp only [sm]; grind
  | n + 1 => by
    rw [sm, sm_front r n, sm]; grind
/-- one item only -/
theorem sm_one {n i : Nat} (r : Nat → R) (hi : i < n) (h : ∀ k, k < n → k ≠ i → r k = 0) : sm n r = r i := by
  induction n with
  | zero => omega
  | succ n ih =>
    by_cases c : i = n
    · subst c
      rw [sm, sm_congr (s := fun _ => 0) i fun k hk => h k (by omega) (by omega), sm_zero]; grind
    · rw [sm, ih (by omega) fun k hk hne => h k (by omega) hne, h n (by omega) (by omega)]; grind
end
theorem num_sm (f : Fld) (r : Nat → Int) : ∀ n : Nat, f.num (sm n r) = sm n fun k => f.num (r k)
  | 0 => by simp only [sm]; exact f.num_zero
  | n + 1 => by simp only [sm, f.num_add, num_sm f r n]
def idot (a b : List Int) : Int := (List.zipWith (· * ·) a b).sum
theorem idot_sm : ∀ (a b : List Int), a.length = b.length → idot a b = sm a.length fun k => cf a k * cf b k
  | [], _, _ => by simp [idot, sm]
  | x :: a, [], h => by cases h
  | x :: a, y :: b, h => by
    have ih := idot_sm a b (by simpa using h)
    unfold idot at ih ⊢
    rw [List.zipWith_cons_cons, List.sum_cons, ih, List.length_cons, sm_front]
    simp only [cf_zero, cf_succ]
theorem idot_bd {A B : Nat} {a b : List Int} (h : a.length = b.length) (ha : ∀ k, (cf a k).natAbs ≤ A) (hb : ∀ k, (cf b k).natAbs ≤ B) : (idot a b).natAbs ≤ a.length * (A * B) := by
  rw [idot_sm a b h]
  generalize a.length = n
  induction n with
  | zero => simp [sm]
  | succ n ih =>
    rw [sm, Nat.succ_mul]
    refine Nat.le_trans (Int.natAbs_add_le _ _) (Nat.add_le_add ih ?_)
    rw [Int.natAbs_mul]
    exact Nat.mul_le_mul (ha n) (hb n)
/-! ## matrices by their entries -/
def rowD (d : Dom) (n : Nat) (r : Nat → d.C) : List D := (List.range n).map fun j => d.el (r j)
def rowsD (d : Dom) (m n : Nat) (g : Nat → Nat → d.C) : List (List D) := (List.range m).map fun i => rowD d n (g i)
def MtD (d : Dom) (m n : Nat) (g : Nat → Nat → d.C) : D := Mt m n (rowsD d m n g)
section
variable {d : Dom} {m n : Nat} {g h : Nat → Nat → d.C}
theorem rowD_len (r : Nat → d.C) : (rowD d n r).length = n := by simp [rowD]
theorem rowsD_len : (rowsD d m n g).length = m := by simp [rowsD]
theorem rowD_at {r : Nat → d.C} {j : Nat} {x : D} (e : (rowD d n r)[j]? = some x) : j < n ∧ x = d.el (r j) := by
  unfold rowD at e
  rw [List.getElem?_map] at e
  cases q : (List.range n)[j]? with
  | none => rw [q] at e; cases e
  | some k =>
    rw [q] at e
    obtain ⟨h1, h2⟩ := List.getElem?_eq_some_iff.mp q
    simp at h1 h2
    cases e
    exact ⟨h1, by rw [h2]⟩
theorem rowD_get {r : Nat → d.C} {j : Nat} (hj : j < n) : (rowD d n r)[j]? = some (d.el (r j)) := by simp [rowD, hj]
theorem rowsD_at {i : Nat} {x : List D} (e : (rowsD d m n g)[i]? = some x) : i < m ∧ x = rowD d n (g i) := by
  unfold rowsD at e
  rw [List.getElem?_map] at e
  cases q : (List.range m)[i]? with
  | none => rw [q] at e; cases e
  | some k =>
    rw [q] at e
    obtain ⟨h1, h2⟩ := List.getElem?_eq_some_iff.mp q
    simp at h1 h2
    cases e
    exact ⟨h1, by rw [h2]⟩
theorem rowsD_get {i : Nat} (hi : i < m) : (rowsD d m n g)[i]? = some (rowD d n (g i)) := by simp [rowsD, hi]
theorem rowsD_shp : Shp m n (rowsD d m n g) := ⟨rowsD_len, fun r hr => by
  obtain ⟨i, hi⟩ := List.mem_iff_getElem?.mp hr
  obtain ⟨_, rfl⟩ := rowsD_at hi
  exact rowD_len _⟩
theorem rowsD_pl : Pl (rowsD d m n g) := fun r hr x hx => by
  obtain ⟨i, hi⟩ := List.mem_iff_getElem?.mp hr
  obtain ⟨_, rfl⟩ := rowsD_at hi
  obtain ⟨j, hj⟩ := List.mem_iff_getElem?.mp hx
  obtain ⟨_, rfl⟩ := rowD_at hj
  exact ⟨d.el_plain _, by have := d.el_depth (g i j); omega⟩
theorem rowsD_ent {i j : Nat} (hi : i < m) (hj : j < n) : ent (rowsD d m n g) i j = d.el (g i j) := ent_get (rowsD_get hi) (rowD_get hj)
theorem rowD_congr {r s : Nat → d.C} (e : ∀ j, j < n → r j = s j) : rowD d n r = rowD d n s := by
  unfold rowD
  exact List.map_congr_left fun j hj => by rw [e j (List.mem_range.mp hj)]
theorem MtD_congr (e : ∀ i, i < m → ∀ j, j < n → g i j = h i j) : MtD d m n g = MtD d m n h := by
  unfold MtD rowsD
  congr 1
  exact List.map_congr_left fun i hi => rowD_congr (e i (List.mem_range.mp hi))
theorem rowD_inj {r s : Nat → d.C} (e : rowD d n r = rowD d n s) {j : Nat} (hj : j < n) : r j = s j := by
  have h1 := rowD_get (d := d) (n := n) (r := r) hj
  rw [e, rowD_get hj] at h1
  exact (Dom.el_inj (Option.some.inj h1)).symm
theorem MtD_inj {m' n' : Nat} {g' : Nat → Nat → d.C} (e : MtD d m n g = MtD d m' n' g') : m = m' ∧ n = n' ∧ ∀ i, i < m → ∀ j, j < n → g i j = g' i j := by
  obtain ⟨rfl, rfl, e3⟩ := Mt_inj e
  refine ⟨rfl, rfl, fun i hi j hj => ?_⟩
  have h1 := rowsD_get (d := d) (n := n) (g := g) hi
  rw [e3, rowsD_get hi] at h1
  exact (rowD_inj (Option.some.inj h1) hj).symm
/-- a law's matrix by its entries -/
theorem MtD_of (X : List (List d.C)) (h1 : X.length = m) (h2 : ∀ x ∈ X, x.length = n) : Mt m n (X.map fun x => x.map d.el) = MtD d m n fun i j => cf (X.getD i []) j := by
  unfold MtD
  congr 1
  refine List.ext_getElem? fun i => ?_
  by_cases hi : i < m
  · rw [rowsD_get hi, List.getElem?_map, List.getElem?_eq_getElem (by omega)]
    show some _ = some _
    congr 1
    refine List.ext_getElem? fun j => ?_
    have e0 : X.getD i [] = X[i]'(by omega) := by
      rw [List.getD_eq_getElem?_getD, List.getElem?_eq_getElem (by omega)]; rfl
    have hl := h2 _ (List.getElem_mem (show i < X.length by omega))
    by_cases hj : j < n
    · rw [rowD_get hj, List.getElem?_map, List.getElem?_eq_getElem (by omega), e0]
      show some _ = some _
      congr 2
      unfold cf
      rw [List.getD_eq_getElem?_getD, List.getElem?_eq_getElem (by omega)]; rfl
    · rw [List.getElem?_eq_none (by rw [List.length_map]; omega), List.getElem?_eq_none (by rw [rowD_len]; omega)]
  · rw [List.getElem?_eq_none (by rw [List.length_map]; omega), List.getElem?_eq_none (by rw [rowsD_len]; omega)]
end
/-- products -/
def mmul {R : Type} [CommRing R] (p : Nat) (g h : Nat → Nat → R) : Nat → Nat → R := fun i j => sm p fun k => g i k * h k j
def mone {R : Type} [CommRing R] : Nat → Nat → R := fun i j => if i = j then 1 else 0
/-- the value at a matrix, by Horner -/
def mhor {R : Type} [CommRing R] (n : Nat) (a : Nat → Nat → R) : List R → Nat → Nat → R
  | [] => fun _ _ => 0
  | c :: l => fun i j => mmul n (mhor n a l) a i j + c * mone i j
/-- and power by power -/
def mpow {R : Type} [CommRing R] (n : Nat) (a : Nat → Nat → R) : Nat → Nat → Nat → R
  | 0 => mone
  | k + 1 => mmul n (mpow n a k) a
def msum {R : Type} [CommRing R] (n : Nat) (a : Nat → Nat → R) (l : List R) : Nat → Nat → Nat → R
  | 0 => fun _ _ => 0
  | k + 1 => fun i j => msum n a l k i j + cf l k * mpow n a k i j
section
variable {R : Type} [CommRing R]
theorem msum_sm (n : Nat) (a : Nat → Nat → R) (l : List R) (i j : Nat) : ∀ k, msum n a l k i j = sm k fun t => cf l t * mpow n a t i j
  | 0 => rfl
  | k + 1 => by
    show msum n a l k i j + _ = sm k _ + _
    rw [msum_sm n a l i j k]
theorem sm_swap (s : Nat → Nat → R) (m : Nat) : ∀ n : Nat, sm n (fun k => sm m fun t => s k t) = sm m fun t => sm n fun k => s k t
  | 0 => by simp only [sm]; rw [sm_zero]
  | n + 1 => by
    simp only [sm]
    rw [sm_swap s m n, ← sm_add]
theorem mhor_sum (n : Nat) (a : Nat → Nat → R) : ∀ (l : List R) (i j : Nat), mhor n a l i j = sm l.length fun t => cf l t * mpow n a t i j
  | [], i, j => rfl
  | c :: l, i, j => by
    rw [mhor, List.length_cons, sm_front]
    simp only [cf_zero, cf_succ]
    have e : mmul n (mhor n a l) a i j = sm l.length fun t => cf l t * mpow n a (t + 1) i j := by
      unfold mmul
      rw [sm_congr (s := fun k => sm l.length fun t => cf l t * (mpow n a t i k * a k j)) n fun k hk => by
        rw [mhor_sum n a l i k]
        have := sm_mul (a k j) (fun t => cf l t * mpow n a t i k) l.length
        have e2 : (fun t => cf l t * (mpow n a t i k * a k j)) = fun t => a k j * (cf l t * mpow n a t i k) := funext fun t => by grind
        rw [e2, this]; grind]
      rw [sm_swap]
      refine sm_congr _ fun t ht => ?_
      rw [sm_mul]
      rfl
    rw [e]
    show _ + c * mone i j = c * mone i j + _
    grind
end
end My
namespace DL
open PySem PySem.Spec PyProof.Rows L2
/-- a comprehension over given items whose answers are known by a relation -/
theorem wCompGD_of {ds : List D} {i : Nat} {we : WE} {ρ : Rho} {P : List D → Rho → Prop} (R : Nat → D → Prop) (hN : ds.length ≤ 100000)
    (hs : ∀ (j : Nat) (x : D) (Q : D → Rho → Prop), ds[j]? = some x → (∀ y, R j y → Q y (put ρ i (.val x))) → we (put ρ i (.val x)) Q)
    (hP : ∀ ys : List D, ys.length = ds.length → (∀ j y, ys[j]? = some y → R j y) → P ys (put ρ i .un)) : wCompD ds i wYes we ρ P := by
  refine ⟨fun j acc => acc.length = j ∧ ∀ k y, acc[k]? = some y → R k y, ⟨rfl, fun k y h => by simp at h⟩, fun j x acc hx hI => ?_, fun acc hI => hP acc hI.1 hI.2⟩
  have h1 : j < ds.length := (List.getElem?_eq_some_iff.mp hx).1
  refine ⟨rfl, ?_⟩
  rw [if_pos rfl]
  refine hs j x _ hx fun y hy => ⟨rfl, by omega, by simp [hI.1], fun k z hz => ?_⟩
  rw [List.getElem?_append] at hz
  split at hz
  · exact hI.2 k z hz
  · next c =>
    have e : k = j := by
      have := (List.getElem?_eq_some_iff.mp hz).1
      simp at this; omega
    subst e
    rw [hI.1, Nat.sub_self] at hz
    cases hz
    exact hy
end DL
namespace My
open PySem PySem.Spec PyProof.Rows L2 DL Lean.Grind
/-- the transposed rows -/
def trR (m n : Nat) (R : List (List D)) : List (List D) := (List.range n).map fun j => (List.range m).map fun i => ent R i j
theorem trR_at {m n : Nat} {R : List (List D)} {j : Nat} {x : List D} (e : (trR m n R)[j]? = some x) : j < n ∧ x = (List.range m).map fun i => ent R i j := by
  unfold trR at e
  rw [List.getElem?_map] at e
  cases q : (List.range n)[j]? with
  | none => rw [q] at e; cases e
  | some k =>
    rw [q] at e
    obtain ⟨h1, h2⟩ := List.getElem?_eq_some_iff.mp q
    simp at h1 h2
    cases e
    exact ⟨h1, by rw [h2]⟩
theorem ran_at {m : Nat} {F : Nat → D} {i : Nat} {x : D} (e : ((List.range m).map F)[i]? = some x) : i < m ∧ x = F i := by
  rw [List.getElem?_map] at e
  cases q : (List.range m)[i]? with
  | none => rw [q] at e; cases e
  | some k =>
    rw [q] at e
    obtain ⟨h1, h2⟩ := List.getElem?_eq_some_iff.mp q
    simp at h1 h2
    cases e
    exact ⟨h1, by rw [h2]⟩
theorem colD {d : Dom} {m n : Nat} {g : Nat → Nat → d.C} {j : Nat} (hj : j < n) : ((List.range m).map fun i => ent (rowsD d m n g) i j) = rowD d m fun i => g i j := by
  unfold rowD
  exact List.map_congr_left fun i hi => rowsD_ent (List.mem_range.mp hi) hj
theorem trR_rows {d : Dom} {m n : Nat} {g : Nat → Nat → d.C} : trR m n (rowsD d m n g) = rowsD d n m fun i j => g j i := by
  unfold trR
  conv => rhs; unfold rowsD
  exact List.map_congr_left fun j hj => colD (List.mem_range.mp hj)
theorem rowK {f : Fld} {n : Nat} {r : Nat → f.C} : rowD (.K f) n r = ((List.range n).map r).map f.el := by
  unfold rowD
  rw [List.map_map]; rfl
theorem vec_cf {R : Type} [CommRing R] {n : Nat} (r : Nat → R) (k : Nat) : cf ((List.range n).map r) k = if k < n then r k else 0 := cf_map_range r n k
theorem sm_In {f : Fld} {M A : Nat} {r : Nat → f.C} (h : ∀ k, f.In M A (r k)) : ∀ n : Nat, f.In M (n * A) (sm n r)
  | 0 => Fld.In.zero f M _
  | n + 1 => by rw [sm, Nat.succ_mul]; exact (sm_In h n).add (h n)
theorem mhor_drop {R : Type} [CommRing R] (n : Nat) (a : Nat → Nat → R) (l : List R) {i : Nat} (h : i < l.length) : mhor n a (l.drop (l.length - (i + 1))) = fun p q => mmul n (mhor n a (l.drop (l.length - i))) a p q + cf l (l.length - 1 - i) * mone p q := by
  have h1 : l.length - (i + 1) < l.length := by omega
  rw [List.drop_eq_getElem_cons h1, mhor, show l.length - (i + 1) + 1 = l.length - i by omega]
  have : l[l.length - (i + 1)] = cf l (l.length - 1 - i) := by
    unfold cf
    rw [List.getD_eq_getElem?_getD, show l.length - 1 - i = l.length - (i + 1) by omega, List.getElem?_eq_getElem h1]
    rfl
  rw [this]
theorem one_In (f : Fld) (i j : Nat) : f.In 1 1 (mone i j : f.C) := by
  unfold mone
  split
  · exact Fld.In.one f
  · exact Fld.In.zero f 1 1
theorem mhor_In {f : Fld} {n : Nat} {a : Nat → Nat → f.C} (hn : n ≤ 4) (ha : ∀ i j, f.In 6 50 (a i j)) : ∀ l : List f.C, (∀ k, f.In 6 50 (cf l k)) → ∀ i j, f.In (6 ^ l.length) (2 ^ (9 * l.length)) (mhor n a l i j)
  | [], _, i, j => Fld.In.zero f _ _
  | c :: l, h, i, j => by
    have ih := mhor_In hn ha l fun k => by have := h (k + 1); rwa [cf_succ] at this
    have hc : f.In 6 50 c := by have := h 0; rwa [cf_zero] at this
    have h1 : f.In (6 ^ l.length * 6) (n * (2 ^ (9 * l.length) * 50)) (mmul n (mhor n a l) a i j) := sm_In (fun k => (ih i k).mul (ha k j)) n
    have h2 := (hc.mul (one_In f i j)).scale (6 ^ l.length)
    have h3 : f.In (6 ^ l.length * 6) (50 * 1 * 6 ^ l.length) (c * mone i j) := by
      have e : 6 * 1 * 6 ^ l.length = 6 ^ l.length * 6 := by rw [Nat.mul_one, Nat.mul_comm]
      rw [← e]; exact h2
    have h4 := h1.add h3
    rw [List.length_cons, Nat.pow_succ]
    refine h4.mono ?_
    have g1 : 6 ^ l.length ≤ 2 ^ (9 * l.length) := by
      have : 6 ^ l.length ≤ (2 ^ 9) ^ l.length := Nat.pow_le_pow_left (by decide) _
      rwa [← Nat.pow_mul] at this
    have g2 : n * (2 ^ (9 * l.length) * 50) ≤ 4 * (2 ^ (9 * l.length) * 50) := Nat.mul_le_mul_right _ hn
    have g3 : 2 ^ (9 * (l.length + 1)) = 512 * 2 ^ (9 * l.length) := by
      rw [Nat.mul_succ, Nat.pow_add, Nat.mul_comm]
    rw [g3]
    omega
theorem mpow_In {f : Fld} {n : Nat} {a : Nat → Nat → f.C} (hn : n ≤ 4) (ha : ∀ i j, f.In 6 50 (a i j)) : ∀ (k : Nat) (i j : Nat), f.In (6 ^ k) (2 ^ (8 * k)) (mpow n a k i j)
  | 0, i, j => one_In f i j
  | k + 1, i, j => by
    have h1 : f.In (6 ^ k * 6) (n * (2 ^ (8 * k) * 50)) (mmul n (mpow n a k) a i j) := sm_In (fun t => (mpow_In hn ha k i t).mul (ha t j)) n
    rw [Nat.pow_succ]
    refine h1.mono ?_
    have g2 : n * (2 ^ (8 * k) * 50) ≤ 4 * (2 ^ (8 * k) * 50) := Nat.mul_le_mul_right _ hn
    have g3 : 2 ^ (8 * (k + 1)) = 256 * 2 ^ (8 * k) := by rw [Nat.mul_succ, Nat.pow_add, Nat.mul_comm]
    rw [g3]
    omega
theorem msum_In {f : Fld} {n : Nat} {a : Nat → Nat → f.C} {l : List f.C} (hn : n ≤ 4) (ha : ∀ i j, f.In 6 50 (a i j)) (hl : ∀ k, f.In 6 50 (cf l k)) : ∀ (k : Nat) (i j : Nat), f.In (6 ^ k) (2 ^ (9 * k)) (msum n a l k i j)
  | 0, i, j => Fld.In.zero f _ _
  | k + 1, i, j => by
    have h1 := (msum_In hn ha hl k i j).scale 6
    have h2 := (hl k).mul (mpow_In hn ha k i j)
    have h3 : f.In (6 ^ k * 6) (50 * 2 ^ (8 * k)) (cf l k * mpow n a k i j) := by rw [Nat.mul_comm (6 ^ k) 6]; exact h2
    rw [Nat.pow_succ]
    refine (h1.add h3).mono ?_
    have g1 : 2 ^ (8 * k) ≤ 2 ^ (9 * k) := Nat.pow_le_pow_right (by decide) (by omega)
    have g3 : 2 ^ (9 * (k + 1)) = 512 * 2 ^ (9 * k) := by rw [Nat.mul_succ, Nat.pow_add, Nat.mul_comm]
    rw [g3]
    omega
end My

namespace My
open PySem PySem.Spec PyProof.Rows L2 DL Lean.Grind
/-! ## orders, their signs, determinants by them -/
def insAt (k : Nat) (one : List Nat) (i : Nat) : List Nat := one.take i ++ [k] ++ one.drop i
def ordStep (k : Nat) (found : List (List Nat)) : List (List Nat) := found.foldl (fun l one => l ++ (List.range (k + 1)).map (insAt k one)) []
def orders : Nat → List (List Nat)
  | 0 => [[]]
  | k + 1 => ordStep k (orders k)
def lN (l : List Nat) : D := .list (l.map fun i => .int (i : Nat))
def lNs (L : List (List Nat)) : D := .list (L.map lN)
def sgnI (o : List Nat) (i : Nat) (s : Int) (j : Nat) : Int := if o.getD i 0 < o.getD j 0 then 0 - s else s
def sgnR (o : List Nat) (i : Nat) (s : Int) : Int := (List.range i).foldl (sgnI o i) s
def sgn (o : List Nat) : Int := (List.range o.length).foldl (fun s i => sgnR o i s) 1
def termN (n : Nat) (A : Nat → Nat → Int) (o : List Nat) : Int := (List.range n).foldl (fun p i => p * A i (o.getD i 0)) (sgn o)
def detN (n : Nat) (A : Nat → Nat → Int) : Int := (orders n).foldl (fun t o => t + termN n A o) 0
theorem foldl_succ {α : Type} (g : α → Nat → α) (x : α) (n : Nat) : (List.range (n + 1)).foldl g x = g ((List.range n).foldl g x) n := by
  rw [List.range_succ, List.foldl_append]; rfl
theorem foldl_take {α β : Type} (g : β → α → β) (x : β) {l : List α} {i : Nat} {a : α} (h : l[i]? = some a) : (l.take (i + 1)).foldl g x = g ((l.take i).foldl g x) a := by
  rw [List.take_succ, h, List.foldl_append]; rfl
theorem sgnI_ab (o : List Nat) (i : Nat) (s : Int) (j : Nat) : (sgnI o i s j).natAbs = s.natAbs := by
  unfold sgnI
  split <;> omega
theorem sgnR_ab (o : List Nat) (i : Nat) (s : Int) : (sgnR o i s).natAbs = s.natAbs := by
  unfold sgnR
  induction i with
  | zero => rfl
  | succ i ih =>
    have key : ∀ (k n : Nat), ((List.range n).foldl (sgnI o k) s).natAbs = s.natAbs := fun k n => by
      induction n with
      | zero => rfl
      | succ n ih => rw [foldl_succ, sgnI_ab, ih]
    exact key _ _
theorem sgn_ab (o : List Nat) : (sgn o).natAbs = 1 := by
  unfold sgn
  generalize o.length = n
  induction n with
  | zero => rfl
  | succ n ih => rw [foldl_succ, sgnR_ab, ih]
/-! ## the bound of Hadamard -/
section
variable {n : Nat}
theorem pos_sq (a : Int) : 0 ≤ a * a := by
  rcases Int.le_total 0 a with h | h
  · exact Int.mul_nonneg h h
  · have := Int.mul_nonneg (show 0 ≤ -a by omega) (show 0 ≤ -a by omega)
    rwa [Int.neg_mul_neg] at this
theorem cs4 (a b c d x y z w : Int) : (a * x + b * y + c * z + d * w) * (a * x + b * y + c * z + d * w) ≤ (a * a + b * b + c * c + d * d) * (x * x + y * y + z * z + w * w) := by
  have h1 := pos_sq (a * y - b * x)
  have h2 := pos_sq (a * z - c * x)
  have h3 := pos_sq (a * w - d * x)
  have h4 := pos_sq (b * z - c * y)
  have h5 := pos_sq (b * w - d * y)
  have h6 := pos_sq (c * w - d * z)
  have e : (a * a + b * b + c * c + d * d) * (x * x + y * y + z * z + w * w) = (a * x + b * y + c * z + d * w) * (a * x + b * y + c * z + d * w) + ((a * y - b * x) * (a * y - b * x) + (a * z - c * x) * (a * z - c * x) + (a * w - d * x) * (a * w - d * x) + (b * z - c * y) * (b * z - c * y) + (b * w - d * y) * (b * w - d * y) + (c * w - d * z) * (c * w - d * z)) := by grind
  rw [e]
  omega
theorem sq_le2 {a b : Int} (hb : 0 ≤ b) (h : a * a ≤ b * b) : a ≤ b := by
  rcases Int.lt_or_le b a with g | g
  · have := Int.mul_lt_mul' (Int.le_of_lt g) g hb (show 0 < a by omega)
    omega
  · exact g
/-- a Gram determinant is at most the product of its diagonal -/
theorem gram3 {a b c x y z : Int} (ha : 0 ≤ a) (hb : 0 ≤ b) (hc : 0 ≤ c) (h : x * x ≤ a * b) : a * b * c + 2 * x * y * z - a * (z * z) - b * (y * y) - c * (x * x) ≤ a * b * c := by
  have h1 : 0 ≤ c * (x * x) := Int.mul_nonneg hc (pos_sq x)
  have h2 : 0 ≤ a * (z * z) := Int.mul_nonneg ha (pos_sq z)
  have h3 : 0 ≤ b * (y * y) := Int.mul_nonneg hb (pos_sq y)
  have h4 : 2 * x * y * z ≤ a * (z * z) + b * (y * y) := by
    refine sq_le2 (a := 2 * x * y * z) (b := a * (z * z) + b * (y * y)) (by omega) ?_
    have g1 := pos_sq (a * (z * z) - b * (y * y))
    have g2 : 0 ≤ (a * b - x * x) * ((y * z) * (y * z)) := Int.mul_nonneg (by omega) (pos_sq _)
    have e : (a * (z * z) + b * (y * y)) * (a * (z * z) + b * (y * y)) = (a * (z * z) - b * (y * y)) * (a * (z * z) - b * (y * y)) + 4 * ((a * b - x * x) * ((y * z) * (y * z))) + 2 * x * y * z * (2 * x * y * z) := by grind
    omega
  omega
end
end My
namespace My
open PySem PySem.Spec PyProof.Rows L2 DL Lean.Grind
/-- the determinant over signed orders -/
def detL (n : Nat) (A : Nat → Nat → Int) (L : List (Int × List Nat)) : Int := L.foldl (fun t p => t + (List.range n).foldl (fun q i => q * A i (p.2.getD i 0)) p.1) 0
theorem detN_L (n : Nat) (A : Nat → Nat → Int) : detN n A = detL n A ((orders n).map fun o => (sgn o, o)) := by
  unfold detL detN
  rw [List.foldl_map]
  rfl

theorem ord0 : ((orders 0).map fun o => (sgn o, o)) = [(1, [])] := by decide +kernel
theorem det0 (A : Nat → Nat → Int) : detN 0 A = 1 := by
  rw [detN_L, ord0]
  show (0 : Int) + ((1 : Int)) = _
  grind
theorem ord1 : ((orders 1).map fun o => (sgn o, o)) = [(1, [0])] := by decide +kernel
theorem det1 (A : Nat → Nat → Int) : detN 1 A = A 0 0 := by
  rw [detN_L, ord1]
  show (0 : Int) + ((1 : Int) * A 0 0) = _
  grind
theorem ord2 : ((orders 2).map fun o => (sgn o, o)) = [(-1, [1, 0]), (1, [0, 1])] := by decide +kernel
theorem det2 (A : Nat → Nat → Int) : detN 2 A = - A 0 1 * A 1 0 + A 0 0 * A 1 1 := by
  rw [detN_L, ord2]
  show (0 : Int) + ((-1 : Int) * A 0 1 * A 1 0) + ((1 : Int) * A 0 0 * A 1 1) = _
  grind
theorem ord3 : ((orders 3).map fun o => (sgn o, o)) = [(-1, [2, 1, 0]), (1, [1, 2, 0]), (-1, [1, 0, 2]), (1, [2, 0, 1]), (-1, [0, 2, 1]), (1, [0, 1, 2])] := by decide +kernel
theorem det3 (A : Nat → Nat → Int) : detN 3 A = - A 0 2 * A 1 1 * A 2 0 + A 0 1 * A 1 2 * A 2 0 - A 0 1 * A 1 0 * A 2 2 + A 0 2 * A 1 0 * A 2 1 - A 0 0 * A 1 2 * A 2 1 + A 0 0 * A 1 1 * A 2 2 := by
  rw [detN_L, ord3]
  show (0 : Int) + ((-1 : Int) * A 0 2 * A 1 1 * A 2 0) + ((1 : Int) * A 0 1 * A 1 2 * A 2 0) + ((-1 : Int) * A 0 1 * A 1 0 * A 2 2) + ((1 : Int) * A 0 2 * A 1 0 * A 2 1) + ((-1 : Int) * A 0 0 * A 1 2 * A 2 1) + ((1 : Int) * A 0 0 * A 1 1 * A 2 2) = _
  grind
theorem ord4 : ((orders 4).map fun o => (sgn o, o)) = [(1, [3, 2, 1, 0]), (-1, [2, 3, 1, 0]), (1, [2, 1, 3, 0]), (-1, [2, 1, 0, 3]), (-1, [3, 1, 2, 0]), (1, [1, 3, 2, 0]), (-1, [1, 2, 3, 0]), (1, [1, 2, 0, 3]), (1, [3, 1, 0, 2]), (-1, [1, 3, 0, 2]), (1, [1, 0, 3, 2]), (-1, [1, 0, 2, 3]), (-1, [3, 2, 0, 1]), (1, [2, 3, 0, 1]), (-1, [2, 0, 3, 1]), (1, [2, 0, 1, 3]), (1, [3, 0, 2, 1]), (-1, [0, 3, 2, 1]), (1, [0, 2, 3, 1]), (-1, [0, 2, 1, 3]), (-1, [3, 0, 1, 2]), (1, [0, 3, 1, 2]), (-1, [0, 1, 3, 2]), (1, [0, 1, 2, 3])] := by decide +kernel
theorem det4 (A : Nat → Nat → Int) : detN 4 A = A 0 3 * A 1 2 * A 2 1 * A 3 0 - A 0 2 * A 1 3 * A 2 1 * A 3 0 + A 0 2 * A 1 1 * A 2 3 * A 3 0 - A 0 2 * A 1 1 * A 2 0 * A 3 3 - A 0 3 * A 1 1 * A 2 2 * A 3 0 + A 0 1 * A 1 3 * A 2 2 * A 3 0 - A 0 1 * A 1 2 * A 2 3 * A 3 0 + A 0 1 * A 1 2 * A 2 0 * A 3 3 + A 0 3 * A 1 1 * A 2 0 * A 3 2 - A 0 1 * A 1 3 * A 2 0 * A 3 2 + A 0 1 * A 1 0 * A 2 3 * A 3 2 - A 0 1 * A 1 0 * A 2 2 * A 3 3 - A 0 3 * A 1 2 * A 2 0 * A 3 1 + A 0 2 * A 1 3 * A 2 0 * A 3 1 - A 0 2 * A 1 0 * A 2 3 * A 3 1 + A 0 2 * A 1 0 * A 2 1 * A 3 3 + A 0 3 * A 1 0 * A 2 2 * A 3 1 - A 0 0 * A 1 3 * A 2 2 * A 3 1 + A 0 0 * A 1 2 * A 2 3 * A 3 1 - A 0 0 * A 1 2 * A 2 1 * A 3 3 - A 0 3 * A 1 0 * A 2 1 * A 3 2 + A 0 0 * A 1 3 * A 2 1 * A 3 2 - A 0 0 * A 1 1 * A 2 3 * A 3 2 + A 0 0 * A 1 1 * A 2 2 * A 3 3 := by
  rw [detN_L, ord4]
  show (0 : Int) + ((1 : Int) * A 0 3 * A 1 2 * A 2 1 * A 3 0) + ((-1 : Int) * A 0 2 * A 1 3 * A 2 1 * A 3 0) + ((1 : Int) * A 0 2 * A 1 1 * A 2 3 * A 3 0) + ((-1 : Int) * A 0 2 * A 1 1 * A 2 0 * A 3 3) + ((-1 : Int) * A 0 3 * A 1 1 * A 2 2 * A 3 0) + ((1 : Int) * A 0 1 * A 1 3 * A 2 2 * A 3 0) + ((-1 : Int) * A 0 1 * A 1 2 * A 2 3 * A 3 0) + ((1 : Int) * A 0 1 * A 1 2 * A 2 0 * A 3 3) + ((1 : Int) * A 0 3 * A 1 1 * A 2 0 * A 3 2) + ((-1 : Int) * A 0 1 * A 1 3 * A 2 0 * A 3 2) + ((1 : Int) * A 0 1 * A 1 0 * A 2 3 * A 3 2) + ((-1 : Int) * A 0 1 * A 1 0 * A 2 2 * A 3 3) + ((-1 : Int) * A 0 3 * A 1 2 * A 2 0 * A 3 1) + ((1 : Int) * A 0 2 * A 1 3 * A 2 0 * A 3 1) + ((-1 : Int) * A 0 2 * A 1 0 * A 2 3 * A 3 1) + ((1 : Int) * A 0 2 * A 1 0 * A 2 1 * A 3 3) + ((1 : Int) * A 0 3 * A 1 0 * A 2 2 * A 3 1) + ((-1 : Int) * A 0 0 * A 1 3 * A 2 2 * A 3 1) + ((1 : Int) * A 0 0 * A 1 2 * A 2 3 * A 3 1) + ((-1 : Int) * A 0 0 * A 1 2 * A 2 1 * A 3 3) + ((-1 : Int) * A 0 3 * A 1 0 * A 2 1 * A 3 2) + ((1 : Int) * A 0 0 * A 1 3 * A 2 1 * A 3 2) + ((-1 : Int) * A 0 0 * A 1 1 * A 2 3 * A 3 2) + ((1 : Int) * A 0 0 * A 1 1 * A 2 2 * A 3 3) = _
  grind
end My
namespace My
open PySem PySem.Spec PyProof.Rows L2 DL Lean.Grind
theorem had2 (a b x y : Int) : (a * y - b * x) * (a * y - b * x) ≤ (a * a + b * b) * (x * x + y * y) := by
  have h := pos_sq (a * x + b * y)
  have e : (a * a + b * b) * (x * x + y * y) = (a * y - b * x) * (a * y - b * x) + (a * x + b * y) * (a * x + b * y) := by grind
  omega
/-- the minors of three vectors -/
theorem minors (a b c d x y z w p q r s X0 X1 X2 X3 : Int) (h0 : X0 = b * z * s - b * w * r - c * y * s + c * w * q + d * y * r - d * z * q) (h1 : X1 = -(a * z * s - a * w * r - c * x * s + c * w * p + d * x * r - d * z * p)) (h2 : X2 = a * y * s - a * w * q - b * x * s + b * w * p + d * x * q - d * y * p) (h3 : X3 = -(a * y * r - a * z * q - b * x * r + b * z * p + c * x * q - c * y * p)) :
    X0 * X0 + X1 * X1 + X2 * X2 + X3 * X3 ≤ (a * a + b * b + c * c + d * d) * (x * x + y * y + z * z + w * w) * (p * p + q * q + r * r + s * s) := by
  have hc := cs4 a b c d x y z w
  have nn : ∀ a b c d : Int, 0 ≤ a * a + b * b + c * c + d * d := fun a b c d => by
    have := pos_sq a
    have := pos_sq b
    have := pos_sq c
    have := pos_sq d
    omega
  have g := gram3 (y := a * p + b * q + c * r + d * s) (z := x * p + y * q + z * r + w * s) (nn a b c d) (nn x y z w) (nn p q r s) hc
  refine Int.le_trans (Int.le_of_eq ?_) g
  subst h0 h1 h2 h3
  grind
end My
namespace My
open PySem PySem.Spec PyProof.Rows L2 DL Lean.Grind
/-- the sum of the squares of a row -/
def sqs (n : Nat) (r : Nat → Int) : Int := ((List.range n).map fun j => r j * r j).sum
theorem sqs_nn (n : Nat) (r : Nat → Int) : 0 ≤ sqs n r := by
  unfold sqs
  induction n with
  | zero => exact Int.le_refl 0
  | succ n ih =>
    rw [List.range_succ, List.map_append, List.sum_append]
    have := pos_sq (r n)
    simp
    omega
theorem had (n : Nat) (hn : n ≤ 4) (A : Nat → Nat → Int) : detN n A * detN n A ≤ (List.range n).foldl (fun p i => p * sqs n (A i)) 1 := by
  match n, hn with
  | 0, _ =>
    rw [det0]
    exact (by decide : (1 : Int) * 1 ≤ 1)
  | 1, _ =>
    rw [det1]
    show _ ≤ 1 * (A 0 0 * A 0 0 + 0)
    omega
  | 2, _ =>
    rw [det2]
    show _ ≤ 1 * (A 0 0 * A 0 0 + (A 0 1 * A 0 1 + 0)) * (A 1 0 * A 1 0 + (A 1 1 * A 1 1 + 0))
    have h := had2 (A 0 0) (A 0 1) (A 1 0) (A 1 1)
    refine Int.le_trans (Int.le_of_eq ?_) (Int.le_trans h (Int.le_of_eq ?_)) <;> grind
  | 3, _ =>
    rw [det3]
    show _ ≤ 1 * (A 0 0 * A 0 0 + (A 0 1 * A 0 1 + (A 0 2 * A 0 2 + 0))) * (A 1 0 * A 1 0 + (A 1 1 * A 1 1 + (A 1 2 * A 1 2 + 0))) * (A 2 0 * A 2 0 + (A 2 1 * A 2 1 + (A 2 2 * A 2 2 + 0)))
    have h := cs4 (A 0 0) (A 0 1) (A 0 2) 0 (A 1 0) (A 1 1) (A 1 2) 0
    have nn : ∀ a b c : Int, 0 ≤ a * a + b * b + c * c := fun a b c => by
      have := pos_sq a
      have := pos_sq b
      have := pos_sq c
      omega
    have g := gram3 (a := A 0 0 * A 0 0 + A 0 1 * A 0 1 + A 0 2 * A 0 2) (b := A 1 0 * A 1 0 + A 1 1 * A 1 1 + A 1 2 * A 1 2) (c := A 2 0 * A 2 0 + A 2 1 * A 2 1 + A 2 2 * A 2 2) (x := A 0 0 * A 1 0 + A 0 1 * A 1 1 + A 0 2 * A 1 2) (y := A 0 0 * A 2 0 + A 0 1 * A 2 1 + A 0 2 * A 2 2) (z := A 1 0 * A 2 0 + A 1 1 * A 2 1 + A 1 2 * A 2 2) (nn _ _ _) (nn _ _ _) (nn _ _ _) (by
        refine Int.le_trans (Int.le_of_eq ?_) (Int.le_trans h (Int.le_of_eq ?_)) <;> grind)
    refine Int.le_trans (Int.le_of_eq ?_) (Int.le_trans g (Int.le_of_eq ?_)) <;> grind
  | 4, _ =>
    rw [det4]
    show _ ≤ 1 * (A 0 0 * A 0 0 + (A 0 1 * A 0 1 + (A 0 2 * A 0 2 + (A 0 3 * A 0 3 + 0)))) * (A 1 0 * A 1 0 + (A 1 1 * A 1 1 + (A 1 2 * A 1 2 + (A 1 3 * A 1 3 + 0)))) * (A 2 0 * A 2 0 + (A 2 1 * A 2 1 + (A 2 2 * A 2 2 + (A 2 3 * A 2 3 + 0)))) * (A 3 0 * A 3 0 + (A 3 1 * A 3 1 + (A 3 2 * A 3 2 + (A 3 3 * A 3 3 + 0))))
    generalize A 0 0 = a0
    generalize A 0 1 = a1
    generalize A 0 2 = a2
    generalize A 0 3 = a3
    generalize A 1 0 = a
    generalize A 1 1 = b
    generalize A 1 2 = c
    generalize A 1 3 = d
    generalize A 2 0 = x
    generalize A 2 1 = y
    generalize A 2 2 = z
    generalize A 2 3 = w
    generalize A 3 0 = p
    generalize A 3 1 = q
    generalize A 3 2 = r
    generalize A 3 3 = s
    have hm := minors a b c d x y z w p q r s _ _ _ _ rfl rfl rfl rfl
    have hc := cs4 a0 a1 a2 a3 (b * z * s - b * w * r - c * y * s + c * w * q + d * y * r - d * z * q) (-(a * z * s - a * w * r - c * x * s + c * w * p + d * x * r - d * z * p)) (a * y * s - a * w * q - b * x * s + b * w * p + d * x * q - d * y * p) (-(a * y * r - a * z * q - b * x * r + b * z * p + c * x * q - c * y * p))
    have n0 : 0 ≤ a0 * a0 + a1 * a1 + a2 * a2 + a3 * a3 := by
      have := pos_sq a0
      have := pos_sq a1
      have := pos_sq a2
      have := pos_sq a3
      omega
    have hk := Int.mul_le_mul_of_nonneg_left hm n0
    refine Int.le_trans (Int.le_of_eq ?_) (Int.le_trans (Int.le_trans hc hk) (Int.le_of_eq ?_))
    · exact congrArg (fun t : Int => t * t) (by grind)
    · grind
/-- the root of a number -/
def isq : Nat → Nat
  | 0 => 0
  | n + 1 => if (isq n + 1) * (isq n + 1) ≤ n + 1 then isq n + 1 else isq n
theorem isq_spec (n : Nat) : isq n * isq n ≤ n ∧ n < (isq n + 1) * (isq n + 1) := by
  induction n with
  | zero => decide
  | succ n ih =>
    rw [isq]
    split
    · next c =>
      refine ⟨c, ?_⟩
      have e : (isq n + 1 + 1) * (isq n + 1 + 1) = (isq n + 1) * (isq n + 1) + 2 * isq n + 3 := by grind
      omega
    · next c => exact ⟨by omega, by omega⟩
theorem isq_uniq {n x : Nat} (h1 : x * x ≤ n) (h2 : n < (x + 1) * (x + 1)) : x = isq n := by
  obtain ⟨g1, g2⟩ := isq_spec n
  have a1 : ¬ x < isq n := fun h => by
    have := Nat.mul_le_mul (show x + 1 ≤ isq n from h) (show x + 1 ≤ isq n from h)
    omega
  have a2 : ¬ isq n < x := fun h => by
    have := Nat.mul_le_mul (show isq n + 1 ≤ x from h) (show isq n + 1 ≤ x from h)
    omega
  omega
/-- the bound: a factor for each row -/
def bndF (n : Nat) (A : Nat → Nat → Int) (more : Int) (i : Nat) : Int := (isq (sqs n (A i)).toNat : Int) + more
def bnd (n : Nat) (A : Nat → Nat → Int) (more : Int) (k : Nat) : Int := (List.range k).foldl (fun p i => p * bndF n A more i) 1
theorem bnd_succ (n : Nat) (A : Nat → Nat → Int) (more : Int) (k : Nat) : bnd n A more (k + 1) = bnd n A more k * bndF n A more k := foldl_succ ..
theorem had_bnd (n : Nat) (hn : n ≤ 4) (A : Nat → Nat → Int) : ((detN n A).natAbs : Int) ≤ bnd n A 1 n := by
  have key : ∀ k : Nat, 0 ≤ bnd n A 1 k ∧ 0 ≤ (List.range k).foldl (fun p i => p * sqs n (A i)) 1 ∧ (List.range k).foldl (fun p i => p * sqs n (A i)) 1 ≤ bnd n A 1 k * bnd n A 1 k := fun k => by
    induction k with
    | zero => exact ⟨(by decide : (0 : Int) ≤ 1), (by decide : (0 : Int) ≤ 1), (by decide : (1 : Int) ≤ 1 * 1)⟩
    | succ k ih =>
      obtain ⟨h1, h2, h3⟩ := ih
      rw [bnd_succ, foldl_succ]
      have q0 := sqs_nn n (A k)
      have b0 : 0 ≤ bndF n A 1 k := by unfold bndF; omega
      have qb : sqs n (A k) ≤ bndF n A 1 k * bndF n A 1 k := by
        have := (isq_spec (sqs n (A k)).toNat).2
        unfold bndF
        have e : (((isq (sqs n (A k)).toNat + 1) * (isq (sqs n (A k)).toNat + 1) : Nat) : Int) = ((isq (sqs n (A k)).toNat : Int) + 1) * ((isq (sqs n (A k)).toNat : Int) + 1) := by push_cast; rfl
        omega
      refine ⟨Int.mul_nonneg h1 b0, Int.mul_nonneg h2 q0, ?_⟩
      refine Int.le_trans (Int.mul_le_mul h3 qb q0 (pos_sq _)) (Int.le_of_eq (by grind))
  obtain ⟨h1, _, h3⟩ := key n
  have h4 := had n hn A
  refine sq_le2 h1 ?_
  have e : ((detN n A).natAbs : Int) * ((detN n A).natAbs : Int) = detN n A * detN n A := Int.natAbs_mul_self
  omega
end My
namespace My
open PySem PySem.Spec PyProof.Rows L2 DL Lean.Grind
/-! ## the least primes above 32768 -/
def prB (n : Nat) : Bool := (List.range 182).all fun d => decide (d < 2) || decide (n < d * d) || decide (n % d ≠ 0)
theorem prB_iff {n : Nat} (h2 : 2 ≤ n) (h : n < 33124) : prB n = true ↔ Prime ((n : Nat) : Int) := by
  unfold prB
  rw [List.all_eq_true]
  constructor
  · intro k
    refine ⟨by omega, fun d d2 dd hd => ?_⟩
    obtain ⟨e, rfl⟩ := Int.eq_ofNat_of_zero_le (show 0 ≤ d by omega)
    have he : e < 182 := by
      refine Classical.byContradiction fun z => ?_
      have := Nat.mul_le_mul (show 182 ≤ e by omega) (show 182 ≤ e by omega)
      have : ((e * e : Nat) : Int) ≤ (n : Nat) := by rw [Int.natCast_mul]; exact dd
      omega
    have := k e (List.mem_range.mpr he)
    have dd2 : e * e ≤ n := by
      have : ((e * e : Nat) : Int) ≤ (n : Nat) := by rw [Int.natCast_mul]; exact dd
      omega
    have hm : n % e = 0 := Nat.mod_eq_zero_of_dvd (Int.natCast_dvd_natCast.mp hd)
    simp only [Bool.or_eq_true, decide_eq_true_eq] at this
    rcases this with (z | z) | z
    · omega
    · omega
    · exact z hm
  · intro k d hd
    simp only [Bool.or_eq_true, decide_eq_true_eq]
    by_cases c : d < 2
    · exact .inl (.inl c)
    · by_cases c2 : n < d * d
      · exact .inl (.inr c2)
      · refine .inr fun z => k.2 (d : Int) (by omega) ?_ (Int.natCast_dvd_natCast.mpr (Nat.dvd_of_mod_eq_zero z))
        rw [← Int.natCast_mul]
        omega
/-- the candidates -/
def cE (t : Nat) : Nat := 32769 + 2 * t
def fE (t : Nat) : List Nat := ((List.range t).map cE).filter prB
def pE (t : Nat) : Nat := (fE t).foldl (· * ·) 1
theorem fE_succ (t : Nat) : fE (t + 1) = fE t ++ if prB (cE t) then [cE t] else [] := by
  unfold fE
  rw [List.range_succ, List.map_append, List.filter_append]
  congr 1
  show ([cE t].filter prB) = _
  rw [List.filter_cons]
  cases prB (cE t) <;> rfl
theorem pE_succ (t : Nat) : pE (t + 1) = if prB (cE t) then pE t * cE t else pE t := by
  unfold pE
  rw [fE_succ]
  cases prB (cE t) with
  | true => rw [if_pos rfl, if_pos rfl, List.foldl_append]; rfl
  | false => rw [if_neg (by decide), if_neg (by decide), List.append_nil]
theorem pE_pos (t : Nat) : 1 ≤ pE t := by
  induction t with
  | zero => decide
  | succ t ih =>
    rw [pE_succ]
    split
    · exact Nat.mul_pos ih (by unfold cE; omega)
    · exact ih
theorem pE_mono (t : Nat) : ∀ s, pE t ≤ pE (t + s)
  | 0 => Nat.le_refl _
  | s + 1 => by
    refine Nat.le_trans (pE_mono t s) ?_
    rw [show t + (s + 1) = (t + s) + 1 by omega, pE_succ]
    split
    · exact Nat.le_mul_of_pos_right _ (by unfold cE; omega)
    · exact Nat.le_refl _
theorem pE_36 : 10 ^ 40 < pE 36 := by decide +kernel
theorem fE_len (t : Nat) : (fE t).length ≤ t := by
  have := List.length_filter_le prB ((List.range t).map cE)
  rwa [List.length_map, List.length_range] at this
/-- the first t candidates have a product above m, but no fewer -/
def Least (m : Int) (t : Nat) : Prop := m < (pE t : Nat) ∧ ∀ s, s < t → ((pE s : Nat) : Int) ≤ m
theorem Least.uniq {m : Int} {s t : Nat} (h : Least m s) (k : Least m t) : s = t := by
  rcases Nat.lt_trichotomy s t with c | c | c
  · have := k.2 s c
    have := h.1
    omega
  · exact c
  · have := h.2 t c
    have := k.1
    omega
theorem Least.lt {m : Int} (hm : m ≤ 10 ^ 40) {t : Nat} (h : ((pE t : Nat) : Int) ≤ m) : t < 36 := by
  refine Classical.byContradiction fun z => ?_
  have h1 := pE_mono 36 (t - 36)
  rw [show 36 + (t - 36) = t by omega] at h1
  have h2 := pE_36
  omega
/-- the next prime candidate -/
theorem next_cand {t : Nat} (h : pE t < pE 36) (ht : t ≤ 36) : ∃ s, t ≤ s ∧ s < 36 ∧ prB (cE s) = true ∧ ∀ i, t ≤ i → i < s → prB (cE i) = false := by
  have key : ∀ k, t + k ≤ 36 → (∃ s, t ≤ s ∧ s < t + k ∧ prB (cE s) = true ∧ ∀ i, t ≤ i → i < s → prB (cE i) = false) ∨ ((∀ i, t ≤ i → i < t + k → prB (cE i) = false) ∧ pE (t + k) = pE t) := fun k => by
    induction k with
    | zero => exact fun _ => .inr ⟨fun i h1 h2 => by omega, rfl⟩
    | succ k ih =>
      intro hk
      rcases ih (by omega) with ⟨s, a, b, c, d⟩ | ⟨a, b⟩
      · exact .inl ⟨s, a, by omega, c, d⟩
      · cases c : prB (cE (t + k)) with
        | true => exact .inl ⟨t + k, by omega, by omega, c, a⟩
        | false =>
          refine .inr ⟨fun i h1 h2 => ?_, ?_⟩
          · by_cases e : i = t + k
            · rw [e]; exact c
            · exact a i h1 (by omega)
          · rw [show t + (k + 1) = (t + k) + 1 by omega, pE_succ, if_neg (by rw [c]; decide)]
            exact b
  rcases key (36 - t) (by omega) with ⟨s, a, b, c, d⟩ | ⟨_, b⟩
  · exact ⟨s, a, by omega, c, d⟩
  · rw [show t + (36 - t) = 36 by omega] at b
    omega
end My
namespace My
open PySem PySem.Spec PyProof.Rows L2 DL Lean.Grind
set_option exponentiation.threshold 20000
/-- a matrix of integers that a bound is asked for -/
def BdOk (n : Nat) (A : Nat → Nat → Int) : Prop := n ≤ 8 ∧ ∀ i j, (A i j).natAbs < 2 ^ 200
def irw (n : Nat) (r : Nat → Int) : List Int := (List.range n).map r
/-- a matrix of integers as data -/
def ZR (n : Nat) (A : Nat → Nat → Int) : List D := (List.range n).map fun i => PyData.tuple ((irw n (A i)).map .int)
theorem ZR_len {n : Nat} {A : Nat → Nat → Int} : (ZR n A).length = n := by simp [ZR]
theorem ZR_get {n : Nat} {A : Nat → Nat → Int} {i : Nat} (h : i < n) : (ZR n A)[i]? = some (.tuple ((irw n (A i)).map .int)) := by simp [ZR, h]
theorem ZR_at {n : Nat} {A : Nat → Nat → Int} {i : Nat} {x : D} (h : (ZR n A)[i]? = some x) : i < n ∧ x = .tuple ((irw n (A i)).map .int) := by
  have hi : i < n := by have := (List.getElem?_eq_some_iff.mp h).1; rwa [ZR_len] at this
  rw [ZR_get hi] at h
  exact ⟨hi, (Option.some.inj h).symm⟩
theorem ZR_mt {n : Nat} {A : Nat → Nat → Int} : MtD .Z n n A = .tuple [.int n, .int n, .tuple (ZR n A)] := by
  unfold MtD Mt rowsD ZR rowD irw
  rw [List.map_map]
  simp only [List.map_map]
  rfl
theorem irw_sq {n : Nat} {r : Nat → Int} : ((irw n r).map fun x => x * x).sum = sqs n r := by
  unfold irw sqs
  rw [List.map_map]; rfl
theorem irw_mem {n : Nat} {r : Nat → Int} {x : Int} (h : x ∈ irw n r) : ∃ j, x = r j := by
  obtain ⟨j, _, rfl⟩ := List.mem_map.mp h
  exact ⟨j, rfl⟩
theorem sqs_lt {n : Nat} {r : Nat → Int} (hn : n ≤ 8) (h : ∀ j, (r j).natAbs < 2 ^ 200) : (sqs n r).natAbs < 2 ^ 410 := by
  have key : ∀ k : Nat, (sqs k r).natAbs ≤ k * 2 ^ 400 := fun k => by
    induction k with
    | zero => exact Nat.zero_le _
    | succ k ih =>
      have e : sqs (k + 1) r = sqs k r + r k * r k := by
        unfold sqs
        rw [List.range_succ, List.map_append, List.sum_append]
        simp
      have h1 : (r k * r k).natAbs ≤ 2 ^ 400 := by
        rw [Int.natAbs_mul]
        have := Nat.mul_le_mul (Nat.le_of_lt (h k)) (Nat.le_of_lt (h k))
        rwa [← Nat.pow_add] at this
      rw [e, Nat.succ_mul]
      exact Nat.le_trans (Int.natAbs_add_le _ _) (Nat.add_le_add ih h1)
  have := key n
  have e : (2 : Nat) ^ 410 = 1024 * 2 ^ 400 := by rw [show 410 = 10 + 400 by decide, Nat.pow_add]
  have p : 0 < (2 : Nat) ^ 400 := Nat.pow_pos (by decide)
  have := Nat.mul_le_mul_right (2 ^ 400) hn
  omega
theorem bndF_lt {n : Nat} {A : Nat → Nat → Int} (h : BdOk n A) {more : Int} (h0 : 0 ≤ more) (h2 : more ≤ 2) (i : Nat) : 0 ≤ bndF n A more i ∧ (bndF n A more i).natAbs < 2 ^ 411 := by
  have h1 := sqs_lt h.1 (h.2 i)
  have h3 := (isq_spec (sqs n (A i)).toNat).1
  have h4 : isq (sqs n (A i)).toNat ≤ (sqs n (A i)).toNat := by
    refine Nat.le_trans ?_ h3
    exact Nat.le_mul_self _
  have e : (2 : Nat) ^ 411 = 2 * 2 ^ 410 := by rw [show 411 = 1 + 410 by decide, Nat.pow_add]
  have p : 4 ≤ (2 : Nat) ^ 410 := Nat.le_trans (show 4 ≤ 2 ^ 2 by decide) (Nat.pow_le_pow_right (by decide) (by decide))
  unfold bndF
  omega
theorem bnd_lt {n : Nat} {A : Nat → Nat → Int} (h : BdOk n A) {more : Int} (h0 : 0 ≤ more) (h2 : more ≤ 2) : ∀ k : Nat, (bnd n A more k).natAbs ≤ 2 ^ (411 * k)
  | 0 => by
    show (1 : Int).natAbs ≤ 2 ^ (411 * 0)
    decide
  | k + 1 => by
    rw [bnd_succ, Int.natAbs_mul, Nat.mul_succ, Nat.pow_add]
    exact Nat.mul_le_mul (bnd_lt h h0 h2 k) (Nat.le_of_lt (bndF_lt h h0 h2 k).2)
theorem bnd_congr {n : Nat} {A B : Nat → Nat → Int} {more : Int} (h : ∀ i, i < n → ∀ j, j < n → A i j = B i j) : bnd n A more n = bnd n B more n := by
  have key : ∀ k, k ≤ n → bnd n A more k = bnd n B more k := fun k => by
    induction k with
    | zero => exact fun _ => rfl
    | succ k ih =>
      intro hk
      rw [bnd_succ, bnd_succ, ih (by omega)]
      unfold bndF sqs
      rw [List.map_congr_left fun j hj => by rw [h k (by omega) j (List.mem_range.mp hj)]]
  exact key n (Nat.le_refl n)
theorem tupsZ_inj {n m : Nat} {A B : Nat → Nat → Int} (h : (PyData.tuple (ZR n A)) = .tuple (ZR m B)) : n = m ∧ ∀ i, i < n → ∀ j, j < n → A i j = B i j := by
  have hl : n = m := by
    have := congrArg (fun d => match d with | PyData.tuple l => l.length | _ => 0) h
    simpa [ZR_len] using this
  subst hl
  have : MtD .Z n n A = MtD .Z n n B := by rw [ZR_mt, ZR_mt, h]
  exact ⟨rfl, (MtD_inj this).2.2⟩
theorem ordF_len (k : Nat) : ∀ (L : List (List Nat)) (x : List (List Nat)), (L.foldl (fun l one => l ++ (List.range (k + 1)).map (insAt k one)) x).length = x.length + L.length * (k + 1)
  | [], x => by simp
  | o :: L, x => by
    rw [List.foldl_cons, ordF_len k L, List.length_append, List.length_map, List.length_range, List.length_cons, Nat.succ_mul]
    omega
end My
namespace My
open PySem PySem.Spec PyProof.Rows L2 DL Lean.Grind
theorem dIxL {l : List D} {i : Int} {k : Nat} {P : D → Prop} {x : D} (e : i = (k : Nat)) (h : l[k]? = some x) (p : P x) : dIx (.list l) (.int i) P := by
  subst e
  have hi := (List.getElem?_eq_some_iff.mp h).1
  refine ⟨x, ?_, p⟩
  unfold atI
  rw [ixN_nat (by omega) (by omega)]
  exact h
theorem dIxT {l : List D} {i : Int} {k : Nat} {P : D → Prop} {x : D} (e : i = (k : Nat)) (h : l[k]? = some x) (p : P x) : dIx (.tuple l) (.int i) P := by
  subst e
  exact dIx_tup (by omega) (by rw [Int.toNat_natCast]; exact h) p
theorem lN_get {o : List Nat} {i : Nat} (hi : i < o.length) : (o.map fun i => PyData.int (i : Nat))[i]? = some (.int (o.getD i 0 : Nat)) := by
  rw [List.getElem?_map, List.getElem?_eq_getElem hi, List.getD_eq_getElem?_getD, List.getElem?_eq_getElem hi]; rfl
theorem irw_get {n : Nat} {r : Nat → Int} {j : Nat} (hj : j < n) : ((irw n r).map PyData.int)[j]? = some (.int (r j)) := by simp [irw, hj]
end My
namespace My
theorem skip_no {t s : Nat} (hno : ∀ i, t ≤ i → i < s → prB (cE i) = false) : ∀ k, t + k ≤ s → fE (t + k) = fE t ∧ pE (t + k) = pE t := fun k => by
  induction k with
  | zero => exact fun _ => ⟨rfl, rfl⟩
  | succ k ih =>
    intro hk
    obtain ⟨h1, h2⟩ := ih (by omega)
    have h3 := hno (t + k) (by omega) (by omega)
    rw [show t + (k + 1) = (t + k) + 1 by omega, fE_succ, pE_succ, h3, if_neg (by decide), if_neg (by decide), List.append_nil]
    exact ⟨h1, h2⟩
end My

namespace My
open PySem PySem.Spec PyProof.Rows L2 DL Lean.Grind

def topS (i : Nat) : Stmt := PySem.Challenge.pw_echelon_k50_bounds_and_primes.main.body.getD i (.Pass ⟨0, 0, 0, 0⟩)
abbrev s0 : Stmt := topS 2
theorem sc0 : FnScope ["n", "k"] ["n"] (defScope s0) := ⟨rfl, rfl, rfl, by decide +kernel, rfl, by decide +kernel, by decide +kernel⟩
abbrev s1 : Stmt := topS 3
theorem sc1 : FnScope ["n", "candidate"] ["n"] (defScope s1) := ⟨rfl, rfl, rfl, by decide +kernel, rfl, by decide +kernel, by decide +kernel⟩
abbrev s2 : Stmt := topS 4
theorem sc2 : FnScope ["n"] ["n"] (defScope s2) := ⟨rfl, rfl, rfl, by decide +kernel, rfl, by decide +kernel, by decide +kernel⟩
abbrev s3 : Stmt := topS 9
theorem sc3 : FnScope ["a"] ["a"] (defScope s3) := ⟨rfl, rfl, rfl, by decide +kernel, rfl, by decide +kernel, by decide +kernel⟩
abbrev s4 : Stmt := topS 11
theorem sc4 : FnScope ["u", "v", "x", "y"] ["u", "v"] (defScope s4) := ⟨rfl, rfl, rfl, by decide +kernel, rfl, by decide +kernel, by decide +kernel⟩
abbrev s5 : Stmt := topS 14
theorem sc5 : FnScope ["rows", "more", "out", "row"] ["rows", "more"] (defScope s5) := ⟨rfl, rfl, rfl, by decide +kernel, rfl, by decide +kernel, by decide +kernel⟩
abbrev s6 : Stmt := topS 15
theorem sc6 : FnScope ["a"] ["a"] (defScope s6) := ⟨rfl, rfl, rfl, by decide +kernel, rfl, by decide +kernel, by decide +kernel⟩
abbrev s7 : Stmt := topS 16
theorem sc7 : FnScope ["a"] ["a"] (defScope s7) := ⟨rfl, rfl, rfl, by decide +kernel, rfl, by decide +kernel, by decide +kernel⟩
abbrev s8 : Stmt := topS 17
theorem sc8 : FnScope ["m", "out", "total", "last"] ["m"] (defScope s8) := ⟨rfl, rfl, rfl, by decide +kernel, rfl, by decide +kernel, by decide +kernel⟩
abbrev s9 : Stmt := topS 19
theorem sc9 : FnScope ["script", "cell"] ["script"] (defScope s9) := ⟨rfl, rfl, rfl, by decide +kernel, rfl, by decide +kernel, by decide +kernel⟩
abbrev s10 : Stmt := topS 20
theorem sc10 : FnScope ["c", "number"] ["c"] (defScope s10) := ⟨rfl, rfl, rfl, by decide +kernel, rfl, by decide +kernel, by decide +kernel⟩
abbrev s11 : Stmt := topS 21
theorem sc11 : FnScope ["c", "many", "digit"] ["c", "many"] (defScope s11) := ⟨rfl, rfl, rfl, by decide +kernel, rfl, by decide +kernel, by decide +kernel⟩
abbrev s12 : Stmt := topS 22
theorem sc12 : FnScope ["b", "k", "found", "j"] ["b", "k"] (defScope s12) := ⟨rfl, rfl, rfl, by decide +kernel, rfl, by decide +kernel, by decide +kernel⟩
abbrev s13 : Stmt := topS 23
theorem sc13 : FnScope ["a", "b", "rest"] ["a", "b"] (defScope s13) := ⟨rfl, rfl, rfl, by decide +kernel, rfl, by decide +kernel, by decide +kernel⟩
abbrev s14 : Stmt := topS 24
theorem sc14 : FnScope ["n", "m", "g"] ["n", "m"] (defScope s14) := ⟨rfl, rfl, rfl, by decide +kernel, rfl, by decide +kernel, by decide +kernel⟩
abbrev s15 : Stmt := topS 25
theorem sc15 : FnScope ["d"] ["d"] (defScope s15) := ⟨rfl, rfl, rfl, by decide +kernel, rfl, by decide +kernel, by decide +kernel⟩
abbrev s16 : Stmt := topS 26
theorem sc16 : FnScope ["f", "parts", "many"] ["f", "parts"] (defScope s16) := ⟨rfl, rfl, rfl, by decide +kernel, rfl, by decide +kernel, by decide +kernel⟩
abbrev s17 : Stmt := topS 27
theorem sc17 : FnScope ["d", "n"] ["d", "n"] (defScope s17) := ⟨rfl, rfl, rfl, by decide +kernel, rfl, by decide +kernel, by decide +kernel⟩
abbrev s18 : Stmt := topS 28
theorem sc18 : FnScope ["d", "x", "k"] ["d", "x", "k"] (defScope s18) := ⟨rfl, rfl, rfl, by decide +kernel, rfl, by decide +kernel, by decide +kernel⟩
abbrev s19 : Stmt := topS 29
theorem sc19 : FnScope ["d", "x", "y", "long", "k"] ["d", "x", "y"] (defScope s19) := ⟨rfl, rfl, rfl, by decide +kernel, rfl, by decide +kernel, by decide +kernel⟩
abbrev s20 : Stmt := topS 30
theorem sc20 : FnScope ["d", "x", "y", "parts", "i", "j"] ["d", "x", "y"] (defScope s20) := ⟨rfl, rfl, rfl, by decide +kernel, rfl, by decide +kernel, by decide +kernel⟩
abbrev s29 : Stmt := topS 39
theorem sc29 : FnScope ["c", "d", "k"] ["c", "d"] (defScope s29) := ⟨rfl, rfl, rfl, by decide +kernel, rfl, by decide +kernel, by decide +kernel⟩
abbrev s30 : Stmt := topS 40
theorem sc30 : FnScope ["c", "d", "m", "n", "i", "j"] ["c", "d", "m", "n"] (defScope s30) := ⟨rfl, rfl, rfl, by decide +kernel, rfl, by decide +kernel, by decide +kernel⟩
abbrev s31 : Stmt := topS 41
theorem sc31 : FnScope ["d", "u", "v", "total", "k"] ["d", "u", "v"] (defScope s31) := ⟨rfl, rfl, rfl, by decide +kernel, rfl, by decide +kernel, by decide +kernel⟩
abbrev s32 : Stmt := topS 42
theorem sc32 : FnScope ["a", "j", "row"] ["a", "j"] (defScope s32) := ⟨rfl, rfl, rfl, by decide +kernel, rfl, by decide +kernel, by decide +kernel⟩
abbrev s33 : Stmt := topS 43
theorem sc33 : FnScope ["d", "a", "b", "columns", "j", "row", "column"] ["d", "a", "b"] (defScope s33) := ⟨rfl, rfl, rfl, by decide +kernel, rfl, by decide +kernel, by decide +kernel⟩
abbrev s35 : Stmt := topS 45
theorem sc35 : FnScope ["c", "m", "n", "d", "k", "r"] ["c", "m", "n"] (defScope s35) := ⟨rfl, rfl, rfl, by decide +kernel, rfl, by decide +kernel, by decide +kernel⟩
abbrev s37 : Stmt := topS 47
theorem sc37 : FnScope ["n", "found", "k", "longer", "one", "i"] ["n"] (defScope s37) := ⟨rfl, rfl, rfl, by decide +kernel, rfl, by decide +kernel, by decide +kernel⟩
abbrev s38 : Stmt := topS 48
theorem sc38 : FnScope ["order", "sign", "i", "j"] ["order"] (defScope s38) := ⟨rfl, rfl, rfl, by decide +kernel, rfl, by decide +kernel, by decide +kernel⟩
abbrev s39 : Stmt := topS 49
theorem sc39 : FnScope ["d", "a", "total", "order", "term", "i"] ["d", "a"] (defScope s39) := ⟨rfl, rfl, rfl, by decide +kernel, rfl, by decide +kernel, by decide +kernel⟩
abbrev s40 : Stmt := topS 50
theorem sc40 : FnScope ["n", "low", "high", "middle"] ["n"] (defScope s40) := ⟨rfl, rfl, rfl, by decide +kernel, rfl, by decide +kernel, by decide +kernel⟩
abbrev s41 : Stmt := topS 51
theorem sc41 : FnScope ["rows", "more", "total", "row", "x"] ["rows", "more"] (defScope s41) := ⟨rfl, rfl, rfl, by decide +kernel, rfl, by decide +kernel, by decide +kernel⟩
abbrev s42 : Stmt := topS 52
theorem sc42 : FnScope ["n", "k"] ["n"] (defScope s42) := ⟨rfl, rfl, rfl, by decide +kernel, rfl, by decide +kernel, by decide +kernel⟩
abbrev s43 : Stmt := topS 53
theorem sc43 : FnScope ["m", "found", "product", "n"] ["m"] (defScope s43) := ⟨rfl, rfl, rfl, by decide +kernel, rfl, by decide +kernel, by decide +kernel⟩
abbrev s44 : Stmt := topS 54
theorem sc44 : FnScope ["script", "c", "n", "a", "bound", "m"] ["script"] (defScope s44) := ⟨rfl, rfl, rfl, by decide +kernel, rfl, by decide +kernel, by decide +kernel⟩
structure Txt (K : Fg) (mg : Str → Option Value) (fa : Nat → Addr) (fdd : Nat → FuncData) : Prop where
  F0 : Fun K "is_prime" "is_prime" s0 (fa 0) (fdd 0)
  g0 : mg "is_prime" = some (.ref (fa 0))
  b0 : Binds K (fdd 0) ["n"] []
  F1 : Fun K "next_prime" "next_prime" s1 (fa 1) (fdd 1)
  g1 : mg "next_prime" = some (.ref (fa 1))
  b1 : Binds K (fdd 1) ["n"] []
  F2 : Fun K "root" "root" s2 (fa 2) (fdd 2)
  g2 : mg "root" = some (.ref (fa 2))
  b2 : Binds K (fdd 2) ["n"] []
  F3 : Fun K "need_square" "need_square" s3 (fa 3) (fdd 3)
  g3 : mg "need_square" = some (.ref (fa 3))
  b3 : Binds K (fdd 3) ["a"] []
  F4 : Fun K "product_of_rows" "product_of_rows" s4 (fa 4) (fdd 4)
  g4 : mg "product_of_rows" = some (.ref (fa 4))
  b4 : Binds K (fdd 4) ["u", "v"] []
  F5 : Fun K "product_of_roots" "product_of_roots" s5 (fa 5) (fdd 5)
  g5 : mg "product_of_roots" = some (.ref (fa 5))
  b5 : Binds K (fdd 5) ["rows", "more"] []
  F6 : Fun K "determinant_bound" "determinant_bound" s6 (fa 6) (fdd 6)
  g6 : mg "determinant_bound" = some (.ref (fa 6))
  b6 : Binds K (fdd 6) ["a"] []
  F7 : Fun K "coefficient_bound" "coefficient_bound" s7 (fa 7) (fdd 7)
  g7 : mg "coefficient_bound" = some (.ref (fa 7))
  b7 : Binds K (fdd 7) ["a"] []
  F8 : Fun K "primes_for" "primes_for" s8 (fa 8) (fdd 8)
  g8 : mg "primes_for" = some (.ref (fa 8))
  b8 : Binds K (fdd 8) ["m"] []
  F9 : Fun K "_law_start" "_law_start" s9 (fa 9) (fdd 9)
  g9 : mg "_law_start" = some (.ref (fa 9))
  b9 : Binds K (fdd 9) ["script"] []
  F10 : Fun K "_law_fill" "_law_fill" s10 (fa 10) (fdd 10)
  g10 : mg "_law_fill" = some (.ref (fa 10))
  b10 : Binds K (fdd 10) ["c"] []
  F11 : Fun K "_law_take" "_law_take" s11 (fa 11) (fdd 11)
  g11 : mg "_law_take" = some (.ref (fa 11))
  b11 : Binds K (fdd 11) ["c", "many"] []
  F12 : Fun K "_law_raised" "_law_raised" s12 (fa 12) (fdd 12)
  g12 : mg "_law_raised" = some (.ref (fa 12))
  b12 : Binds K (fdd 12) ["b", "k"] []
  F13 : Fun K "_law_common" "_law_common" s13 (fa 13) (fdd 13)
  g13 : mg "_law_common" = some (.ref (fa 13))
  b13 : Binds K (fdd 13) ["a", "b"] []
  F14 : Fun K "_law_fraction" "_law_fraction" s14 (fa 14) (fdd 14)
  g14 : mg "_law_fraction" = some (.ref (fa 14))
  b14 : Binds K (fdd 14) ["n", "m"] []
  F15 : Fun K "_law_zero" "_law_zero" s15 (fa 15) (fdd 15)
  g15 : mg "_law_zero" = some (.ref (fa 15))
  b15 : Binds K (fdd 15) ["d"] []
  F16 : Fun K "_law_strip" "_law_strip" s16 (fa 16) (fdd 16)
  g16 : mg "_law_strip" = some (.ref (fa 16))
  b16 : Binds K (fdd 16) ["f", "parts"] []
  F17 : Fun K "_law_number" "_law_number" s17 (fa 17) (fdd 17)
  g17 : mg "_law_number" = some (.ref (fa 17))
  b17 : Binds K (fdd 17) ["d", "n"] []
  F18 : Fun K "_law_part" "_law_part" s18 (fa 18) (fdd 18)
  g18 : mg "_law_part" = some (.ref (fa 18))
  b18 : Binds K (fdd 18) ["d", "x", "k"] []
  F19 : Fun K "_law_add" "_law_add" s19 (fa 19) (fdd 19)
  g19 : mg "_law_add" = some (.ref (fa 19))
  b19 : Binds K (fdd 19) ["d", "x", "y"] []
  F20 : Fun K "_law_multiply" "_law_multiply" s20 (fa 20) (fdd 20)
  g20 : mg "_law_multiply" = some (.ref (fa 20))
  b20 : Binds K (fdd 20) ["d", "x", "y"] []
  F29 : Fun K "_law_small" "_law_small" s29 (fa 29) (fdd 29)
  g29 : mg "_law_small" = some (.ref (fa 29))
  b29 : Binds K (fdd 29) ["c", "d"] []
  F30 : Fun K "_law_matrix" "_law_matrix" s30 (fa 30) (fdd 30)
  g30 : mg "_law_matrix" = some (.ref (fa 30))
  b30 : Binds K (fdd 30) ["c", "d", "m", "n"] []
  F31 : Fun K "_law_dot" "_law_dot" s31 (fa 31) (fdd 31)
  g31 : mg "_law_dot" = some (.ref (fa 31))
  b31 : Binds K (fdd 31) ["d", "u", "v"] []
  F32 : Fun K "_law_column" "_law_column" s32 (fa 32) (fdd 32)
  g32 : mg "_law_column" = some (.ref (fa 32))
  b32 : Binds K (fdd 32) ["a", "j"] []
  F33 : Fun K "_law_product" "_law_product" s33 (fa 33) (fdd 33)
  g33 : mg "_law_product" = some (.ref (fa 33))
  b33 : Binds K (fdd 33) ["d", "a", "b"] []
  F35 : Fun K "_law_low" "_law_low" s35 (fa 35) (fdd 35)
  g35 : mg "_law_low" = some (.ref (fa 35))
  b35 : Binds K (fdd 35) ["c", "m", "n"] []
  F37 : Fun K "_law_orders" "_law_orders" s37 (fa 37) (fdd 37)
  g37 : mg "_law_orders" = some (.ref (fa 37))
  b37 : Binds K (fdd 37) ["n"] []
  F38 : Fun K "_law_sign" "_law_sign" s38 (fa 38) (fdd 38)
  g38 : mg "_law_sign" = some (.ref (fa 38))
  b38 : Binds K (fdd 38) ["order"] []
  F39 : Fun K "_law_determinant" "_law_determinant" s39 (fa 39) (fdd 39)
  g39 : mg "_law_determinant" = some (.ref (fa 39))
  b39 : Binds K (fdd 39) ["d", "a"] []
  F40 : Fun K "_law_root" "_law_root" s40 (fa 40) (fdd 40)
  g40 : mg "_law_root" = some (.ref (fa 40))
  b40 : Binds K (fdd 40) ["n"] []
  F41 : Fun K "_law_bound" "_law_bound" s41 (fa 41) (fdd 41)
  g41 : mg "_law_bound" = some (.ref (fa 41))
  b41 : Binds K (fdd 41) ["rows", "more"] []
  F42 : Fun K "_law_is_prime" "_law_is_prime" s42 (fa 42) (fdd 42)
  g42 : mg "_law_is_prime" = some (.ref (fa 42))
  b42 : Binds K (fdd 42) ["n"] []
  F43 : Fun K "_law_primes" "_law_primes" s43 (fa 43) (fdd 43)
  g43 : mg "_law_primes" = some (.ref (fa 43))
  b43 : Binds K (fdd 43) ["m"] []
  F44 : Fun K "law" "law" s44 (fa 44) (fdd 44)
  g44 : mg "law" = some (.ref (fa 44))
  b44 : Binds K (fdd 44) ["script"] []
  m_abs : mg "abs" = none
  m_int : mg "int" = none
  m_isqrt : mg "isqrt" = some (.builtin "math.isqrt")
  m_len : mg "len" = none
  m_max : mg "max" = none
  m_min : mg "min" = none
  m_range : mg "range" = none
  m_sum : mg "sum" = none
  m_tuple : mg "tuple" = none
  m_zip : mg "zip" = none
  c_FIRST : ∃ t, mg "FIRST" = some (.int 32768 t)
local macro_rules | `(tactic| walk_at "dl") => `(tactic| try simp only [wParOO, wExch, wLR1, wTupO, wCont, wIxE, wFListO, wIxO, wCmpO, bIntB, dMulT, bSum, wCompZT, wCallF, wFOr, wNoR, wRetF, wRetO, wRevT, wgLst, wiUn, wComp2, wCompZ, wiRev, putP, unP, dMulI, wFB, wiEnum, wPop, wBits, dShr, dAnd, wiR3n, dEq_ss, dNe_ss, s_QQ, s_FF, s_PP, s_ZZ, s_QF, s_QP, s_QZ, s_FQ, s_FP, s_FZ, s_PQ, s_PF, s_PZ, s_ZQ, s_ZF, s_ZP, wNoPart, wPart, wSlT, wSlL, bTuple, pAdd, pSub, wFBin, wFree, wBreak, wRetN, wSeq, wIfS, wApp, wSetIx, wKeep, wFLst, wFBP, fList, pName, pureD, pC, pNil, pCons, wCallP, wBinP, wTruP, wBP, noList, noListA, wAnd, wOr, wNotT, wTest, wTruT, truD, wBin, wUn, wName, wC, env0, List.map, look, dEq_ii, dNe_ii, dEq_t2, dNe_t2, dEq_bb, dNe_bb, wiR3, List.replicate, List.length, List.append, List.cons_append, List.nil_append, Nat.sub_self, wPar, wCons, wNil, wB, bAbs, bInt, bMax, bMin, bGcd, bIsqrt, bLcm, bLen, wTup, wLst, put, wRet, wNext, wAsg, wgName, wgTup, wgCons, wgNil, dIx_t0, dIx_t1, dIx_t2, dIx_l0, dIx_l1, dIx_l2, dAdd, dSub, dMul, dDiv, dMod, dNeg, dPow, dLt, dLe, dGt, dGe, wCall, wIf, wDrop, wAug, dAddI, wAndV, wOrV, wNotV, wIsi, isi_ii, isi_ib, isi_in, isi_is, isi_il, isi_it, isi_bi, isi_bb, isi_bn, isi_bs, isi_bl, isi_bt, isi_ti, isi_tb, isi_tn, isi_ts, isi_tl, isi_tt, wFor, wiR1, wiR2, wiTup, wiLst, wFree, wComp, wYes, wChain, dIsN, dIsNN, Bool.not_true, Bool.not_false, Bool.not_eq_true', decide_eq_true_eq, decide_eq_false_iff_not, Bool.false_eq_true, if_false, if_true, bne_iff_ne, ne_eq, reduceCtorEq, Nat.reduceAdd, Nat.reduceLeDiff, Nat.reduceSub, true_and, and_true])

/-! ### the law's own draws -/
def pre_law_fill : List D → Prop := fun ds => ds = [.dict []]
def post_law_fill : List D → D → Prop := fun ds d => ∃ n : Int, d = .int n
def pre_law_take : List D → Prop := fun ds => ∃ m : Int, ds = [.dict [], .int m] ∧ 0 < m ∧ m.natAbs.log2 < 9000
def post_law_take : List D → D → Prop := fun ds d => ∃ m r : Int, ds = [.dict [], .int m] ∧ d = .int r ∧ 0 ≤ r ∧ r < m
theorem sql_upd {K : Fg} {H : Hp} {p b : Addr} {o : HO} {xs : List V} (h : SqL K H p xs) (n : p ≠ b) : SqL K (upd H b o) p xs := by
  rcases h with (h | ⟨u, h⟩) | h
  · exact .inl (.inl (by rw [upd_ne n]; exact h))
  · exact .inl (.inr ⟨u, by rw [upd_ne n]; exact h⟩)
  · exact .inr h
theorem ok_law_fill {P : Program} {w : World} {K : Fg} {mg : Str → Option Value} {base : Heap} {fa : Nat → Addr} {fdd : Nat → FuncData} (T : Txt K mg fa fdd) : FnOk P w K mg base CX0 1 (fa 10) (fdd 10) ["c"] (SpD K pre_law_fill post_law_fill) := by
  refine T.F10.ok sc10 (fun vs H Q E h => ?_) (fun cdv A outer s H vs Q E hr h => ?_)
  · obtain ⟨lc, hc, hd, ds, g, _, _, _, rfl, _⟩ := h
    rw [g.length]; rfl
  · obtain ⟨lc, hc, hd, ds, g, cok, sub, al, rfl, q⟩ := h
    obtain ⟨x, rfl, gx⟩ := da1 g
    cases gx with
    | @tok b hl =>
      subst hl
      obtain ⟨⟨p, ns, pos, dig, cnt, hb, hS, npb, h0, h63, hcp⟩, hcb⟩ := cok b rfl
      refine ⟨_, pss_cons (ps_asg (pe_op op_add (pe_ix ix_list (pv 0) pe_int (fun _ _ => rfl)) pe_int) (pg_sub (pv 0) pe_int set_list))
        (pss_cons (ps_set (i := 1) sc10.nd rfl (.inl rfl) (pe_op op_add (pe_op op_mul (pe_ix ix_list (pv 0) pe_int (fun _ _ => rfl)) pe_int) pe_int))
        (pss_cons (ps_if (pt_cmpR op_lt (pe_ix ix_list (pv 0) pe_int (fun _ _ => rfl)) (pe_callB call_len_seq (by rfl) T.m_len PySem.boot_len (pa_cons (pe_ix ix_list (pv 0) pe_int (fun _ _ => rfl)) pa_nil)) (nomark _))
            (pss_cons (ps_set (i := 1) sc10.nd rfl (.inl rfl) (pe_ix ix_list (pe_ix ix_list (pv 0) pe_int (fun _ _ => rfl)) (pe_ix ix_list (pv 0) pe_int (fun _ _ => rfl)) (fun _ _ => rfl)))
            (pss_cons (ps_asg (pe_op op_add (pe_ix ix_list (pv 0) pe_int (fun _ _ => rfl)) pe_int) (pg_sub (pv 0) pe_int set_list))
            (pss_cons (ps_if (pt_cmpR op_lt (pv 1) pe_int (nomark _)) (pss_one (ps_set (i := 1) sc10.nd rfl (.inl rfl) (pe_op op_sub (pe_op op_sub pe_int pe_int) (pv 1)))) pss_nil)
            (pss_one (ps_if (pt_cmpR op_ge (pv 1) (pe_op op_pow pe_int pe_int) (nomark _)) (pss_one (ps_ret (pv 1))) pss_nil))))) pss_nil)
        (pss_cons (ps_if (PW.pt (pw_and (pt_truth (pe_ix ix_list (pv 0) pe_int (fun _ _ => rfl)) (by intro _; rfl)) (pw_and1 (pt_cmpR op_ge (pe_ix ix_list (pv 0) pe_int (fun _ _ => rfl)) (pe_callB call_len_seq (by rfl) T.m_len PySem.boot_len (pa_cons (pe_ix ix_list (pv 0) pe_int (fun _ _ => rfl)) pa_nil)) (nomark _)))))
            (pss_one (ps_set (i := 1) sc10.nd rfl (.inl rfl) (pe_op op_add (pv 1) (pe_op op_modN (pe_callTy call_int1 (by rfl) T.m_int (by decide +kernel) (pa_cons (pe_ix ix_list (pe_ix ix_list (pv 0) pe_int (fun _ _ => rfl)) (pe_un un_neg pe_int) (fun _ _ => rfl)) pa_nil)) pe_int)))) pss_nil)
        (pss_cons (ps_set (i := 1) sc10.nd rfl (.inl rfl) (pe_op op_modN (pe_callTy call_int1 (by rfl) T.m_int (by decide +kernel) (pa_cons (pe_op op_add (pe_op op_mul (pv 1) pe_int) (pe_op op_mul (pe_ix ix_list (pv 0) pe_int (fun _ _ => rfl)) pe_int)) pa_nil)) pe_int))
        (pss_one (ps_ret (pe_op op_add (pe_op op_modN (pe_callTy call_int1 (by rfl) T.m_int (by decide +kernel) (pa_cons (pe_op op_add (pe_op op_add (pe_op op_mul (pv 1) (pv 1)) (pe_op op_mul (pe_ix ix_list (pv 0) pe_int (fun _ _ => rfl)) pe_int)) pe_int) pa_nil)) pe_int) pe_int))))))), ?_⟩
      -- c[3] = c[3] + 1
      refine ⟨.ref b, rfl, b, _, 3, .int cnt, rfl, rfl, .of hb, atI_nat (j := 3) rfl, cnt, 1, rfl, rfl, .ref b, rfl, b, _, 3, 3, rfl, rfl, hb, rfl, ?_⟩
      -- number
      refine ⟨.ref b, rfl, b, _, 3, .int (cnt + 1), rfl, rfl, .of upd_same, atI_nat (j := 3) rfl, cnt + 1, 69621, rfl, rfl, .inr (by decide), (cnt + 1) * 69621, 12345, rfl, rfl, ?_⟩
      have fin : ∀ (n : Int) (H2 : Hp) (pos2 : Int), H2 b = some (.lst [.ref p, .int pos2, .int dig, .int (cnt + 1)]) → 0 ≤ pos2 → (∀ x, x ≠ b → H2 x = H x) → Q (.int n) H2 := fun n H2 pos2 e1 e2 e3 => by
        refine q (.int n) (.int n) H2 (fun c o hcb' ho => by rw [e3 c (fun z => hcb' (by rw [z]))]; exact ho) (fun c hc' => ?_) (.int n) ⟨n, rfl⟩
        cases hc'
        refine ⟨⟨p, ns, pos2, dig, cnt + 1, e1, ?_, npb, e2, h63, hcp⟩, hcb⟩
        rcases hS with (h | ⟨u, h⟩) | h
        · exact .inl (.inl (by rw [e3 p npb]; exact h))
        · exact .inl (.inr ⟨u, by rw [e3 p npb]; exact h⟩)
        · exact .inr h
      have sql : ∀ (H2 : Hp), (∀ x, x ≠ b → H2 x = H x) → SqL K H2 p (ns.map V.int) := fun H2 e3 => by
        rcases hS with (h | ⟨u, h⟩) | h
        · exact .inl (.inl (by rw [e3 p npb]; exact h))
        · exact .inl (.inr ⟨u, by rw [e3 p npb]; exact h⟩)
        · exact .inr h
      generalize hH1 : upd H b (.lst ((([V.ref p, V.int pos, V.int dig, V.int cnt]).set 3 (.int (cnt + 1))))) = H1
      have e1 : H1 b = some (.lst [.ref p, .int pos, .int dig, .int (cnt + 1)]) := by rw [← hH1]; exact upd_same
      have e3 : ∀ x, x ≠ b → H1 x = H x := fun x hx => by rw [← hH1]; exact upd_ne hx
      -- if c[1] < len(c[0])
      refine ⟨.ref b, rfl, b, _, 1, .int pos, rfl, rfl, .of e1, atI_nat (j := 1) rfl, .ref b, rfl, b, _, 0, .ref p, rfl, rfl, .of e1, atI_nat (j := 0) rfl, p, ns.map V.int, rfl, .inl (sql H1 e3), pos, ((ns.map V.int).length : Int), rfl, rfl, _, rfl, ite2 (fun c1 => ?_) (fun c1 => ?_)⟩
      · -- number = c[0][c[1]]
        have c1' : pos < ((ns.map V.int).length : Int) := of_decide_eq_true c1
        have hlt : pos.toNat < ns.length := by rw [List.length_map] at c1'; omega
        have at1 : atI (ns.map V.int) pos = some (.int ns[pos.toNat]) := by
          have := atI_nat (xs := ns.map V.int) (j := pos.toNat) (v := .int ns[pos.toNat]) (by rw [List.getElem?_map, List.getElem?_eq_getElem hlt]; rfl)
          rwa [Int.toNat_of_nonneg h0] at this
        refine ⟨.ref b, rfl, b, _, 0, .ref p, rfl, rfl, .of e1, atI_nat (j := 0) rfl, .ref b, rfl, b, _, 1, .int pos, rfl, rfl, .of e1, atI_nat (j := 1) rfl, p, ns.map V.int, pos, .int ns[pos.toNat], rfl, rfl, sql H1 e3, at1, ?_⟩
        -- c[1] = c[1] + 1
        refine ⟨.ref b, rfl, b, _, 1, .int pos, rfl, rfl, .of e1, atI_nat (j := 1) rfl, pos, 1, rfl, rfl, .ref b, rfl, b, _, 1, 1, rfl, rfl, e1, rfl, ?_⟩
        generalize hHk : upd H1 b (.lst ((([V.ref p, V.int pos, V.int dig, V.int (cnt + 1)]).set 1 (.int (pos + 1))))) = Hk
        have k1 : Hk b = some (.lst [.ref p, .int (pos + 1), .int dig, .int (cnt + 1)]) := by rw [← hHk]; exact upd_same
        have k3 : ∀ x, x ≠ b → Hk x = H x := fun x hx => by rw [← hHk, upd_ne hx]; exact e3 x hx
        have kp : 0 ≤ pos + 1 := by omega
        generalize ns[pos.toNat] = num
        generalize pos + 1 = pk at k1 kp
        refine ⟨.int num, rfl, num, 0, rfl, rfl, _, rfl, ite2 (fun c2 => ?_) (fun c2 => ?_)⟩
        · refine ⟨0, 1, rfl, rfl, .int num, rfl, _, num, rfl, rfl, ?_⟩
          refine ⟨.int (0 - 1 - num), rfl, 10, 18, rfl, rfl, ⟨by decide, by decide, by decide⟩, 0 - 1 - num, _, rfl, rfl, _, rfl, ite2 (fun c3 => ?_) (fun c3 => ?_)⟩
          · exact ⟨.int (0 - 1 - num), rfl, fin (0 - 1 - num) Hk pk k1 kp k3⟩
          · refine ⟨.ref b, rfl, b, _, 0, .ref p, rfl, rfl, .of k1, atI_nat (j := 0) rfl, !(ns.map V.int).isEmpty, .inl ⟨ns.map V.int, sql Hk k3, rfl⟩, ?_⟩
            have T2 : ∀ NN : Int, Q (.int ((((NN * 48271 + (cnt + 1) * 69621).fmod 2147483647) * ((NN * 48271 + (cnt + 1) * 69621).fmod 2147483647) + (cnt + 1) * 7919 + 11).fmod 2305843009213693951 + 2305843009213693951)) Hk := fun NN => fin _ Hk pk k1 kp k3
            have B2 : ∀ NN : Int, -(2 ^ 64) < ((NN * 48271 + (cnt + 1) * 69621).fmod 2147483647) ∧ ((NN * 48271 + (cnt + 1) * 69621).fmod 2147483647) < 2 ^ 64 := fun NN => by
              have f0 := Int.fmod_nonneg_of_pos (NN * 48271 + (cnt + 1) * 69621) (show (0 : Int) < 2147483647 by decide)
              have f1 := Int.fmod_lt_of_pos (NN * 48271 + (cnt + 1) * 69621) (show (0 : Int) < 2147483647 by decide)
              have : (2147483647 : Int) < 2 ^ 64 := by decide
              omega
            by_cases cn : ns = []
            · rw [show (ns.map V.int).isEmpty = true by rw [cn]; rfl]
              refine iteF (iteF ?_)
              exact ⟨_, rfl, _, 48271, rfl, rfl, .inr (by decide), .ref b, rfl, b, _, 3, .int (cnt + 1), rfl, rfl, .of k1, atI_nat (j := 3) rfl, cnt + 1, 69621, rfl, rfl, .inr (by decide), _, _, rfl, rfl, .inl ⟨_, rfl, _, 2147483647, rfl, rfl, (by show (2147483647 : Int) ≠ 0; decide),
                _, rfl, _, rfl, _, _, rfl, rfl, .inl (B2 _), .ref b, rfl, b, _, 3, .int (cnt + 1), rfl, rfl, .of k1, atI_nat (j := 3) rfl, cnt + 1, 7919, rfl, rfl, .inr (by decide), _, _, rfl, rfl, _, 11, rfl, rfl, .inl ⟨_, rfl, _, 2305843009213693951, rfl, rfl, (by show (2305843009213693951 : Int) ≠ 0; decide), _, _, rfl, rfl, T2 _⟩⟩⟩
            · have emp : (ns.map V.int).isEmpty = false := by cases ns <;> first | exact absurd rfl cn | rfl
              rw [emp]
              have hz : (ns.map V.int) = (ns.dropLast.map V.int) ++ [.int (ns.getLast cn)] := by rw [← List.map_singleton, ← List.map_append, List.dropLast_concat_getLast]
              have gl : atI (ns.map V.int) (-1) = some (.int (ns.getLast cn)) := by rw [hz]; exact atI_last _ _
              refine iteT ?_
              refine ⟨.ref b, rfl, b, _, 1, .int pk, rfl, rfl, .of k1, atI_nat (j := 1) rfl, .ref b, rfl, b, _, 0, .ref p, rfl, rfl, .of k1, atI_nat (j := 0) rfl, p, ns.map V.int, rfl, .inl (sql Hk k3), pk, ((ns.map V.int).length : Int), rfl, rfl, _, rfl, ite2 (fun c5 => ?_) (fun c5 => ?_)⟩
              · exact ⟨_, rfl, .ref b, rfl, b, _, 0, .ref p, rfl, rfl, .of k1, atI_nat (j := 0) rfl, 1, rfl, p, ns.map V.int, -1, .int (ns.getLast cn), rfl, rfl, sql Hk k3, gl, .inl ⟨_, rfl, _, 1000003, rfl, rfl, (by show (1000003 : Int) ≠ 0; decide), _, _, rfl, rfl,
                  _, rfl, _, 48271, rfl, rfl, .inr (by decide), .ref b, rfl, b, _, 3, .int (cnt + 1), rfl, rfl, .of k1, atI_nat (j := 3) rfl, cnt + 1, 69621, rfl, rfl, .inr (by decide), _, _, rfl, rfl, .inl ⟨_, rfl, _, 2147483647, rfl, rfl, (by show (2147483647 : Int) ≠ 0; decide),
                  _, rfl, _, rfl, _, _, rfl, rfl, .inl (B2 _), .ref b, rfl, b, _, 3, .int (cnt + 1), rfl, rfl, .of k1, atI_nat (j := 3) rfl, cnt + 1, 7919, rfl, rfl, .inr (by decide), _, _, rfl, rfl, _, 11, rfl, rfl, .inl ⟨_, rfl, _, 2305843009213693951, rfl, rfl, (by show (2305843009213693951 : Int) ≠ 0; decide), _, _, rfl, rfl, T2 _⟩⟩⟩⟩
              · exact ⟨_, rfl, _, 48271, rfl, rfl, .inr (by decide), .ref b, rfl, b, _, 3, .int (cnt + 1), rfl, rfl, .of k1, atI_nat (j := 3) rfl, cnt + 1, 69621, rfl, rfl, .inr (by decide), _, _, rfl, rfl, .inl ⟨_, rfl, _, 2147483647, rfl, rfl, (by show (2147483647 : Int) ≠ 0; decide),
                  _, rfl, _, rfl, _, _, rfl, rfl, .inl (B2 _), .ref b, rfl, b, _, 3, .int (cnt + 1), rfl, rfl, .of k1, atI_nat (j := 3) rfl, cnt + 1, 7919, rfl, rfl, .inr (by decide), _, _, rfl, rfl, _, 11, rfl, rfl, .inl ⟨_, rfl, _, 2305843009213693951, rfl, rfl, (by show (2305843009213693951 : Int) ≠ 0; decide), _, _, rfl, rfl, T2 _⟩⟩⟩
        · refine ⟨.int num, rfl, 10, 18, rfl, rfl, ⟨by decide, by decide, by decide⟩, num, _, rfl, rfl, _, rfl, ite2 (fun c3 => ?_) (fun c3 => ?_)⟩
          · exact ⟨.int num, rfl, fin num Hk pk k1 kp k3⟩
          · refine ⟨.ref b, rfl, b, _, 0, .ref p, rfl, rfl, .of k1, atI_nat (j := 0) rfl, !(ns.map V.int).isEmpty, .inl ⟨ns.map V.int, sql Hk k3, rfl⟩, ?_⟩
            have T2 : ∀ NN : Int, Q (.int ((((NN * 48271 + (cnt + 1) * 69621).fmod 2147483647) * ((NN * 48271 + (cnt + 1) * 69621).fmod 2147483647) + (cnt + 1) * 7919 + 11).fmod 2305843009213693951 + 2305843009213693951)) Hk := fun NN => fin _ Hk pk k1 kp k3
            have B2 : ∀ NN : Int, -(2 ^ 64) < ((NN * 48271 + (cnt + 1) * 69621).fmod 2147483647) ∧ ((NN * 48271 + (cnt + 1) * 69621).fmod 2147483647) < 2 ^ 64 := fun NN => by
              have f0 := Int.fmod_nonneg_of_pos (NN * 48271 + (cnt + 1) * 69621) (show (0 : Int) < 2147483647 by decide)
              have f1 := Int.fmod_lt_of_pos (NN * 48271 + (cnt + 1) * 69621) (show (0 : Int) < 2147483647 by decide)
              have : (2147483647 : Int) < 2 ^ 64 := by decide
              omega
            by_cases cn : ns = []
            · rw [show (ns.map V.int).isEmpty = true by rw [cn]; rfl]
              refine iteF (iteF ?_)
              exact ⟨_, rfl, _, 48271, rfl, rfl, .inr (by decide), .ref b, rfl, b, _, 3, .int (cnt + 1), rfl, rfl, .of k1, atI_nat (j := 3) rfl, cnt + 1, 69621, rfl, rfl, .inr (by decide), _, _, rfl, rfl, .inl ⟨_, rfl, _, 2147483647, rfl, rfl, (by show (2147483647 : Int) ≠ 0; decide),
                _, rfl, _, rfl, _, _, rfl, rfl, .inl (B2 _), .ref b, rfl, b, _, 3, .int (cnt + 1), rfl, rfl, .of k1, atI_nat (j := 3) rfl, cnt + 1, 7919, rfl, rfl, .inr (by decide), _, _, rfl, rfl, _, 11, rfl, rfl, .inl ⟨_, rfl, _, 2305843009213693951, rfl, rfl, (by show (2305843009213693951 : Int) ≠ 0; decide), _, _, rfl, rfl, T2 _⟩⟩⟩
            · have emp : (ns.map V.int).isEmpty = false := by cases ns <;> first | exact absurd rfl cn | rfl
              rw [emp]
              have hz : (ns.map V.int) = (ns.dropLast.map V.int) ++ [.int (ns.getLast cn)] := by rw [← List.map_singleton, ← List.map_append, List.dropLast_concat_getLast]
              have gl : atI (ns.map V.int) (-1) = some (.int (ns.getLast cn)) := by rw [hz]; exact atI_last _ _
              refine iteT ?_
              refine ⟨.ref b, rfl, b, _, 1, .int pk, rfl, rfl, .of k1, atI_nat (j := 1) rfl, .ref b, rfl, b, _, 0, .ref p, rfl, rfl, .of k1, atI_nat (j := 0) rfl, p, ns.map V.int, rfl, .inl (sql Hk k3), pk, ((ns.map V.int).length : Int), rfl, rfl, _, rfl, ite2 (fun c5 => ?_) (fun c5 => ?_)⟩
              · exact ⟨_, rfl, .ref b, rfl, b, _, 0, .ref p, rfl, rfl, .of k1, atI_nat (j := 0) rfl, 1, rfl, p, ns.map V.int, -1, .int (ns.getLast cn), rfl, rfl, sql Hk k3, gl, .inl ⟨_, rfl, _, 1000003, rfl, rfl, (by show (1000003 : Int) ≠ 0; decide), _, _, rfl, rfl,
                  _, rfl, _, 48271, rfl, rfl, .inr (by decide), .ref b, rfl, b, _, 3, .int (cnt + 1), rfl, rfl, .of k1, atI_nat (j := 3) rfl, cnt + 1, 69621, rfl, rfl, .inr (by decide), _, _, rfl, rfl, .inl ⟨_, rfl, _, 2147483647, rfl, rfl, (by show (2147483647 : Int) ≠ 0; decide),
                  _, rfl, _, rfl, _, _, rfl, rfl, .inl (B2 _), .ref b, rfl, b, _, 3, .int (cnt + 1), rfl, rfl, .of k1, atI_nat (j := 3) rfl, cnt + 1, 7919, rfl, rfl, .inr (by decide), _, _, rfl, rfl, _, 11, rfl, rfl, .inl ⟨_, rfl, _, 2305843009213693951, rfl, rfl, (by show (2305843009213693951 : Int) ≠ 0; decide), _, _, rfl, rfl, T2 _⟩⟩⟩⟩
              · exact ⟨_, rfl, _, 48271, rfl, rfl, .inr (by decide), .ref b, rfl, b, _, 3, .int (cnt + 1), rfl, rfl, .of k1, atI_nat (j := 3) rfl, cnt + 1, 69621, rfl, rfl, .inr (by decide), _, _, rfl, rfl, .inl ⟨_, rfl, _, 2147483647, rfl, rfl, (by show (2147483647 : Int) ≠ 0; decide),
                  _, rfl, _, rfl, _, _, rfl, rfl, .inl (B2 _), .ref b, rfl, b, _, 3, .int (cnt + 1), rfl, rfl, .of k1, atI_nat (j := 3) rfl, cnt + 1, 7919, rfl, rfl, .inr (by decide), _, _, rfl, rfl, _, 11, rfl, rfl, .inl ⟨_, rfl, _, 2305843009213693951, rfl, rfl, (by show (2305843009213693951 : Int) ≠ 0; decide), _, _, rfl, rfl, T2 _⟩⟩⟩
      · refine ⟨.ref b, rfl, b, _, 0, .ref p, rfl, rfl, .of e1, atI_nat (j := 0) rfl, !(ns.map V.int).isEmpty, .inl ⟨ns.map V.int, sql H1 e3, rfl⟩, ?_⟩
        have T2 : ∀ NN : Int, Q (.int ((((NN * 48271 + (cnt + 1) * 69621).fmod 2147483647) * ((NN * 48271 + (cnt + 1) * 69621).fmod 2147483647) + (cnt + 1) * 7919 + 11).fmod 2305843009213693951 + 2305843009213693951)) H1 := fun NN => fin _ H1 pos e1 h0 e3
        have B2 : ∀ NN : Int, -(2 ^ 64) < ((NN * 48271 + (cnt + 1) * 69621).fmod 2147483647) ∧ ((NN * 48271 + (cnt + 1) * 69621).fmod 2147483647) < 2 ^ 64 := fun NN => by
          have f0 := Int.fmod_nonneg_of_pos (NN * 48271 + (cnt + 1) * 69621) (show (0 : Int) < 2147483647 by decide)
          have f1 := Int.fmod_lt_of_pos (NN * 48271 + (cnt + 1) * 69621) (show (0 : Int) < 2147483647 by decide)
          have : (2147483647 : Int) < 2 ^ 64 := by decide
          omega
        by_cases cn : ns = []
        · rw [show (ns.map V.int).isEmpty = true by rw [cn]; rfl]
          refine iteF (iteF ?_)
          exact ⟨_, rfl, _, 48271, rfl, rfl, .inr (by decide), .ref b, rfl, b, _, 3, .int (cnt + 1), rfl, rfl, .of e1, atI_nat (j := 3) rfl, cnt + 1, 69621, rfl, rfl, .inr (by decide), _, _, rfl, rfl, .inl ⟨_, rfl, _, 2147483647, rfl, rfl, (by show (2147483647 : Int) ≠ 0; decide),
            _, rfl, _, rfl, _, _, rfl, rfl, .inl (B2 _), .ref b, rfl, b, _, 3, .int (cnt + 1), rfl, rfl, .of e1, atI_nat (j := 3) rfl, cnt + 1, 7919, rfl, rfl, .inr (by decide), _, _, rfl, rfl, _, 11, rfl, rfl, .inl ⟨_, rfl, _, 2305843009213693951, rfl, rfl, (by show (2305843009213693951 : Int) ≠ 0; decide), _, _, rfl, rfl, T2 _⟩⟩⟩
        · have emp : (ns.map V.int).isEmpty = false := by cases ns <;> first | exact absurd rfl cn | rfl
          rw [emp]
          have hz : (ns.map V.int) = (ns.dropLast.map V.int) ++ [.int (ns.getLast cn)] := by rw [← List.map_singleton, ← List.map_append, List.dropLast_concat_getLast]
          have gl : atI (ns.map V.int) (-1) = some (.int (ns.getLast cn)) := by rw [hz]; exact atI_last _ _
          refine iteT ?_
          refine ⟨.ref b, rfl, b, _, 1, .int pos, rfl, rfl, .of e1, atI_nat (j := 1) rfl, .ref b, rfl, b, _, 0, .ref p, rfl, rfl, .of e1, atI_nat (j := 0) rfl, p, ns.map V.int, rfl, .inl (sql H1 e3), pos, ((ns.map V.int).length : Int), rfl, rfl, _, rfl, ite2 (fun c5 => ?_) (fun c5 => ?_)⟩
          · exact ⟨_, rfl, .ref b, rfl, b, _, 0, .ref p, rfl, rfl, .of e1, atI_nat (j := 0) rfl, 1, rfl, p, ns.map V.int, -1, .int (ns.getLast cn), rfl, rfl, sql H1 e3, gl, .inl ⟨_, rfl, _, 1000003, rfl, rfl, (by show (1000003 : Int) ≠ 0; decide), _, _, rfl, rfl,
              _, rfl, _, 48271, rfl, rfl, .inr (by decide), .ref b, rfl, b, _, 3, .int (cnt + 1), rfl, rfl, .of e1, atI_nat (j := 3) rfl, cnt + 1, 69621, rfl, rfl, .inr (by decide), _, _, rfl, rfl, .inl ⟨_, rfl, _, 2147483647, rfl, rfl, (by show (2147483647 : Int) ≠ 0; decide),
              _, rfl, _, rfl, _, _, rfl, rfl, .inl (B2 _), .ref b, rfl, b, _, 3, .int (cnt + 1), rfl, rfl, .of e1, atI_nat (j := 3) rfl, cnt + 1, 7919, rfl, rfl, .inr (by decide), _, _, rfl, rfl, _, 11, rfl, rfl, .inl ⟨_, rfl, _, 2305843009213693951, rfl, rfl, (by show (2305843009213693951 : Int) ≠ 0; decide), _, _, rfl, rfl, T2 _⟩⟩⟩⟩
          · exact ⟨_, rfl, _, 48271, rfl, rfl, .inr (by decide), .ref b, rfl, b, _, 3, .int (cnt + 1), rfl, rfl, .of e1, atI_nat (j := 3) rfl, cnt + 1, 69621, rfl, rfl, .inr (by decide), _, _, rfl, rfl, .inl ⟨_, rfl, _, 2147483647, rfl, rfl, (by show (2147483647 : Int) ≠ 0; decide),
              _, rfl, _, rfl, _, _, rfl, rfl, .inl (B2 _), .ref b, rfl, b, _, 3, .int (cnt + 1), rfl, rfl, .of e1, atI_nat (j := 3) rfl, cnt + 1, 7919, rfl, rfl, .inr (by decide), _, _, rfl, rfl, _, 11, rfl, rfl, .inl ⟨_, rfl, _, 2305843009213693951, rfl, rfl, (by show (2305843009213693951 : Int) ≠ 0; decide), _, _, rfl, rfl, T2 _⟩⟩⟩
theorem ok_law_take {P : Program} {w : World} {K : Fg} {mg : Str → Option Value} {base : Heap} {fa : Nat → Addr} {fdd : Nat → FuncData} (T : Txt K mg fa fdd) : FnOk P w K mg base CX0 2 (fa 11) (fdd 11) ["c", "many"] (SpD K pre_law_take post_law_take) := by
  have GF : FnOk P w K mg base CX0 1 (fa 10) (fdd 10) ["c"] (SpD K pre_law_fill post_law_fill) := ok_law_fill T
  refine T.F11.ok sc11 (fun vs H Q E h => ?_) (fun cdv A outer s H vs Q E hr h => ?_)
  · obtain ⟨lc, hc, hd, ds, g, _, _, _, ⟨m, rfl, _⟩, _⟩ := h
    rw [g.length]; rfl
  · obtain ⟨lc, hc, hd, ds, g, cok, sub, al, ⟨m, rfl, hm, hl⟩, q⟩ := h
    obtain ⟨x, y, rfl, gx, gy⟩ := da2 g
    cases gy
    cases gx with
    | @tok b hl' =>
      subst hl'
      have cok0 := cok
      obtain ⟨⟨p, ns, pos, dig, cnt, hb, hS, npb, h0, h63, hcp⟩, hcb⟩ := cok b rfl
      have fin : ∀ (d : Int) (H2 : Hp) , Evo (some b) H H2 → Cok K (some b) hc H2 → 0 ≤ d → d < m → Q (.int d) H2 := fun d H2 e1 e2 l0 l1 => q (.int d) (.int d) H2 e1 e2 (.int d) ⟨m, d, rfl, rfl, l0, l1⟩
      refine ⟨_, pss_cons (ps_if (pt_cmpR op_lt (pe_ix ix_list (pv 0) pe_int (fun _ _ => rfl)) (pv 1) (nomark _)) (pss_one (ps_asg (pe_call GF hr (by rfl) T.g10 T.F10.kp T.b10 .nil pass0 (pa_cons (pv 0) pa_nil)) (pg_sub (pv 0) pe_int set_list))) pss_nil)
        (pss_cons (ps_set (i := 2) sc11.nd rfl (.inl rfl) (pe_op op_modN (pe_callTy call_int1 (by rfl) T.m_int (by decide +kernel) (pa_cons (pe_ix ix_list (pv 0) pe_int (fun _ _ => rfl)) pa_nil)) (pv 1)))
        (pss_cons (ps_asg (pe_op op_divB (pe_ix ix_list (pv 0) pe_int (fun _ _ => rfl)) (pv 1)) (pg_sub (pv 0) pe_int set_list))
        (pss_one (ps_ret (pv 2))))), ?_⟩
      refine ⟨.ref b, rfl, b, _, 2, .int dig, rfl, rfl, .of hb, atI_nat (j := 2) rfl, .int m, rfl, dig, m, rfl, rfl, _, rfl, ite2 (fun c1 => ?_) (fun c1 => ?_)⟩
      · refine ⟨.ref b, rfl, some b, hc, hd, [.dict []], .cons (.tok rfl) .nil, cok, sub, al, rfl, fun v d H1 ev ck gv po => ?_⟩
        obtain ⟨n, rfl⟩ := po
        cases gv
        obtain ⟨⟨p1, ns1, pos1, dig1, cnt1, hb1, hS1, npb1, h01, h631, hcp1⟩, hcb1⟩ := ck b rfl
        refine ⟨.ref b, rfl, b, _, 2, 2, rfl, rfl, hb1, rfl, ?_⟩
        generalize hHk : upd H1 b (.lst ((([V.ref p1, V.int pos1, V.int dig1, V.int cnt1]).set 2 (.int n)))) = Hk
        have k1 : Hk b = some (.lst [.ref p1, .int pos1, .int n, .int cnt1]) := by rw [← hHk]; exact upd_same
        refine ⟨.ref b, rfl, b, _, 2, .int n, rfl, rfl, .of k1, atI_nat (j := 2) rfl, .inl ⟨n, rfl, .int m, rfl, n, m, rfl, rfl, by omega, ?_⟩⟩
        refine ⟨.ref b, rfl, b, _, 2, .int n, rfl, rfl, .of k1, atI_nat (j := 2) rfl, .int m, rfl, n, m, rfl, rfl, ⟨by omega, hl⟩, .ref b, rfl, b, _, 2, 2, rfl, rfl, k1, rfl, ?_⟩
        refine ⟨.int (n.fmod m), rfl, fin _ _ (fun x o hx ho => ?_) (fun x hx => ?_) (Int.fmod_nonneg_of_pos n hm) (Int.fmod_lt_of_pos n hm)⟩
        · have hne : x ≠ b := fun z => hx (by rw [z])
          rw [upd_ne hne, ← hHk, upd_ne hne]
          exact ev x o hx ho
        · cases hx
          exact ⟨⟨p1, ns1, pos1, n.fdiv m, cnt1, upd_same, sql_upd (by rw [← hHk]; exact sql_upd hS1 npb1) npb1, npb1, h01, h631, hcp1⟩, hcb1⟩
      · refine ⟨.ref b, rfl, b, _, 2, .int dig, rfl, rfl, .of hb, atI_nat (j := 2) rfl, .inl ⟨dig, rfl, .int m, rfl, dig, m, rfl, rfl, by omega, ?_⟩⟩
        refine ⟨.ref b, rfl, b, _, 2, .int dig, rfl, rfl, .of hb, atI_nat (j := 2) rfl, .int m, rfl, dig, m, rfl, rfl, ⟨by omega, hl⟩, .ref b, rfl, b, _, 2, 2, rfl, rfl, hb, rfl, ?_⟩
        refine ⟨.int (dig.fmod m), rfl, fin _ _ (fun x o hx ho => ?_) (fun x hx => ?_) (Int.fmod_nonneg_of_pos dig hm) (Int.fmod_lt_of_pos dig hm)⟩
        · have hne : x ≠ b := fun z => hx (by rw [z])
          rw [upd_ne hne]
          exact ho
        · cases hx
          exact ⟨⟨p, ns, pos, dig.fdiv m, cnt, upd_same, sql_upd hS npb, npb, h0, h63, hcp⟩, hcb⟩
theorem take_iff {m : Int} {Q : D → Prop} : (pre_law_take [.dict [], .int m] ∧ ∀ d, post_law_take [.dict [], .int m] d → Q d) = ((0 < m ∧ m.natAbs.log2 < 9000) ∧ ∀ r : Int, 0 ≤ r → r < m → Q (.int r)) := propext ⟨fun h => by
  obtain ⟨⟨m', e, h1, h2⟩, h3⟩ := h
  cases e
  exact ⟨⟨h1, h2⟩, fun r h0 h1 => h3 _ ⟨m, r, rfl, rfl, h0, h1⟩⟩, fun h => ⟨⟨m, rfl, h.1.1, h.1.2⟩, fun d hd => by
  obtain ⟨m', r, e, rfl, h0, h1⟩ := hd
  cases e
  exact h.2 r h0 h1⟩⟩

/-! ### the law's start -/
def spStart (K : Fg) : Sp := fun vs H Q _ => ∃ (a : Addr) (ns : List Int), vs = [.ref a] ∧ SqL K H a (ns.map V.int) ∧ ns.length ≤ 63 ∧
  ∀ H' b p (ms : List Int), Same H H' → p ≠ b → H' b = some (.lst [.ref p, .int 0, .int 0, .int 0]) → H' p = some (.lst (ms.map V.int)) → ms.length ≤ 63 → Q (.ref b) H'
theorem cut_ints (ns : List Int) (lo hi : Option Int) : ∃ ms : List Int, cutV (ns.map V.int) lo hi = ms.map V.int ∧ ms.length ≤ ns.length := by
  unfold cutV
  refine ⟨(ns.drop (HT.sIx (ns.map V.int).length 0 lo)).take (HT.sIx (ns.map V.int).length (ns.map V.int).length hi - HT.sIx (ns.map V.int).length 0 lo), ?_, ?_⟩
  · rw [List.map_take, List.map_drop]
  · rw [List.length_take, List.length_drop]; omega
theorem ok_law_start {P : Program} {w : World} {K : Fg} {mg : Str → Option Value} {base : Heap} {fa : Nat → Addr} {fdd : Nat → FuncData} (T : Txt K mg fa fdd) : FnOk P w K mg base CX0 1 (fa 9) (fdd 9) ["script"] (spStart K) := by
  refine T.F9.ok sc9 (fun vs H Q E h => ?_) (fun cdv A outer s H vs Q E hr h => ?_)
  · obtain ⟨a, ns, rfl, _⟩ := h
    rfl
  · obtain ⟨a, ns, rfl, hS, hlen, q⟩ := h
    obtain ⟨ms, em, lm⟩ := cut_ints ns none (some 63)
    refine ⟨_, pss_one (ps_ret (pe_lst (pa_cons (pe_lc (own := [("cell", 1)]) (g := gName 1) (tt := tYes) rfl sc9.nd (pi_list (pe_slice sl_list (pv 0) po_none (po_some pe_int))) (blkOk_by (own := [("cell", 1)]) (N := ["script", "cell"]) (sc := defScope s9) (by decide +kernel))
        (fun _ _ _ _ _ => pg_name (i := 1) sc9.nd rfl (Or.inl rfl)) (fun _ _ _ _ _ => pts_nil) (fun _ _ _ _ _ => pe_callTy call_int1 (by rfl) T.m_int (by decide +kernel) (pa_cons (pv 1) pa_nil))) (pa_cons pe_int (pa_cons pe_int (pa_cons pe_int pa_nil)))))), ?_⟩
    refine ⟨.ref a, rfl, 63, rfl, a, _, rfl, hS, fun c nc => ?_⟩
    rw [em]
    have s1 : Same H (upd H c (.lst (ms.map V.int))) := same_new nc
    refine ⟨c, rfl, ⟨_, .of upd_same⟩, fun D hD => ?_⟩
    have nDc : c ≠ D := fun z => by rw [← z, upd_same] at hD; cases hD
    refine lc_list (K := K) (a := c) (xs := ms.map V.int) (fun i H' => Same H H' ∧ H' c = some (.lst (ms.map V.int)) ∧ H' D = some (.lst ((ms.take i).map V.int))) ⟨s1.trans (same_new hD), by rw [upd_ne nDc, upd_same], by rw [upd_same]; rfl⟩ (fun i H' _ h => .of h.2.1) (fun i x H' hx h => ?_) fun H' h => ?_
    · obtain ⟨e1, e2, e3⟩ := h
      have hi : i < ms.length := by
        have := (List.getElem?_eq_some_iff.mp hx).1
        simpa using this
      have ex : x = .int ms[i] := by
        rw [List.getElem?_map, List.getElem?_eq_getElem hi] at hx
        exact (Option.some.inj hx).symm
      subst ex
      refine ⟨rfl, ?_⟩
      refine iteT (B := Same H H' ∧ H' c = some (.lst (ms.map V.int)) ∧ H' D = some (.lst ((ms.take (i + 1)).map V.int))) ?_
      refine ⟨_, rfl, .inl ⟨_, rfl, _, e3, ?_, fun b o hb => ?_, ?_, ?_⟩⟩
      · rw [List.length_map, List.length_take]
        exact size_lt (by omega)
      · have : b ≠ D := fun z => by
          subst z
          have := same_new (o := .lst []) hD
          have h0 := s1 b o hb
          rw [hD] at h0; cases h0
        rw [upd_ne this]; exact e1 b o hb
      · rw [upd_ne nDc]; exact e2
      · rw [upd_same, List.take_add_one, List.getElem?_eq_getElem hi, List.map_append]; rfl
    · obtain ⟨e1, e2, e3⟩ := h
      rw [List.length_map, List.take_of_length_le (Nat.le_refl _)] at e3
      refine ⟨by show 4 ≤ sizeLine; decide, fun b hb => ?_⟩
      have nb : D ≠ b := fun z => by rw [← z, e3] at hb; cases hb
      exact q _ b D ms (e1.trans (same_new hb)) nb upd_same (by rw [upd_ne nb]; exact e3) (by omega)
theorem at_law {K : Fg} {H : Hp} {b p : Addr} {ms : List Int} {σ : L2.St} (e1 : σ[1]? = some (some (.ref b))) (npb : p ≠ b) (hb : H b = some (.lst [.ref p, .int 0, .int 0, .int 0])) (hp : H p = some (.lst (ms.map V.int))) (hl : ms.length ≤ 63) :
    At K ⟨some b, fun x => x = b ∨ x = p, fun x => x = b ∨ x = p, H, []⟩ σ H (put (List.replicate σ.length .un) 1 (.val (.dict []))) [] [] := by
  have lk : ∀ n i, look (List.replicate n Slot.un) i = .un := fun n => by
    induction n with
    | zero => intro i; rfl
    | succ n ih => intro i; cases i with
      | zero => rfl
      | succ i => exact ih i
  refine ⟨fun _ => none, ?_, .nil⟩
  exact {
    evo := .refl H
    cok := fun x hx => by
      cases hx
      exact ⟨⟨p, ms, 0, 0, 0, hb, .of hp, npb, by decide, hl, .inr rfl⟩, .inl rfl⟩
    sub := fun _ h => h
    all := fun x hx => by
      rcases hx with z | z <;> subst z
      · show H x ≠ none
        rw [hb]; exact fun z => nomatch z
      · show H x ≠ none
        rw [hp]; exact fun z => nomatch z
    len := by rw [put_length, List.length_replicate]
    val := fun i d h => by
      by_cases hi : i = 1
      · subst hi
        rcases look_put (List.replicate σ.length .un) 1 (.val (.dict [])) with z | z
        · rw [z] at h; cases h
          exact ⟨_, e1, .tok rfl⟩
        · rw [z] at h; cases h
      · rw [look_put_ne _ _ _ _ hi, lk] at h; cases h
    own := fun i es h => by
      by_cases hi : i = 1
      · subst hi
        rcases look_put (List.replicate σ.length .un) 1 (.val (.dict [])) with z | z <;> (rw [z] at h; cases h)
      · rw [look_put_ne _ _ _ _ hi, lk] at h; cases h
    fre := fun i p h => nomatch h
    inj := fun i j p h => nomatch h
    gho := fun p es h => nomatch h
    gnd := .nil }
def spLaw (K : Fg) : Sp := fun vs H Q _ => ∃ (a : Addr) (ns : List Int), vs = [.ref a] ∧ SqL K H a (ns.map V.int) ∧ ns.length ≤ 63 ∧ ∀ H', Q (.bl true) H'

/-! ### root -/
def pre_root : List D → Prop := fun ds => ∃ n : Int, ds = [.int n] ∧ 0 ≤ n ∧ n.natAbs < 2 ^ 12000
theorem len_root (ds : List D) (h : pre_root ds) : ds.length = ["n"].length := by obtain ⟨a, rfl, _⟩ := h; rfl
def post_root : List D → D → Prop := fun ds r => ∃ (n : Int) (x : Nat), ds = [.int n] ∧ r = .int (x : Nat) ∧ ((x * x : Nat) : Int) ≤ n ∧ n < (((x + 1) * (x + 1) : Nat) : Int)
theorem root_iff {n : Int} {Q : D → Prop} (h0 : 0 ≤ n) (hl : n.natAbs < 2 ^ 12000) (h : ∀ x : Nat, ((x * x : Nat) : Int) ≤ n → n < (((x + 1) * (x + 1) : Nat) : Int) → Q (.int (x : Nat))) : (pre_root [.int n] ∧ ∀ r, post_root [.int n] r → Q r) := ⟨⟨n, rfl, h0, hl⟩, fun r hr => by
  obtain ⟨n', x, e, rfl, h1, h2⟩ := hr
  cases e
  exact h x h1 h2⟩

def w_root_0 : WS := (wRet (wB bIsqrt (wCons (wName 0) wNil)))

set_option exponentiation.threshold 20000 in
theorem body_root : ∀ ds, pre_root ds → w_root_0 { nx := fun _ => post_root ds .none, rt := post_root ds } (env0 ["n"] ds) := by
  intro ds h
  obtain ⟨n, rfl, h0, hl⟩ := h
  unfold w_root_0
  walk_at "dl"
  refine ⟨h0, ?_, fun r h1 h2 => ⟨n, r, rfl, rfl, by omega, by omega⟩⟩
  have := log2_le_of (n := n.toNat) (k := 12000) (by decide) (by rwa [show n.toNat = n.natAbs by omega])
  omega

theorem ok_root {P : Program} {w : World} {K : Fg} {mg : Str → Option Value} {base : Heap} {fa : Nat → Addr} {fdd : Nat → FuncData} (T : Txt K mg fa fdd) : FnOk P w K mg base CX0 1 (fa 2) (fdd 2) ["n"] (SpD K pre_root post_root) := by
  exact fn_ok T.F2 sc2 len_root (fun cdv A outer s H E hr => ⟨_, w_root_0, (dss_one (ds_ret (de_callM cr_isqrt snc_isqrt (by rfl) T.m_isqrt (da_cons (de_name 0) da_nil)))), body_root⟩)
/-! ### need_square -/
def pre_need_square : List D → Prop := fun ds => ∃ (n : Nat) (R : List (List D)), ds = [Mt n n R]
theorem len_need_square (ds : List D) (h : pre_need_square ds) : ds.length = ["a"].length := by obtain ⟨_, _, rfl⟩ := h; rfl
def post_need_square : List D → D → Prop := fun _ _ => True
theorem need_square_iff (n : Nat) (R : List (List D)) {Q : D → Prop} (h : ∀ r, Q r) : (pre_need_square [Mt n n R] ∧ ∀ r, post_need_square [Mt n n R] r → Q r) := ⟨⟨n, R, rfl⟩, fun r _ => h r⟩

def w_need_square_0 : WS := (wIfS (wTest (wBin dNe (wBin dIx (wName 0) (wC (.int 0))) (wBin dIx (wName 0) (wC (.int 1))))) wNever wNext)

theorem body_need_square : ∀ ds, pre_need_square ds → w_need_square_0 { nx := fun _ => post_need_square ds .none, rt := post_need_square ds } (env0 ["a"] ds) := by
  intro ds h
  obtain ⟨n, R, rfl⟩ := h
  unfold w_need_square_0
  simp only [Mt]
  walk_at "dl"
  rw [if_neg (fun h => h trivial)]
  trivial

theorem ok_need_square {P : Program} {w : World} {K : Fg} {mg : Str → Option Value} {base : Heap} {fa : Nat → Addr} {fdd : Nat → FuncData} (T : Txt K mg fa fdd) : FnOk P w K mg base CX0 1 (fa 3) (fdd 3) ["a"] (SpD K pre_need_square post_need_square) := by
  exact fn_ok T.F3 sc3 len_need_square (fun cdv A outer s H E hr => ⟨_, w_need_square_0, (dss_one (ds_if (dt_cmp (op_neP hr.units) sn2_ne (de_ix ix_D sn2_ix (de_name 0) de_int) (de_ix ix_D sn2_ix (de_name 0) de_int)) (dss_one ds_never) dss_nil)), body_need_square⟩)
/-! ### product_of_rows -/
def pre_product_of_rows : List D → Prop := fun ds => ∃ a : List Int, ds = [.tuple (a.map .int), .tuple (a.map .int)] ∧ a.length ≤ 100 ∧ ∀ x ∈ a, x.natAbs < 2 ^ 200
theorem len_product_of_rows (ds : List D) (h : pre_product_of_rows ds) : ds.length = ["u", "v"].length := by obtain ⟨_, rfl, _⟩ := h; rfl
def post_product_of_rows : List D → D → Prop := fun ds r => ∃ a : List Int, ds = [.tuple (a.map .int), .tuple (a.map .int)] ∧ r = .int (a.map fun x => x * x).sum
theorem product_of_rows_iff (a : List Int) (h1 : a.length ≤ 100) (h2 : ∀ x ∈ a, x.natAbs < 2 ^ 200) {Q : D → Prop} (h : Q (.int (a.map fun x => x * x).sum)) : (pre_product_of_rows [.tuple (a.map .int), .tuple (a.map .int)] ∧ ∀ r, post_product_of_rows [.tuple (a.map .int), .tuple (a.map .int)] r → Q r) := ⟨⟨a, rfl, h1, h2⟩, fun r hr => by
  obtain ⟨b, e, rfl⟩ := hr
  simp only [List.cons.injEq, PyData.tuple.injEq, and_true] at e
  have e2 : a = b := by
    have := congrArg (List.map fun d => match d with | PyData.int i => i | _ => 0) e.1
    simpa [List.map_map, Function.comp_def] using this
  subst e2
  exact h⟩

def w_product_of_rows_0 : WS := (wRet (wB bSum (wCons (wFree (wCompZT (wCons (wName 0) (wCons (wName 1) wNil)) 2 3 wYes (wBin dMul (wName 2) (wName 3)))) wNil)))

theorem body_product_of_rows : ∀ ds, pre_product_of_rows ds → w_product_of_rows_0 { nx := fun _ => post_product_of_rows ds .none, rt := post_product_of_rows ds } (env0 ["u", "v", "x", "y"] ds) := by
  intro ds h
  obtain ⟨a, rfl, h1, h2⟩ := h
  unfold w_product_of_rows_0
  walk_at "dl"
  refine wComp2L_of (es := (a.map fun x => x * x).map .int) ?_ ?_ (fun j x y hx hy => ?_) ?_
  · rw [zipD_len]; simp
  · rw [zipD_len]; simp; omega
  · obtain ⟨u, v, hu, hv, rfl⟩ := zipD_get hx
    rw [hu] at hv
    cases hv
    rw [List.getElem?_map] at hu
    rw [List.map_map, List.getElem?_map] at hy
    cases e : a[j]? with
    | none => rw [e] at hu; cases hu
    | some z =>
      rw [e] at hu hy
      cases hu
      cases hy
      refine ⟨_, _, rfl, fun Q hQ => ?_⟩
      have hz := h2 z (List.mem_of_getElem? e)
      walk_at "dl"
      exact ⟨mulOk_of hz hz (by decide) (by decide) (by decide), hQ⟩
  · walk_at "dl"
    exact ⟨_, rfl, a, rfl, rfl⟩

theorem ok_product_of_rows {P : Program} {w : World} {K : Fg} {mg : Str → Option Value} {base : Heap} {fa : Nat → Addr} {fdd : Nat → FuncData} (T : Txt K mg fa fdd) : FnOk P w K mg base CX0 1 (fa 4) (fdd 4) ["u", "v"] (SpD K pre_product_of_rows post_product_of_rows) := by
  exact fn_ok T.F4 sc4 len_product_of_rows (fun cdv A outer s H E hr => ⟨_, w_product_of_rows_0, (dss_one (ds_ret (de_callB (cr_sum rfl) snc_sum (by rfl) T.m_sum (by decide +kernel) (da_cons (DF.de (df_compZT (x := "x") (i := 2) (y := "y") (k := 3) (by rfl) T.m_zip (by decide) rfl sc4.nd (da_cons (de_name 0) (da_cons (de_name 1) da_nil)) (by first | exact (blkOk_by (own := [("x", 2), ("y", 3)]) (N := ["u", "v", "x", "y"]) (sc := defScope s4) (by decide +kernel)) | (refine blkOk_by ?_; dsimp only [Cx.blk, Cx.nox, Cx.wish, Cx.tr, cxOf, envOfC, compEnvC, relab]; decide +kernel)) (fun _ _ _ _ _ => pg_tup rfl (pgs_cons (pg_name (i := 2) sc4.nd rfl (by first | exact Or.inl rfl | exact Or.inr rfl)) (pgs_cons (pg_name (i := 3) sc4.nd rfl (by first | exact Or.inl rfl | exact Or.inr rfl)) pgs_nil))) (fun _ _ _ _ _ => ⟨_, dts_nil, by first | (dsimp only [Cx.blk]; rfl) | dsimp only [Cx.blk] | rfl⟩) (fun _ _ _ _ _ => ⟨_, (de_op op_mulD sn2_mul (de_name 2) (de_name 3)), by first | (dsimp only [Cx.blk]; rfl) | dsimp only [Cx.blk] | rfl⟩))) da_nil)))), body_product_of_rows⟩)
/-! ### _law_raised -/
def pre_law_raised : List D → Prop := fun ds => ∃ b k : Int, ds = [.int b, .int k] ∧ -(2 ^ 64) < b ∧ b < 2 ^ 64 ∧ 0 ≤ k ∧ k < 2 ^ 62
theorem len_law_raised (ds : List D) (h : pre_law_raised ds) : ds.length = ["b", "k"].length := by obtain ⟨a, b, rfl, _⟩ := h; rfl
def post_law_raised : List D → D → Prop := fun ds d => ∃ b k : Int, ds = [.int b, .int k] ∧ d = .int (b ^ k.toNat)

def w_law_raised_2 : WS := (wRet (wName 2))
def w_law_raised_1_b : WS := (wAsg (wBin dMul (wName 2) (wName 0)) (wgName 2))
def w_law_raised_1 : WS := wSeq (wFor (wiR1 (wCons (wName 1) wNil)) (wgName 3) w_law_raised_1_b) w_law_raised_2
def w_law_raised_0 : WS := wSeq (wAsg (wC (.int 1)) (wgName 2)) w_law_raised_1

theorem body_law_raised : ∀ ds, pre_law_raised ds → w_law_raised_0 { nx := fun _ => post_law_raised ds .none, rt := post_law_raised ds } (env0 ["b", "k", "found", "j"] ds) := by
  intro ds h
  obtain ⟨b, k, rfl, hb1, hb2, hk, hk2⟩ := h
  unfold w_law_raised_0 w_law_raised_1
  walk_at "dl"
  refine ⟨⟨by omega, hk2⟩, wForN_of (fun i ρ => ∃ x, ρ = [.val (.int b), .val (.int k), .val (.int (b ^ i)), x]) ⟨_, by rw [Int.pow_zero]⟩ (fun i ρ hi h => ?_) fun ρ h => ?_⟩
  · obtain ⟨x, rfl⟩ := h
    unfold w_law_raised_1_b
    walk_at "dl"
    exact ⟨.inl (.inr ⟨hb1, hb2⟩), _, by rw [Int.pow_succ]⟩
  · obtain ⟨x, rfl⟩ := h
    unfold w_law_raised_2
    walk_at "dl"
    exact ⟨b, k, rfl, rfl⟩

theorem ok_law_raised {P : Program} {w : World} {K : Fg} {mg : Str → Option Value} {base : Heap} {fa : Nat → Addr} {fdd : Nat → FuncData} (T : Txt K mg fa fdd) : FnOk P w K mg base CX0 1 (fa 12) (fdd 12) ["b", "k"] (SpD K pre_law_raised post_law_raised) := by
  exact fn_ok T.F12 sc12 len_law_raised (fun cdv A outer s H E hr => ⟨_, w_law_raised_0, (dss_cons (ds_set (i := 2) sc12.nd de_int)
      (dss_cons (ds_for PassesOwn.never rfl (di_rng1 (by rfl) T.m_range (da_cons (de_name 1) da_nil)) (dg_name (i := 3) sc12.nd) (dss_one (ds_set (i := 2) sc12.nd (de_op op_mulD sn2_mul (de_name 2) (de_name 0)))))
      (dss_one (ds_ret (de_name 2))))), body_law_raised⟩)
/-! ### _law_common -/
def pre_law_common : List D → Prop := fun ds => ∃ a b : Int, ds = [.int a, .int b]
theorem len_law_common (ds : List D) (h : pre_law_common ds) : ds.length = ["a", "b"].length := by obtain ⟨a, b, rfl⟩ := h; rfl
def post_law_common : List D → D → Prop := fun ds r => ∃ a b : Int, ds = [.int a, .int b] ∧ r = .int (Nat.gcd a.natAbs b.natAbs : Nat)
theorem lcommon_iff {a b : Int} {Q : D → Prop} (h : Q (.int (Nat.gcd a.natAbs b.natAbs : Nat))) : (pre_law_common [.int a, .int b] ∧ ∀ r, post_law_common [.int a, .int b] r → Q r) := ⟨⟨a, b, rfl⟩, fun r hr => by
  obtain ⟨a', b', e, rfl⟩ := hr
  cases e
  exact h⟩
def mu_law_common (ρ : Rho) : Nat := match look ρ 1 with
  | .val (.int r) => r.toNat
  | _ => 0

def w_law_common_3 : WS := (wRet (wName 0))
def w_law_common_2_b : WS := (wSeq (wAsg (wBin dMod (wB bInt (wCons (wName 0) wNil)) (wName 1)) (wgName 2))
    (wSeq (wAsg (wName 1) (wgName 0))
    (wAsg (wName 2) (wgName 1))))
def w_law_common_2 : WS := wSeq (wWhile (wTest (wBin dNe (wName 1) (wC (.int 0)))) w_law_common_2_b) w_law_common_3
def w_law_common_1 : WS := wSeq (wAsg (wB bAbs (wCons (wName 1) wNil)) (wgName 1)) w_law_common_2
def w_law_common_0 : WS := wSeq (wAsg (wB bAbs (wCons (wName 0) wNil)) (wgName 0)) w_law_common_1

theorem body_law_common : ∀ ds, pre_law_common ds → w_law_common_0 { nx := fun _ => post_law_common ds .none, rt := post_law_common ds } (env0 ["a", "b", "rest"] ds) := by
  intro ds h
  obtain ⟨a, b, rfl⟩ := h
  unfold w_law_common_0 w_law_common_1 w_law_common_2
  walk_at "dl"
  rw [absite, absite]
  refine ⟨fun ρ => ∃ x y : Nat, ∃ s, ρ = [.val (.int x), .val (.int y), s] ∧ Nat.gcd x y = Nat.gcd a.natAbs b.natAbs, mu_law_common, ⟨a.natAbs, b.natAbs, .un, rfl, rfl⟩, ?_⟩
  rintro ρ ⟨x, y, s, rfl, hg⟩
  walk_at "dl"
  by_cases hy : y = 0
  · subst hy
    rw [if_neg (by simp)]
    unfold w_law_common_3
    walk_at "dl"
    rw [Nat.gcd_zero_right] at hg
    exact ⟨a, b, rfl, by rw [hg]⟩
  · rw [if_pos (by omega)]
    unfold w_law_common_2_b
    walk_at "dl"
    refine ⟨by omega, ?_⟩
    have e : (x : Int).fmod (y : Int) = ((x % y : Nat) : Int) := by rw [Int.fmod_eq_emod_of_nonneg _ (by omega), Int.natCast_emod]
    rw [e]
    refine ⟨⟨y, x % y, _, rfl, ?_⟩, ?_⟩
    · rw [← hg, Nat.gcd_comm x y, Nat.gcd_rec y x, Nat.gcd_comm]
    · simp only [mu_law_common, look]
      have := Nat.mod_lt x (show 0 < y by omega)
      omega

theorem ok_law_common {P : Program} {w : World} {K : Fg} {mg : Str → Option Value} {base : Heap} {fa : Nat → Addr} {fdd : Nat → FuncData} (T : Txt K mg fa fdd) : FnOk P w K mg base CX0 1 (fa 13) (fdd 13) ["a", "b"] (SpD K pre_law_common post_law_common) := by
  exact fn_ok T.F13 sc13 len_law_common (fun cdv A outer s H E hr => ⟨_, w_law_common_0, (dss_cons (ds_set (i := 0) sc13.nd (de_callB call_abs snc_abs (by rfl) T.m_abs (by decide +kernel) (da_cons (de_name 0) da_nil)))
      (dss_cons (ds_set (i := 1) sc13.nd (de_callB call_abs snc_abs (by rfl) T.m_abs (by decide +kernel) (da_cons (de_name 1) da_nil)))
      (dss_cons (ds_while PassesOwn.never (dt_cmp (op_neP hr.units) sn2_ne (de_name 1) de_int) (dss_cons (ds_set (i := 2) sc13.nd (de_op op_modN sn2_mod (de_callTy call_int1 snc_int (by rfl) T.m_int (by decide +kernel) (da_cons (de_name 0) da_nil)) (de_name 1)))
      (dss_cons (ds_set (i := 0) sc13.nd (de_name 1))
      (dss_one (ds_set (i := 1) sc13.nd (de_name 2))))))
      (dss_one (ds_ret (de_name 0)))))), body_law_common⟩)
/-! ### _law_zero -/
def pre_law_zero : List D → Prop := fun ds => ∃ d : Dom, ds = [d.enc]
theorem len_law_zero (ds : List D) (h : pre_law_zero ds) : ds.length = ["d"].length := by obtain ⟨a, rfl⟩ := h; rfl
def post_law_zero : List D → D → Prop := fun ds r => ∃ d : Dom, ds = [d.enc] ∧ r = d.el 0
theorem lzero_iff (d : Dom) {Q : D → Prop} (h : Q (d.el 0)) : (pre_law_zero [d.enc] ∧ ∀ r, post_law_zero [d.enc] r → Q r) := ⟨⟨d, rfl⟩, fun r hr => by
  obtain ⟨d', e, rfl⟩ := hr
  have := Dom.enc_inj (List.cons.inj e).1
  subst this
  exact h⟩
theorem lzero_iff_f (f : Fld) {Q : D → Prop} (h : Q (f.el 0)) : (pre_law_zero [f.enc] ∧ ∀ r, post_law_zero [f.enc] r → Q r) := lzero_iff (.K f) h

def w_law_zero_2 : WS := (wRet (wC (.int 0)))
def w_law_zero_1 : WS := wSeq (wIfS (wTest (wBin dEq (wBin dIx (wName 0) (wC (.int 0))) (wC (.str (Str.ofString "P"))))) (wRet (wTup wNil)) wNext) w_law_zero_2
def w_law_zero_0 : WS := wSeq (wIfS (wTest (wBin dEq (wBin dIx (wName 0) (wC (.int 0))) (wC (.str (Str.ofString "Q"))))) (wRet (wTup (wCons (wC (.int 0)) (wCons (wC (.int 1)) wNil)))) wNext) w_law_zero_1

theorem body_law_zero : ∀ ds, pre_law_zero ds → w_law_zero_0 { nx := fun _ => post_law_zero ds .none, rt := post_law_zero ds } (env0 ["d"] ds) := by
  intro ds h
  obtain ⟨d, rfl⟩ := h
  unfold w_law_zero_0 w_law_zero_1 w_law_zero_2
  cases d with
  | Z =>
    walk_at "dl"
    simp only [Dom.enc]
    walk_at "dl"
    exact ⟨.Z, rfl, rfl⟩
  | K f =>
    cases f with
    | Q =>
      simp only [Dom.enc, Fld.enc]
      walk_at "dl"
      exact ⟨.K .Q, rfl, rfl⟩
    | F n =>
      simp only [Dom.enc, Fld.enc]
      walk_at "dl"
      exact ⟨.K (.F n), rfl, rfl⟩
  | P f =>
    simp only [Dom.enc]
    walk_at "dl"
    exact ⟨.P f, rfl, (Dom.zero_P f).symm⟩

theorem ok_law_zero {P : Program} {w : World} {K : Fg} {mg : Str → Option Value} {base : Heap} {fa : Nat → Addr} {fdd : Nat → FuncData} (T : Txt K mg fa fdd) : FnOk P w K mg base CX0 1 (fa 15) (fdd 15) ["d"] (SpD K pre_law_zero post_law_zero) := by
  exact fn_ok T.F15 sc15 len_law_zero (fun cdv A outer s H E hr => ⟨_, w_law_zero_0, (dss_cons (ds_if (dt_cmp (op_eqP hr.units) sn2_eq (de_ix ix_D sn2_ix (de_name 0) de_int) de_str) (dss_one (ds_ret (de_tup (da_cons de_int (da_cons de_int da_nil))))) dss_nil)
      (dss_cons (ds_if (dt_cmp (op_eqP hr.units) sn2_eq (de_ix ix_D sn2_ix (de_name 0) de_int) de_str) (dss_one (ds_ret (de_tup da_nil))) dss_nil)
      (dss_one (ds_ret de_int)))), body_law_zero⟩)
/-! ### _law_column -/
def pre_law_column : List D → Prop := fun ds => ∃ (m n j : Nat) (R : List (List D)), ds = [Mt m n R, .int j] ∧ Shp m n R ∧ m ≤ 1000 ∧ j < n
theorem len_law_column (ds : List D) (h : pre_law_column ds) : ds.length = ["a", "j"].length := by obtain ⟨_, _, _, _, rfl, _⟩ := h; rfl
def post_law_column : List D → D → Prop := fun ds r => ∃ (m n j : Nat) (R : List (List D)), ds = [Mt m n R, .int j] ∧ r = .tuple ((List.range m).map fun i => ent R i j)
theorem lcolumn_iff (m n j : Nat) (R : List (List D)) (hs : Shp m n R) (hm : m ≤ 1000) (hj : j < n) {Q : D → Prop} (h : Q (.tuple ((List.range m).map fun i => ent R i j))) : (pre_law_column [Mt m n R, .int j] ∧ ∀ r, post_law_column [Mt m n R, .int j] r → Q r) := ⟨⟨m, n, j, R, rfl, hs, hm, hj⟩, fun r hr => by
  obtain ⟨m', n', j', R', e, rfl⟩ := hr
  simp only [List.cons.injEq, PyData.int.injEq, and_true] at e
  obtain ⟨rfl, rfl, rfl⟩ := Mt_inj e.1
  obtain rfl : j = j' := by omega
  exact h⟩

def w_law_column_0 : WS := (wRet (wB bTuple (wCons (wFree (wComp (wiTup (wBin dIx (wName 0) (wC (.int 2)))) 2 wYes (wBin dIx (wName 2) (wName 1)))) wNil)))

theorem body_law_column : ∀ ds, pre_law_column ds → w_law_column_0 { nx := fun _ => post_law_column ds .none, rt := post_law_column ds } (env0 ["a", "j", "row"] ds) := by
  intro ds h
  obtain ⟨m, n, j, R, rfl, hs, hm, hj⟩ := h
  unfold w_law_column_0
  simp only [Mt]
  walk_at "dl"
  have hr := hs.rows
  refine wCompL_of (es := (List.range m).map fun i => ent R i j) (by simp; omega) (by simp; omega) (fun i x y Q2 hx hy hQ2 => ?_) ?_
  · obtain ⟨row, hrow, rfl⟩ := tup_get hx
    obtain ⟨hi, rfl⟩ := ran_at hy
    have lr := hs.cols row (List.mem_of_getElem? hrow)
    have hlt : j < row.length := by omega
    walk_at "dl"
    refine dIx_tup (x := row[j]) (by omega) (by rw [Int.toNat_natCast]; exact List.getElem?_eq_getElem hlt) ?_
    rw [ent_get hrow (List.getElem?_eq_getElem hlt)] at hQ2
    exact hQ2
  · walk_at "dl"
    exact ⟨m, n, j, R, rfl, rfl⟩

theorem ok_law_column {P : Program} {w : World} {K : Fg} {mg : Str → Option Value} {base : Heap} {fa : Nat → Addr} {fdd : Nat → FuncData} (T : Txt K mg fa fdd) : FnOk P w K mg base CX0 1 (fa 32) (fdd 32) ["a", "j"] (SpD K pre_law_column post_law_column) := by
  exact fn_ok T.F32 sc32 len_law_column (fun cdv A outer s H E hr => ⟨_, w_law_column_0, (dss_one (ds_ret (de_callTy call_tuple_of snc_tuple (by rfl) T.m_tuple (by decide +kernel) (da_cons (DF.de (df_comp (x := "row") (i := 2) rfl sc32.nd (di_tup (de_ix ix_D sn2_ix (de_name 0) de_int)) (by first | exact (blkOk_by (own := [("row", 2)]) (N := ["a", "j", "row"]) (sc := defScope s32) (by decide +kernel)) | (refine blkOk_by ?_; dsimp only [Cx.blk, Cx.nox, Cx.wish, Cx.tr, cxOf, envOfC, compEnvC, relab]; decide +kernel)) (fun _ _ _ _ _ => pg_name (i := 2) sc32.nd rfl (by first | exact Or.inl rfl | exact Or.inr rfl)) (fun _ _ _ _ _ => ⟨_, dts_nil, by first | (dsimp only [Cx.blk]; rfl) | dsimp only [Cx.blk] | rfl⟩) (fun _ _ _ _ _ => ⟨_, (de_ix ix_D sn2_ix (de_name 2) (de_name 1)), by first | (dsimp only [Cx.blk]; rfl) | dsimp only [Cx.blk] | rfl⟩))) da_nil)))), body_law_column⟩)
/-! ### _law_orders -/
def pre_law_orders : List D → Prop := fun ds => ∃ n : Nat, ds = [.int n] ∧ n ≤ 5
theorem len_law_orders (ds : List D) (h : pre_law_orders ds) : ds.length = ["n"].length := by obtain ⟨_, rfl, _⟩ := h; rfl
def post_law_orders : List D → D → Prop := fun ds r => ∃ n : Nat, ds = [.int n] ∧ r = lNs (orders n)
theorem lorders_iff {n : Nat} (hn : n ≤ 5) {Q : D → Prop} (h : Q (lNs (orders n))) : (pre_law_orders [.int n] ∧ ∀ r, post_law_orders [.int n] r → Q r) := ⟨⟨n, rfl, hn⟩, fun r hr => by
  obtain ⟨n', e, rfl⟩ := hr
  simp only [List.cons.injEq, PyData.int.injEq, and_true] at e
  obtain rfl : n = n' := by omega
  exact h⟩
/-- the orders are few and short -/
theorem orders_len : ∀ n, n ≤ 5 → ((orders n).length ≤ 120 ∧ ∀ o ∈ orders n, o.length = n) := by decide +kernel
theorem lN_take {o : List Nat} {i : Nat} (h : i ≤ o.length) : DL.cutD (o.map fun i => PyData.int (i : Nat)) none (some (i : Int)) = (o.take i).map fun i => PyData.int (i : Nat) := by
  rw [cutD_pre (by simp; omega), List.map_take]
theorem lN_drop {o : List Nat} {i : Nat} (h : i ≤ o.length) : DL.cutD (o.map fun i => PyData.int (i : Nat)) (some (i : Int)) none = (o.drop i).map fun i => PyData.int (i : Nat) := by
  rw [cutD_suf (by simp; omega), List.map_drop]

def w_law_orders_2 : WS := (wRet (wName 1))
def w_law_orders_1_b : WS := (wSeq (wAsg (wLst wNil) (wgName 3))
    (wSeq (wFor (wiLst (wName 1)) (wgName 4) (wAsg (wBin dAdd (wName 3) (wFree (wComp (wiR1 (wCons (wBin dAdd (wName 2) (wC (.int 1))) wNil)) 5 wYes (wBin dAdd (wBin dAdd (wFree (wSlL (wName 4) wNoPart (wPart (wName 5)))) (wLst (wCons (wName 2) wNil))) (wFree (wSlL (wName 4) (wPart (wName 5)) wNoPart)))))) (wgName 3)))
    (wAsg (wName 3) (wgName 1))))
def w_law_orders_1 : WS := wSeq (wFor (wiR1 (wCons (wName 0) wNil)) (wgName 2) w_law_orders_1_b) w_law_orders_2
def w_law_orders_0 : WS := wSeq (wAsg (wLst (wCons (wLst wNil) wNil)) (wgName 1)) w_law_orders_1

theorem body_law_orders : ∀ ds, pre_law_orders ds → w_law_orders_0 { nx := fun _ => post_law_orders ds .none, rt := post_law_orders ds } (env0 ["n", "found", "k", "longer", "one", "i"] ds) := by
  intro ds h
  obtain ⟨n, rfl, hn⟩ := h
  unfold w_law_orders_0
  walk_at "dl"
  unfold w_law_orders_1
  walk_at "dl"
  refine ⟨⟨by omega, by omega⟩, ?_⟩
  refine wForN_of (fun k ρ => ∃ s2 s3 s4 s5 : Slot, ρ = [.val (.int n), .val (lNs (orders k)), s2, s3, s4, s5]) ⟨_, _, _, _, rfl⟩ (fun k ρ hk hI => ?_) fun ρ hI => ?_
  · obtain ⟨s2, s3, s4, s5, rfl⟩ := hI
    have ek : (0 : Int) + (k : Int) = (k : Nat) := by omega
    have hk : k < n := by omega
    obtain ⟨l1, l2⟩ := orders_len k (by omega)
    rw [ek]
    unfold w_law_orders_1_b
    unfold lNs
    walk_at "dl"
    refine wForD_of (fun t ρ => ∃ s4 s5 : Slot, ρ = [.val (.int n), .val (.list ((orders k).map lN)), .val (.int k), .val (.list ((((orders k).take t).foldl (fun l one => l ++ (List.range (k + 1)).map (insAt k one)) []).map lN)), s4, s5])
      ⟨_, _, rfl⟩ (fun t x ρ hx hI => ?_) fun ρ hI => ?_
    · obtain ⟨s4, s5, rfl⟩ := hI
      rw [List.getElem?_map] at hx
      cases eo : (orders k)[t]? with
      | none => rw [eo] at hx; cases hx
      | some o =>
        rw [eo] at hx
        cases hx
        have lo := l2 o (List.mem_of_getElem? eo)
        rw [foldl_take _ _ eo]
        have lF := ordF_len k ((orders k).take t) []
        have lt : ((orders k).take t).length ≤ 120 := by rw [List.length_take]; omega
        generalize ((orders k).take t).foldl (fun l one => l ++ (List.range (k + 1)).map (insAt k one)) [] = F at lF
        have lF2 : F.length ≤ 720 := by
          rw [lF]
          have := Nat.mul_le_mul lt (show k + 1 ≤ 6 by omega)
          simp at this ⊢
          omega
        rw [List.map_append]
        generalize (orders k).map lN = G
        generalize hFm : F.map lN = FF
        have lFF : FF.length ≤ 720 := by rw [← hFm, List.length_map]; exact lF2
        unfold lN
        walk_at "dl"
        refine ⟨⟨by omega, by omega⟩, ?_⟩
        refine wCompL_of (es := ((List.range (k + 1)).map (insAt k o)).map lN) (by rw [rngD_len, List.length_map, List.length_map, List.length_range]; omega) (by rw [rngD_len]; omega) (fun i x y Q hx hy hQ => ?_) ?_
        · obtain ⟨hi, rfl⟩ := rngD_get hx
          have hi2 : i < k + 1 := by omega
          rw [List.map_map, List.getElem?_map, List.getElem?_range hi2] at hy
          cases hy
          have ei : (0 : Int) + (i : Int) = (i : Nat) := by omega
          rw [ei] at hQ ⊢
          walk_at "dl"
          rw [lN_take (by omega), lN_drop (by omega)]
          refine ⟨by simp; omega, by simp; omega, ?_⟩
          have e : (PyData.list ((o.take i).map (fun i => PyData.int (i : Nat)) ++ [.int (k : Nat)] ++ (o.drop i).map fun i => PyData.int (i : Nat))) = lN (insAt k o i) := by
            unfold lN insAt
            rw [List.map_append, List.map_append]; rfl
          rw [e]
          exact hQ
        · walk_at "dl"
          refine ⟨by rw [List.length_map, List.length_map, List.length_range]; omega, _, _, rfl⟩
    · obtain ⟨s4, s5, rfl⟩ := hI
      rw [List.length_map, List.take_length]
      walk_at "dl"
      exact ⟨_, _, _, _, rfl⟩
  · obtain ⟨s2, s3, s4, s5, rfl⟩ := hI
    rw [Int.toNat_natCast]
    unfold w_law_orders_2
    walk_at "dl"
    exact ⟨n, rfl, rfl⟩

theorem ok_law_orders {P : Program} {w : World} {K : Fg} {mg : Str → Option Value} {base : Heap} {fa : Nat → Addr} {fdd : Nat → FuncData} (T : Txt K mg fa fdd) : FnOk P w K mg base CX0 1 (fa 37) (fdd 37) ["n"] (SpD K pre_law_orders post_law_orders) := by
  exact fn_ok T.F37 sc37 len_law_orders (fun cdv A outer s H E hr => ⟨_, w_law_orders_0, (dss_cons (ds_set (i := 1) sc37.nd (de_lst (da_cons (de_lst da_nil) da_nil)))
      (dss_cons (ds_for PassesOwn.never rfl (di_rng1 (by rfl) T.m_range (da_cons (de_name 0) da_nil)) (dg_name (i := 2) sc37.nd) (dss_cons (ds_set (i := 3) sc37.nd (de_lst da_nil))
      (dss_cons (ds_for PassesOwn.never rfl (di_lst (de_name 1)) (dg_name (i := 4) sc37.nd) (dss_one (ds_set (i := 3) sc37.nd (de_op op_addD sn2_add (de_name 3) (DF.de (df_comp (x := "i") (i := 5) rfl sc37.nd (di_rng1 (by rfl) T.m_range (da_cons (de_op op_addD sn2_add (de_name 2) de_int) da_nil)) (by first | exact (blkOk_by (own := [("i", 5)]) (N := ["n", "found", "k", "longer", "one", "i"]) (sc := defScope s37) (by decide +kernel)) | (refine blkOk_by ?_; dsimp only [Cx.blk, Cx.nox, Cx.wish, Cx.tr, cxOf, envOfC, compEnvC, relab]; decide +kernel)) (fun _ _ _ _ _ => pg_name (i := 5) sc37.nd rfl (by first | exact Or.inl rfl | exact Or.inr rfl)) (fun _ _ _ _ _ => ⟨_, dts_nil, by first | (dsimp only [Cx.blk]; rfl) | dsimp only [Cx.blk] | rfl⟩) (fun _ _ _ _ _ => ⟨_, (de_op op_addD sn2_add (de_op op_addD sn2_add (DF.de (df_slice (de_name 4) do_none (do_some (de_name 5)))) (de_lst (da_cons (de_name 2) da_nil))) (DF.de (df_slice (de_name 4) (do_some (de_name 5)) do_none))), by first | (dsimp only [Cx.blk]; rfl) | dsimp only [Cx.blk] | rfl⟩)))))))
      (dss_one (ds_set (i := 1) sc37.nd (de_name 3))))))
      (dss_one (ds_ret (de_name 1))))), body_law_orders⟩)
/-! ### _law_sign -/
def pre_law_sign : List D → Prop := fun ds => ∃ o : List Nat, ds = [lN o] ∧ o.length ≤ 5
theorem len_law_sign (ds : List D) (h : pre_law_sign ds) : ds.length = ["order"].length := by obtain ⟨_, rfl, _⟩ := h; rfl
def post_law_sign : List D → D → Prop := fun ds r => ∃ o : List Nat, ds = [lN o] ∧ r = .int (sgn o)
theorem lN_inj {o p : List Nat} (h : lN o = lN p) : o = p := by
  have := congrArg (fun d => match d with | PyData.list l => l.map (fun d => match d with | PyData.int i => i.toNat | _ => 0) | _ => []) h
  simpa [lN, List.map_map, Function.comp_def] using this
theorem lsign_iff (o : List Nat) (ho : o.length ≤ 5) {Q : D → Prop} (h : Q (.int (sgn o))) : (pre_law_sign [lN o] ∧ ∀ r, post_law_sign [lN o] r → Q r) := ⟨⟨o, rfl, ho⟩, fun r hr => by
  obtain ⟨o', e, rfl⟩ := hr
  obtain rfl := lN_inj (List.cons.inj e).1
  exact h⟩

def w_law_sign_2 : WS := (wRet (wName 1))
def w_law_sign_1_b : WS := (wFor (wiR1 (wCons (wName 2) wNil)) (wgName 3) (wIfS (wTest (wBin dGt (wBin dIx (wName 0) (wName 3)) (wBin dIx (wName 0) (wName 2)))) (wAsg (wBin dSub (wC (.int 0)) (wName 1)) (wgName 1)) wNext))
def w_law_sign_1 : WS := wSeq (wFor (wiR1 (wCons (wB bLen (wCons (wName 0) wNil)) wNil)) (wgName 2) w_law_sign_1_b) w_law_sign_2
def w_law_sign_0 : WS := wSeq (wAsg (wC (.int 1)) (wgName 1)) w_law_sign_1

theorem body_law_sign : ∀ ds, pre_law_sign ds → w_law_sign_0 { nx := fun _ => post_law_sign ds .none, rt := post_law_sign ds } (env0 ["order", "sign", "i", "j"] ds) := by
  intro ds h
  obtain ⟨o, rfl, ho⟩ := h
  unfold w_law_sign_0
  walk_at "dl"
  unfold w_law_sign_1
  unfold lN
  walk_at "dl"
  rw [List.length_map]
  refine ⟨⟨by omega, by omega⟩, ?_⟩
  refine wForN_of (fun i ρ => ∃ s2 s3 : Slot, ρ = [.val (.list (o.map fun i => .int (i : Nat))), .val (.int ((List.range i).foldl (fun s i => sgnR o i s) 1)), s2, s3]) ⟨_, _, rfl⟩ (fun i ρ hi hI => ?_) fun ρ hI => ?_
  · obtain ⟨s2, s3, rfl⟩ := hI
    have ei : (0 : Int) + (i : Int) = (i : Nat) := by omega
    have hi : i < o.length := by omega
    rw [ei, foldl_succ]
    generalize (List.range i).foldl (fun s i => sgnR o i s) 1 = s0
    unfold w_law_sign_1_b
    walk_at "dl"
    refine ⟨⟨by omega, by omega⟩, ?_⟩
    refine wForN_of (fun j ρ => ∃ s3 : Slot, ρ = [.val (.list (o.map fun i => .int (i : Nat))), .val (.int ((List.range j).foldl (sgnI o i) s0)), .val (.int i), s3]) ⟨_, rfl⟩ (fun j ρ hj hI => ?_) fun ρ hI => ?_
    · obtain ⟨s3, rfl⟩ := hI
      have ej : (0 : Int) + (j : Int) = (j : Nat) := by omega
      have hj : j < i := by omega
      rw [ej, foldl_succ]
      generalize (List.range j).foldl (sgnI o i) s0 = s1
      walk_at "dl"
      refine dIxL rfl (lN_get (by omega)) ?_
      refine dIxL rfl (lN_get hi) ?_
      unfold sgnI
      by_cases c : o.getD i 0 < o.getD j 0
      · rw [if_pos c]
        walk_at "dl"
        rw [if_pos (by omega)]
        exact ⟨_, rfl⟩
      · rw [if_neg c]
        walk_at "dl"
        rw [if_neg (by omega)]
        exact ⟨_, rfl⟩
    · obtain ⟨s3, rfl⟩ := hI
      rw [Int.toNat_natCast]
      exact ⟨_, _, rfl⟩
  · obtain ⟨s2, s3, rfl⟩ := hI
    rw [Int.toNat_natCast]
    unfold w_law_sign_2
    walk_at "dl"
    exact ⟨o, rfl, rfl⟩

theorem ok_law_sign {P : Program} {w : World} {K : Fg} {mg : Str → Option Value} {base : Heap} {fa : Nat → Addr} {fdd : Nat → FuncData} (T : Txt K mg fa fdd) : FnOk P w K mg base CX0 1 (fa 38) (fdd 38) ["order"] (SpD K pre_law_sign post_law_sign) := by
  exact fn_ok T.F38 sc38 len_law_sign (fun cdv A outer s H E hr => ⟨_, w_law_sign_0, (dss_cons (ds_set (i := 1) sc38.nd de_int)
      (dss_cons (ds_for PassesOwn.never rfl (di_rng1 (by rfl) T.m_range (da_cons (de_callB call_len_seq snc_len (by rfl) T.m_len (by decide +kernel) (da_cons (de_name 0) da_nil)) da_nil)) (dg_name (i := 2) sc38.nd) (dss_one (ds_for PassesOwn.never rfl (di_rng1 (by rfl) T.m_range (da_cons (de_name 2) da_nil)) (dg_name (i := 3) sc38.nd) (dss_one (ds_if (dt_cmp op_gt sn2_gt (de_ix ix_D sn2_ix (de_name 0) (de_name 3)) (de_ix ix_D sn2_ix (de_name 0) (de_name 2))) (dss_one (ds_set (i := 1) sc38.nd (de_op op_sub sn2_sub de_int (de_name 1)))) dss_nil)))))
      (dss_one (ds_ret (de_name 1))))), body_law_sign⟩)
/-! ### _law_root -/
def pre_law_root : List D → Prop := fun ds => ∃ n : Int, ds = [.int n] ∧ 0 ≤ n ∧ n.natAbs < 2 ^ 1000
theorem len_law_root (ds : List D) (h : pre_law_root ds) : ds.length = ["n"].length := by obtain ⟨_, rfl, _⟩ := h; rfl
def post_law_root : List D → D → Prop := fun ds r => ∃ n : Int, ds = [.int n] ∧ r = .int (isq n.toNat : Nat)
theorem law_root_iff {n : Int} (h0 : 0 ≤ n) (h1 : n.natAbs < 2 ^ 1000) {Q : D → Prop} (h : Q (.int (isq n.toNat : Nat))) : (pre_law_root [.int n] ∧ ∀ r, post_law_root [.int n] r → Q r) := ⟨⟨n, rfl, h0, h1⟩, fun r hr => by
  obtain ⟨n', e, rfl⟩ := hr
  cases e
  exact h⟩
def mu_law_root1 (ρ : Rho) : Nat := match look ρ 0, look ρ 2 with
  | .val (.int n), .val (.int h) => (n + 1 - h).toNat
  | _, _ => 0
def mu_law_root2 (ρ : Rho) : Nat := match look ρ 1, look ρ 2 with
  | .val (.int l), .val (.int h) => (h - l).toNat
  | _, _ => 0

def w_law_root_4 : WS := (wRet (wName 1))
def w_law_root_3_b : WS := (wSeq (wAsg (wBin dDiv (wBin dAdd (wName 1) (wName 2)) (wC (.int 2))) (wgName 3))
    (wIfS (wTest (wBin dLe (wBin dMul (wName 3) (wName 3)) (wName 0))) (wAsg (wName 3) (wgName 1)) (wAsg (wName 3) (wgName 2))))
def w_law_root_3 : WS := wSeq (wWhile (wTest (wBin dGt (wBin dSub (wName 2) (wName 1)) (wC (.int 1)))) w_law_root_3_b) w_law_root_4
def w_law_root_2_b : WS := (wAsg (wBin dMul (wC (.int 2)) (wName 2)) (wgName 2))
def w_law_root_2 : WS := wSeq (wWhile (wTest (wBin dLe (wBin dMul (wName 2) (wName 2)) (wName 0))) w_law_root_2_b) w_law_root_3
def w_law_root_1 : WS := wSeq (wAsg (wC (.int 1)) (wgName 2)) w_law_root_2
def w_law_root_0 : WS := wSeq (wAsg (wC (.int 0)) (wgName 1)) w_law_root_1

set_option exponentiation.threshold 20000 in
theorem body_law_root : ∀ ds, pre_law_root ds → w_law_root_0 { nx := fun _ => post_law_root ds .none, rt := post_law_root ds } (env0 ["n", "low", "high", "middle"] ds) := by
  intro ds h
  obtain ⟨n, rfl, h0, h1⟩ := h
  unfold w_law_root_0
  walk_at "dl"
  unfold w_law_root_1
  walk_at "dl"
  unfold w_law_root_2
  walk_at "dl"
  refine ⟨fun ρ => ∃ g : Int, 1 ≤ g ∧ g ≤ 2 * n + 1 ∧ ρ = [.val (.int n), .val (.int 0), .val (.int g), .un], mu_law_root1, ⟨1, by omega, by omega, rfl⟩, ?_⟩
  rintro ρ ⟨g, g1, g2, rfl⟩
  walk_at "dl"
  have gb : g.natAbs < 2 ^ 1002 := by
    have e : (2 : Nat) ^ 1002 = 4 * 2 ^ 1000 := by rw [show 1002 = 2 + 1000 by decide, Nat.pow_add]
    omega
  refine ⟨mulOk_of gb gb (by decide) (by decide) (by decide), ?_⟩
  by_cases c : g * g ≤ n
  · rw [if_pos c]
    have gn : g ≤ n := by
      have := Int.mul_le_mul_of_nonneg_left g1 (show 0 ≤ g by omega)
      omega
    unfold w_law_root_2_b
    walk_at "dl"
    refine ⟨mulOk_of (a := 2) (b := 1002) (by decide) gb (by decide) (by decide) (by decide), ⟨2 * g, by omega, by omega, rfl⟩, ?_⟩
    simp only [mu_law_root1, look]
    omega
  · rw [if_neg c]
    unfold w_law_root_3
    walk_at "dl"
    refine ⟨fun ρ => ∃ (l k : Int) (s3 : Slot), 0 ≤ l ∧ l < k ∧ k ≤ 2 * n + 1 ∧ l * l ≤ n ∧ n < k * k ∧ ρ = [.val (.int n), .val (.int l), .val (.int k), s3], mu_law_root2, ⟨0, g, _, by omega, by omega, g2, by omega, by omega, rfl⟩, ?_⟩
    rintro ρ ⟨l, k, s3, l0, lk, k2, hl, hk, rfl⟩
    walk_at "dl"
    by_cases c2 : k - l > 1
    · rw [if_pos c2]
      unfold w_law_root_3_b
      walk_at "dl"
      have hd : (l + k).fdiv 2 = (l + k) / 2 := fdiv_pos (by decide)
      rw [hd]
      generalize he : (l + k) / 2 = e
      have kb : (2 : Nat) ^ 1002 = 4 * 2 ^ 1000 := by rw [show 1002 = 2 + 1000 by decide, Nat.pow_add]
      have eb : e.natAbs < 2 ^ 1002 := by omega
      refine ⟨⟨by decide, by decide⟩, mulOk_of eb eb (by decide) (by decide) (by decide), ?_⟩
      by_cases c3 : e * e ≤ n
      · rw [if_pos c3]
        refine ⟨⟨e, k, _, by omega, by omega, k2, c3, hk, rfl⟩, ?_⟩
        simp only [mu_law_root2, look]
        omega
      · rw [if_neg c3]
        refine ⟨⟨l, e, _, l0, by omega, by omega, hl, by omega, rfl⟩, ?_⟩
        simp only [mu_law_root2, look]
        omega
    · rw [if_neg c2]
      obtain rfl : k = l + 1 := by omega
      unfold w_law_root_4
      walk_at "dl"
      obtain ⟨x, rfl⟩ := Int.eq_ofNat_of_zero_le l0
      have hx : x = isq n.toNat := isq_uniq (by
        have : ((x * x : Nat) : Int) = (x : Int) * x := Int.natCast_mul ..
        omega) (by
        have : (((x + 1) * (x + 1) : Nat) : Int) = ((x : Int) + 1) * ((x : Int) + 1) := by push_cast; rfl
        omega)
      exact ⟨n, rfl, by rw [hx]⟩

theorem ok_law_root {P : Program} {w : World} {K : Fg} {mg : Str → Option Value} {base : Heap} {fa : Nat → Addr} {fdd : Nat → FuncData} (T : Txt K mg fa fdd) : FnOk P w K mg base CX0 1 (fa 40) (fdd 40) ["n"] (SpD K pre_law_root post_law_root) := by
  exact fn_ok T.F40 sc40 len_law_root (fun cdv A outer s H E hr => ⟨_, w_law_root_0, (dss_cons (ds_set (i := 1) sc40.nd de_int)
      (dss_cons (ds_set (i := 2) sc40.nd de_int)
      (dss_cons (ds_while PassesOwn.never (dt_cmp op_le sn2_le (de_op op_mulD sn2_mul (de_name 2) (de_name 2)) (de_name 0)) (dss_one (ds_set (i := 2) sc40.nd (de_op op_mulD sn2_mul de_int (de_name 2)))))
      (dss_cons (ds_while PassesOwn.never (dt_cmp op_gt sn2_gt (de_op op_sub sn2_sub (de_name 2) (de_name 1)) de_int) (dss_cons (ds_set (i := 3) sc40.nd (de_op op_divB sn2_div (de_op op_addD sn2_add (de_name 1) (de_name 2)) de_int))
      (dss_one (ds_if (dt_cmp op_le sn2_le (de_op op_mulD sn2_mul (de_name 3) (de_name 3)) (de_name 0)) (dss_one (ds_set (i := 1) sc40.nd (de_name 3))) (dss_one (ds_set (i := 2) sc40.nd (de_name 3)))))))
      (dss_one (ds_ret (de_name 1))))))), body_law_root⟩)
/-! ### _law_is_prime -/
def pre_law_is_prime : List D → Prop := fun ds => ∃ n : Int, ds = [.int n] ∧ n.natAbs < 2 ^ 64
theorem len_law_is_prime (ds : List D) (h : pre_law_is_prime ds) : ds.length = ["n"].length := by obtain ⟨a, rfl, _⟩ := h; rfl
def post_law_is_prime : List D → D → Prop := fun ds d => ∃ (n : Int) (b : Bool), ds = [.int n] ∧ d = .bool b ∧ (b = true ↔ Prime n)
theorem law_is_prime_iff {n : Int} {Q : D → Prop} (hl : n.natAbs < 2 ^ 64) (h : ∀ b : Bool, (b = true ↔ Prime n) → Q (.bool b)) : (pre_law_is_prime [.int n] ∧ ∀ r, post_law_is_prime [.int n] r → Q r) := ⟨⟨n, rfl, hl⟩, fun r hr => by
  obtain ⟨n', b, e, rfl, h1⟩ := hr
  cases e
  exact h b h1⟩
def mu_law_is_prime (ρ : Rho) : Nat := match look ρ 0, look ρ 1 with
  | .val (.int n), .val (.int k) => (n + 2 - k).toNat
  | _, _ => 0

def w_law_is_prime_3 : WS := (wRet (wC (.bool true)))
def w_law_is_prime_2_b : WS := (wSeq (wIfS (wTest (wBin dEq (wBin dMod (wB bInt (wCons (wName 0) wNil)) (wName 1)) (wC (.int 0)))) (wRet (wC (.bool false))) wNext)
    (wAsg (wBin dAdd (wName 1) (wC (.int 1))) (wgName 1)))
def w_law_is_prime_2 : WS := wSeq (wWhile (wTest (wBin dLe (wBin dMul (wName 1) (wName 1)) (wName 0))) w_law_is_prime_2_b) w_law_is_prime_3
def w_law_is_prime_1 : WS := wSeq (wAsg (wC (.int 2)) (wgName 1)) w_law_is_prime_2
def w_law_is_prime_0 : WS := wSeq (wIfS (wTest (wBin dLt (wName 0) (wC (.int 2)))) (wRet (wC (.bool false))) wNext) w_law_is_prime_1

theorem lpost_true {n : Int} (h : Prime n) : post_law_is_prime [.int n] (.bool true) := ⟨n, true, rfl, rfl, ⟨fun _ => h, fun _ => rfl⟩⟩
theorem lpost_false {n : Int} (h : ¬ Prime n) : post_law_is_prime [.int n] (.bool false) := ⟨n, false, rfl, rfl, ⟨(fun z => nomatch z), (fun z => absurd z h)⟩⟩
theorem lemod_dvd {a b : Int} (hb : 0 < b) : a.fmod b = 0 ↔ b ∣ a := by
  rw [Int.fmod_eq_emod_of_nonneg _ (by omega)]
  exact ⟨Int.dvd_of_emod_eq_zero, Int.emod_eq_zero_of_dvd⟩
set_option exponentiation.threshold 20000 in
theorem body_law_is_prime : ∀ ds, pre_law_is_prime ds → w_law_is_prime_0 { nx := fun _ => post_law_is_prime ds .none, rt := post_law_is_prime ds } (env0 ["n", "k"] ds) := by
  intro ds h
  obtain ⟨n, rfl, hn⟩ := h
  have p64 : (2 : Nat) ^ 64 = 18446744073709551616 := by decide
  unfold w_law_is_prime_0
  walk_at "dl"
  by_cases h2 : n < 2
  · rw [if_pos h2]
    exact lpost_false fun p => by have := p.1; omega
  · rw [if_neg h2]
    unfold w_law_is_prime_1
    walk_at "dl"
    unfold w_law_is_prime_2
    walk_at "dl"
    refine ⟨fun ρ => ∃ k : Int, 2 ≤ k ∧ k ≤ n + 1 ∧ NoDiv n k ∧ ρ = [.val (.int n), .val (.int k)], mu_law_is_prime, ⟨2, by decide, by omega, fun d d2 dl hd => by omega, rfl⟩, ?_⟩
    rintro ρ ⟨k, k2, kn, hk, rfl⟩
    walk_at "dl"
    have kb : k.natAbs < 2 ^ 65 := by
      have : (2 : Nat) ^ 65 = 36893488147419103232 := by decide
      omega
    refine ⟨mulOk_of kb kb (by decide) (by decide) (by decide), ?_⟩
    by_cases c : k * k ≤ n
    · rw [if_pos c]
      have f1 := lemod_dvd (a := n) (b := k) (by omega)
      have := Int.mul_le_mul (show 2 ≤ k by omega) (Int.le_refl k) (by omega) (by omega)
      unfold w_law_is_prime_2_b
      walk_at "dl"
      refine ⟨by omega, ?_⟩
      by_cases c1 : k ∣ n
      · rw [if_pos (f1.mpr c1)]
        exact lpost_false (notPrime (by omega) c1 (by omega))
      · rw [if_neg (fun z => c1 (f1.mp z))]
        refine ⟨⟨k + 1, by omega, by omega, fun d d2 dl hd => ?_, rfl⟩, ?_⟩
        · by_cases e : d = k
          · rw [e] at hd; exact c1 hd
          · exact hk d d2 (by omega) hd
        · simp only [mu_law_is_prime, look]
          omega
    · rw [if_neg c]
      unfold w_law_is_prime_3
      walk_at "dl"
      refine lpost_true (prime_of (by omega) hk fun d d2 dd => ?_)
      rcases Int.lt_or_le d k with z | z
      · exact z
      · have := Int.mul_le_mul z z (by omega) (by omega)
        omega

theorem ok_law_is_prime {P : Program} {w : World} {K : Fg} {mg : Str → Option Value} {base : Heap} {fa : Nat → Addr} {fdd : Nat → FuncData} (T : Txt K mg fa fdd) : FnOk P w K mg base CX0 1 (fa 42) (fdd 42) ["n"] (SpD K pre_law_is_prime post_law_is_prime) := by
  exact fn_ok T.F42 sc42 len_law_is_prime (fun cdv A outer s H E hr => ⟨_, w_law_is_prime_0, (dss_cons (ds_if (dt_cmp op_lt sn2_lt (de_name 0) de_int) (dss_one (ds_ret de_bl)) dss_nil)
      (dss_cons (ds_set (i := 1) sc42.nd de_int)
      (dss_cons (ds_while PassesOwn.never (dt_cmp op_le sn2_le (de_op op_mulD sn2_mul (de_name 1) (de_name 1)) (de_name 0)) (dss_cons (ds_if (dt_cmp (op_eqP hr.units) sn2_eq (de_op op_modN sn2_mod (de_callTy call_int1 snc_int (by rfl) T.m_int (by decide +kernel) (da_cons (de_name 0) da_nil)) (de_name 1)) de_int) (dss_one (ds_ret de_bl)) dss_nil)
      (dss_one (ds_set (i := 1) sc42.nd (de_op op_addD sn2_add (de_name 1) de_int)))))
      (dss_one (ds_ret de_bl))))), body_law_is_prime⟩)
/-! ### is_prime -/
def pre_is_prime : List D → Prop := fun ds => ∃ n : Int, ds = [.int n] ∧ n < 2 ^ 64
theorem len_is_prime (ds : List D) (h : pre_is_prime ds) : ds.length = ["n"].length := by obtain ⟨a, rfl, _⟩ := h; rfl
def post_is_prime : List D → D → Prop := fun ds d => ∃ (n : Int) (b : Bool), ds = [.int n] ∧ d = .bool b ∧ (b = true ↔ Prime n)
theorem lt64 {n : Int} (h : n.natAbs < 2 ^ 64) : n < 2 ^ 64 := by
  have e : (2 : Nat) ^ 64 = 18446744073709551616 := by decide
  have e2 : (2 : Int) ^ 64 = 18446744073709551616 := by decide
  omega
theorem is_prime_iff' {n : Int} {Q : D → Prop} (hl : n < 2 ^ 64) (h : ∀ b : Bool, (b = true ↔ Prime n) → Q (.bool b)) : (pre_is_prime [.int n] ∧ ∀ r, post_is_prime [.int n] r → Q r) := ⟨⟨n, rfl, hl⟩, fun r hr => by
  obtain ⟨n', b, e, rfl, h1⟩ := hr
  cases e
  exact h b h1⟩
theorem is_prime_iff {n : Int} {Q : D → Prop} (hl : n.natAbs < 2 ^ 64) (h : ∀ b : Bool, (b = true ↔ Prime n) → Q (.bool b)) : (pre_is_prime [.int n] ∧ ∀ r, post_is_prime [.int n] r → Q r) := ⟨⟨n, rfl, lt64 hl⟩, fun r hr => by
  obtain ⟨n', b, e, rfl, h1⟩ := hr
  cases e
  exact h b h1⟩

def w_is_prime_3 : WS := (wRet (wC (.bool true)))
def w_is_prime_2_b : WS := (wIfS (wOr (wTest (wBin dEq (wBin dMod (wName 0) (wName 1)) (wC (.int 0)))) (wTest (wBin dEq (wBin dMod (wName 0) (wBin dAdd (wName 1) (wC (.int 2)))) (wC (.int 0))))) (wRet (wC (.bool false))) wNext)
def w_is_prime_2 : WS := wSeq (wFor (wiR3 (wCons (wC (.int 5)) (wCons (wBin dAdd (wCall pre_root post_root (wCons (wName 0) wNil)) (wC (.int 1))) (wCons (wC (.int 6)) wNil)))) (wgName 1) w_is_prime_2_b) w_is_prime_3
def w_is_prime_1 : WS := wSeq (wIfS (wOr (wTest (wBin dEq (wBin dMod (wName 0) (wC (.int 2))) (wC (.int 0)))) (wTest (wBin dEq (wBin dMod (wName 0) (wC (.int 3))) (wC (.int 0))))) (wRet (wC (.bool false))) wNext) w_is_prime_2
def w_is_prime_0 : WS := wSeq (wIfS (wTest (wBin dLt (wName 0) (wC (.int 4)))) (wRet (wBin dGt (wName 0) (wC (.int 1)))) wNext) w_is_prime_1

theorem post_true {n : Int} (h : Prime n) : post_is_prime [.int n] (.bool true) := ⟨n, true, rfl, rfl, ⟨fun _ => h, fun _ => rfl⟩⟩
theorem post_false {n : Int} (h : ¬ Prime n) : post_is_prime [.int n] (.bool false) := ⟨n, false, rfl, rfl, ⟨(fun z => nomatch z), (fun z => absurd z h)⟩⟩
theorem emod_dvd {a b : Int} (hb : 0 < b) : a.fmod b = 0 ↔ b ∣ a := by
  rw [Int.fmod_eq_emod_of_nonneg _ (by omega)]
  exact ⟨Int.dvd_of_emod_eq_zero, Int.emod_eq_zero_of_dvd⟩
set_option exponentiation.threshold 20000 in
theorem body_is_prime : ∀ ds, pre_is_prime ds → w_is_prime_0 { nx := fun _ => post_is_prime ds .none, rt := post_is_prime ds } (env0 ["n", "k"] ds) := by
  intro ds h
  obtain ⟨n, rfl, hn'⟩ := h
  have p64 : (2 : Nat) ^ 64 = 18446744073709551616 := by decide
  have p65 : (2 : Int) ^ 64 = 18446744073709551616 := by decide
  unfold w_is_prime_0
  walk_at "dl"
  by_cases h4 : n < 4
  · rw [if_pos h4]
    exact ⟨n, _, rfl, rfl, by rw [decide_eq_true_eq, prime_small h4]⟩
  · rw [if_neg h4]
    have hn : n.natAbs < 2 ^ 64 := by omega
    unfold w_is_prime_1
    walk_at "dl"
    refine ⟨by decide, ?_⟩
    have e2 := emod_dvd (a := n) (b := 2) (by decide)
    by_cases h2 : (2 : Int) ∣ n
    · rw [if_pos (e2.mpr h2)]
      exact post_false (notPrime (by decide) h2 (by omega))
    · rw [if_neg (fun z => h2 (e2.mp z))]
      refine ⟨by decide, ?_⟩
      have e3 := emod_dvd (a := n) (b := 3) (by decide)
      by_cases h3 : (3 : Int) ∣ n
      · rw [if_pos (e3.mpr h3)]
        exact post_false (notPrime (by decide) h3 (by omega))
      · rw [if_neg (fun z => h3 (e3.mp z))]
        unfold w_is_prime_2
        walk_at "dl"
        have up : (2 : Nat) ^ 64 ≤ 2 ^ 12000 := Nat.pow_le_pow_right (by decide) (by decide)
        refine root_iff (by omega) (Nat.lt_of_lt_of_le hn up) fun r hr1 hr2 => ?_
        have rb : r < 4294967296 := by
          rcases Nat.lt_or_ge r 4294967296 with z | z
          · exact z
          · have := Nat.mul_le_mul z z
            omega
        refine ⟨⟨by decide, by decide⟩, ⟨by omega, by omega⟩, by decide, by decide, ?_⟩
        have r5 : ∀ k : Int, k ≤ (r : Int) → 0 ≤ k → k * k ≤ n := fun k hk h0 => by
          have := Int.mul_le_mul hk hk h0 (by omega)
          rw [Int.natCast_mul] at hr1
          omega
        refine wForC_of (fun i ρ => ∃ x, NoDiv n (5 + (i : Int) * 6) ∧ ρ = [.val (.int n), x]) ⟨.un, fun d d2 dl hd => ?_, rfl⟩ (fun i ρ hi hI => ?_) fun ρ hI => ?_
        · have : d = 2 ∨ d = 3 ∨ d = 4 := by omega
          rcases this with e | e | e <;> subst e
          · exact h2 hd
          · exact h3 hd
          · exact h2 (Int.dvd_trans ⟨2, rfl⟩ hd)
        · obtain ⟨x, hI, rfl⟩ := hI
          unfold stepN at hi
          have hk : 5 + (i : Int) * 6 ≤ r := by omega
          walk_at "dl"
          unfold w_is_prime_2_b
          walk_at "dl"
          refine ⟨by omega, ?_⟩
          have f1 := emod_dvd (a := n) (b := 5 + (i : Int) * 6) (by omega)
          have kk := r5 _ hk (by omega)
          by_cases c1 : (5 + (i : Int) * 6) ∣ n
          · rw [if_pos (f1.mpr c1)]
            have := Int.mul_le_mul (show 2 ≤ 5 + (i : Int) * 6 by omega) (Int.le_refl (5 + (i : Int) * 6)) (by omega) (by omega)
            exact post_false (notPrime (by omega) c1 (by omega))
          · rw [if_neg (fun z => c1 (f1.mp z))]
            refine ⟨by omega, ?_⟩
            have f2 := emod_dvd (a := n) (b := 5 + (i : Int) * 6 + 2) (by omega)
            by_cases c2 : (5 + (i : Int) * 6 + 2) ∣ n
            · rw [if_pos (f2.mpr c2)]
              have := Int.mul_le_mul (show 5 ≤ 5 + (i : Int) * 6 by omega) (Int.le_refl (5 + (i : Int) * 6)) (by omega) (by omega)
              exact post_false (notPrime (by omega) c2 (by omega))
            · rw [if_neg (fun z => c2 (f2.mp z))]
              refine ⟨_, ?_, rfl⟩
              have := noDiv_six h2 h3 hI ⟨i, by omega⟩ c1 c2
              rwa [show 5 + ((i + 1 : Nat) : Int) * 6 = 5 + (i : Int) * 6 + 6 by omega]
        · obtain ⟨x, hI, rfl⟩ := hI
          unfold w_is_prime_3
          walk_at "dl"
          refine post_true (prime_of (by omega) hI fun d d2 dd => ?_)
          have : d ≤ r := by
            rcases Int.lt_or_le (r : Int) d with z | z
            · have := Int.mul_le_mul (show (r : Int) + 1 ≤ d by omega) (show (r : Int) + 1 ≤ d by omega) (by omega) (by omega)
              have e : (((r + 1) * (r + 1) : Nat) : Int) = ((r : Int) + 1) * ((r : Int) + 1) := by rw [Int.natCast_mul, Int.natCast_add]; rfl
              omega
            · exact z
          unfold stepN
          omega

theorem ok_is_prime {P : Program} {w : World} {K : Fg} {mg : Str → Option Value} {base : Heap} {fa : Nat → Addr} {fdd : Nat → FuncData} (T : Txt K mg fa fdd) : FnOk P w K mg base CX0 2 (fa 0) (fdd 0) ["n"] (SpD K pre_is_prime post_is_prime) := by
  have G2 : FnOk P w K mg base CX0 1 (fa 2) (fdd 2) ["n"] (SpD K pre_root post_root) := ok_root T
  exact fn_ok T.F0 sc0 len_is_prime (fun cdv A outer s H E hr => ⟨_, w_is_prime_0, (dss_cons (ds_if (dt_cmp op_lt sn2_lt (de_name 0) de_int) (dss_one (ds_ret (de_cmp op_gt sn2_gt (de_name 0) de_int))) dss_nil)
      (dss_cons (ds_if (DW.dt (dw_or (dt_cmp (op_eqP hr.units) sn2_eq (de_op op_modN sn2_mod (de_name 0) de_int) de_int) (dw_or1 (dt_cmp (op_eqP hr.units) sn2_eq (de_op op_modN sn2_mod (de_name 0) de_int) de_int)))) (dss_one (ds_ret de_bl)) dss_nil)
      (dss_cons (ds_for PassesOwn.never rfl (di_rng3 (by rfl) T.m_range (da_cons de_int (da_cons (de_op op_addD sn2_add (de_call G2 hr (by rfl) T.g2 T.F2.kp T.b2 pass0 (da_cons (de_name 0) da_nil)) de_int) (da_cons de_int da_nil)))) (dg_name (i := 1) sc0.nd) (dss_one (ds_if (DW.dt (dw_or (dt_cmp (op_eqP hr.units) sn2_eq (de_op op_modN sn2_mod (de_name 0) (de_name 1)) de_int) (dw_or1 (dt_cmp (op_eqP hr.units) sn2_eq (de_op op_modN sn2_mod (de_name 0) (de_op op_addD sn2_add (de_name 1) de_int)) de_int)))) (dss_one (ds_ret de_bl)) dss_nil)))
      (dss_one (ds_ret de_bl))))), body_is_prime⟩)
/-! ### product_of_roots -/
def pre_product_of_roots : List D → Prop := fun ds => ∃ (n : Nat) (A : Nat → Nat → Int) (more : Int), ds = [.tuple (ZR n A), .int more] ∧ BdOk n A ∧ 0 ≤ more ∧ more ≤ 2
theorem len_product_of_roots (ds : List D) (h : pre_product_of_roots ds) : ds.length = ["rows", "more"].length := by obtain ⟨_, _, _, rfl, _⟩ := h; rfl
def post_product_of_roots : List D → D → Prop := fun ds r => ∃ (n : Nat) (A : Nat → Nat → Int) (more : Int), ds = [.tuple (ZR n A), .int more] ∧ r = .int (bnd n A more n)
theorem product_of_roots_iff (n : Nat) (A : Nat → Nat → Int) (more : Int) (h0 : BdOk n A) (m0 : 0 ≤ more) (m2 : more ≤ 2) {Q : D → Prop} (h : Q (.int (bnd n A more n))) : (pre_product_of_roots [.tuple (ZR n A), .int more] ∧ ∀ r, post_product_of_roots [.tuple (ZR n A), .int more] r → Q r) := ⟨⟨n, A, more, rfl, h0, m0, m2⟩, fun r hr => by
  obtain ⟨n', A', more', e, rfl⟩ := hr
  simp only [List.cons.injEq, PyData.int.injEq, and_true] at e
  obtain ⟨rfl, hA⟩ := tupsZ_inj e.1
  obtain rfl := e.2
  rw [← bnd_congr hA]
  exact h⟩

def w_product_of_roots_2 : WS := (wRet (wName 2))
def w_product_of_roots_1_b : WS := (wAug 2 dMulI (wBin dAdd (wCall pre_root post_root (wCons (wCall pre_product_of_rows post_product_of_rows (wCons (wName 3) (wCons (wName 3) wNil))) wNil)) (wName 1)))
def w_product_of_roots_1 : WS := wSeq (wFor (wiTup (wName 0)) (wgName 3) w_product_of_roots_1_b) w_product_of_roots_2
def w_product_of_roots_0 : WS := wSeq (wAsg (wC (.int 1)) (wgName 2)) w_product_of_roots_1

set_option exponentiation.threshold 20000 in
theorem body_product_of_roots : ∀ ds, pre_product_of_roots ds → w_product_of_roots_0 { nx := fun _ => post_product_of_roots ds .none, rt := post_product_of_roots ds } (env0 ["rows", "more", "out", "row"] ds) := by
  intro ds h
  obtain ⟨n, A, more, rfl, h0, m0, m2⟩ := h
  have n8 := h0.1
  unfold w_product_of_roots_0
  walk_at "dl"
  unfold w_product_of_roots_1
  walk_at "dl"
  refine wForD_of (fun k ρ => ∃ s3 : Slot, ρ = [.val (.tuple (ZR n A)), .val (.int more), .val (.int (bnd n A more k)), s3])
    ⟨_, rfl⟩ (fun k x ρ hx hI => ?_) fun ρ hI => ?_
  · obtain ⟨s3, rfl⟩ := hI
    obtain ⟨hk, rfl⟩ := ZR_at hx
    unfold w_product_of_roots_1_b
    walk_at "dl"
    refine product_of_rows_iff (irw n (A k)) (by simp [irw]; omega) (fun x hx => ?_) ?_
    · obtain ⟨j, rfl⟩ := irw_mem hx
      exact h0.2 k j
    rw [irw_sq]
    have q0 := sqs_nn n (A k)
    refine root_iff q0 (Nat.lt_of_lt_of_le (sqs_lt h0.1 (h0.2 k)) (Nat.pow_le_pow_right (by decide) (by decide))) fun x g1 g2 => ?_
    obtain rfl : x = isq (sqs n (A k)).toNat := isq_uniq (by omega) (by omega)
    have hb := bndF_lt h0 m0 m2 k
    have hB := bnd_lt h0 m0 m2 k
    refine ⟨mulOk_of (a := 4000) (b := 411) (Nat.lt_of_le_of_lt hB (Nat.pow_lt_pow_right (by decide) (by omega))) hb.2 (by decide) (by decide) (by decide), .val (.tuple ((irw n (A k)).map .int)), ?_⟩
    rw [bnd_succ]
    rfl
  · obtain ⟨s3, rfl⟩ := hI
    unfold w_product_of_roots_2
    walk_at "dl"
    rw [ZR_len]
    exact ⟨n, A, more, rfl, rfl⟩

theorem ok_product_of_roots {P : Program} {w : World} {K : Fg} {mg : Str → Option Value} {base : Heap} {fa : Nat → Addr} {fdd : Nat → FuncData} (T : Txt K mg fa fdd) : FnOk P w K mg base CX0 2 (fa 5) (fdd 5) ["rows", "more"] (SpD K pre_product_of_roots post_product_of_roots) := by
  have G2 : FnOk P w K mg base CX0 1 (fa 2) (fdd 2) ["n"] (SpD K pre_root post_root) := ok_root T
  have G4 : FnOk P w K mg base CX0 1 (fa 4) (fdd 4) ["u", "v"] (SpD K pre_product_of_rows post_product_of_rows) := ok_product_of_rows T
  exact fn_ok T.F5 sc5 len_product_of_roots (fun cdv A outer s H E hr => ⟨_, w_product_of_roots_0, (dss_cons (ds_set (i := 2) sc5.nd de_int)
      (dss_cons (ds_for PassesOwn.never rfl (di_tup (de_name 0)) (dg_name (i := 3) sc5.nd) (dss_one (ds_aug (i := 2) sc5.nd ip_mulD sn2_mulI (de_op op_addD sn2_add (de_call G2 hr (by rfl) T.g2 T.F2.kp T.b2 pass0 (da_cons (de_call G4 hr (by rfl) T.g4 T.F4.kp T.b4 pass0 (da_cons (de_name 3) (da_cons (de_name 3) da_nil))) da_nil)) (de_name 1)))))
      (dss_one (ds_ret (de_name 2))))), body_product_of_roots⟩)
/-! ### _law_fraction -/
def pre_law_fraction : List D → Prop := fun ds => ∃ n d : Int, ds = [.int n, .int d] ∧ d ≠ 0 ∧ d.natAbs < 2 ^ 8000
theorem len_law_fraction (ds : List D) (h : pre_law_fraction ds) : ds.length = ["n", "m"].length := by obtain ⟨a, b, rfl, _⟩ := h; rfl
def post_law_fraction : List D → D → Prop := fun ds r => ∃ n d a b : Int, ds = [.int n, .int d] ∧ r = .tuple [.int a, .int b] ∧ Frac n d a b
theorem lfraction_iff {n d : Int} {Q : D → Prop} (hd : d ≠ 0) (hl : d.natAbs < 2 ^ 8000) (h : ∀ a b : Int, Frac n d a b → Q (.tuple [.int a, .int b])) : (pre_law_fraction [.int n, .int d] ∧ ∀ r, post_law_fraction [.int n, .int d] r → Q r) := ⟨⟨n, d, rfl, hd, hl⟩, fun r hr => by
  obtain ⟨n', d', a, b, e, rfl, hF⟩ := hr
  cases e
  exact h a b hF⟩

def w_law_fraction_2 : WS := (wRet (wTup (wCons (wBin dDiv (wName 0) (wName 2)) (wCons (wBin dDiv (wName 1) (wName 2)) wNil))))
def w_law_fraction_1 : WS := wSeq (wIfS (wTest (wBin dLt (wName 1) (wC (.int 0)))) (wAsg (wBin dSub (wC (.int 0)) (wName 2)) (wgName 2)) wNext) w_law_fraction_2
def w_law_fraction_0 : WS := wSeq (wAsg (wCall pre_law_common post_law_common (wCons (wName 0) (wCons (wName 1) wNil))) (wgName 2)) w_law_fraction_1

set_option exponentiation.threshold 20000 in
theorem body_law_fraction : ∀ ds, pre_law_fraction ds → w_law_fraction_0 { nx := fun _ => post_law_fraction ds .none, rt := post_law_fraction ds } (env0 ["n", "m", "g"] ds) := by
  intro ds h
  obtain ⟨n, d, rfl, hd, hl⟩ := h
  unfold w_law_fraction_0
  walk_at "dl"
  refine lcommon_iff ?_
  obtain ⟨hF, hg0, hgl⟩ := Frac.make (n := n) (d := d) hd rfl
  generalize ((Nat.gcd n.natAbs d.natAbs : Nat) : Int) = g at hF hg0 hgl ⊢
  unfold w_law_fraction_1 w_law_fraction_2
  walk_at "dl"
  split
  · next hlt =>
    rw [if_pos hlt] at hF
    have dv : divOk (-g) := divOk_of (b := 8001) (by omega) (lt_pow_of hl (by omega) (by decide)) (by decide) (by decide)
    rw [Int.zero_sub]
    exact ⟨dv, dv, n, d, _, _, rfl, rfl, hF⟩
  · next hlt =>
    rw [if_neg hlt] at hF
    have dv : divOk g := divOk_of (b := 8001) hg0 (lt_pow_of hl (by omega) (by decide)) (by decide) (by decide)
    exact ⟨dv, dv, n, d, _, _, rfl, rfl, hF⟩

theorem ok_law_fraction {P : Program} {w : World} {K : Fg} {mg : Str → Option Value} {base : Heap} {fa : Nat → Addr} {fdd : Nat → FuncData} (T : Txt K mg fa fdd) : FnOk P w K mg base CX0 2 (fa 14) (fdd 14) ["n", "m"] (SpD K pre_law_fraction post_law_fraction) := by
  have G13 : FnOk P w K mg base CX0 1 (fa 13) (fdd 13) ["a", "b"] (SpD K pre_law_common post_law_common) := ok_law_common T
  exact fn_ok T.F14 sc14 len_law_fraction (fun cdv A outer s H E hr => ⟨_, w_law_fraction_0, (dss_cons (ds_set (i := 2) sc14.nd (de_call G13 hr (by rfl) T.g13 T.F13.kp T.b13 pass0 (da_cons (de_name 0) (da_cons (de_name 1) da_nil))))
      (dss_cons (ds_if (dt_cmp op_lt sn2_lt (de_name 1) de_int) (dss_one (ds_set (i := 2) sc14.nd (de_op op_sub sn2_sub de_int (de_name 2)))) dss_nil)
      (dss_one (ds_ret (de_tup (da_cons (de_op op_divB sn2_div (de_name 0) (de_name 2)) (da_cons (de_op op_divB sn2_div (de_name 1) (de_name 2)) da_nil))))))), body_law_fraction⟩)
/-! ### _law_strip -/
def pre_law_strip : List D → Prop := fun ds => ∃ (f : Fld) (l : List f.C), ds = [f.enc, .list (l.map f.el)] ∧ l.length ≤ 100000
theorem len_law_strip (ds : List D) (h : pre_law_strip ds) : ds.length = ["f", "parts"].length := by obtain ⟨_, _, rfl, _⟩ := h; rfl
def post_law_strip : List D → D → Prop := fun ds r => ∀ (f : Fld) (l : List f.C), ds = [f.enc, .list (l.map f.el)] → r = (Dom.P f).el (Pol.of l)
theorem lstrip_iff (f : Fld) (l : List f.C) (hl : l.length ≤ 100000) {Q : D → Prop} (h : Q ((Dom.P f).el (Pol.of l))) : (pre_law_strip [f.enc, .list (l.map f.el)] ∧ ∀ r, post_law_strip [f.enc, .list (l.map f.el)] r → Q r) := ⟨⟨f, l, rfl, hl⟩, fun r hr => by
  rw [hr f l rfl]
  exact h⟩
def mu_law_strip (ρ : Rho) : Nat := match look ρ 2 with
  | .val (.int k) => k.toNat
  | _ => 0

def w_law_strip_2 : WS := (wRet (wB bTuple (wCons (wFree (wSlL (wName 1) wNoPart (wPart (wName 2)))) wNil)))
def w_law_strip_1_b : WS := (wAsg (wBin dSub (wName 2) (wC (.int 1))) (wgName 2))
def w_law_strip_1 : WS := wSeq (wWhile (wAnd (wTest (wBin dGt (wName 2) (wC (.int 0)))) (wTest (wBin dEq (wBin dIx (wName 1) (wBin dSub (wName 2) (wC (.int 1)))) (wCall pre_law_zero post_law_zero (wCons (wName 0) wNil))))) w_law_strip_1_b) w_law_strip_2
def w_law_strip_0 : WS := wSeq (wAsg (wB bLen (wCons (wName 1) wNil)) (wgName 2)) w_law_strip_1

theorem body_law_strip : ∀ ds, pre_law_strip ds → w_law_strip_0 { nx := fun _ => post_law_strip ds .none, rt := post_law_strip ds } (env0 ["f", "parts", "many"] ds) := by
  intro ds h
  obtain ⟨f, l, rfl, hl⟩ := h
  have fin : ∀ r, r = .tuple ((trim l).map f.el) → post_law_strip [f.enc, .list (l.map f.el)] r := fun r hr f' l' e => by
    simp only [List.cons.injEq, PyData.list.injEq, and_true] at e
    have e1 := Fld.enc_inj e.1
    subst e1
    have e2 := Fld.els_inj e.2
    subst e2
    exact hr
  unfold w_law_strip_0 w_law_strip_1
  walk_at "dl"
  rw [List.length_map]
  refine ⟨fun ρ => ∃ m : Nat, m ≤ l.length ∧ trim l = trim (l.take m) ∧ ρ = [.val f.enc, .val (.list (l.map f.el)), .val (.int m)], mu_law_strip, ⟨l.length, Nat.le_refl _, by rw [List.take_length], rfl⟩, ?_⟩
  rintro ρ ⟨m, hm, ht, rfl⟩
  walk_at "dl"
  have done : trim (l.take m) = l.take m → w_law_strip_2 { nx := fun _ => post_law_strip [f.enc, .list (l.map f.el)] .none, rt := post_law_strip [f.enc, .list (l.map f.el)] } [.val f.enc, .val (.list (l.map f.el)), .val (.int m)] := fun hd => by
    unfold w_law_strip_2
    walk_at "dl"
    rw [cutD_pre (by rw [List.length_map]; exact hm), ← List.map_take]
    exact fin _ (by rw [ht, hd])
  by_cases c : (0 : Int) < m
  · rw [if_pos c]
    obtain ⟨k, rfl⟩ : ∃ k, m = k + 1 := ⟨m - 1, by omega⟩
    have hk : k < l.length := by omega
    refine dIx_mem (by omega) (by rw [List.length_map]; omega) fun d hd => ?_
    have e : d = f.el (cf l k) := by
      rw [show (((k + 1 : Nat) : Int) - 1).toNat = k by omega, List.getElem?_map, List.getElem?_eq_getElem hk] at hd
      simp only [Option.map_some, Option.some.injEq] at hd
      rw [← hd, cf, List.getD_eq_getElem?_getD, List.getElem?_eq_getElem hk]
      rfl
    subst e
    refine lzero_iff_f f ?_
    rw [dEq_fel]
    walk_at "dl"
    split
    · next hz =>
      unfold w_law_strip_1_b
      walk_at "dl"
      refine ⟨⟨k, by omega, ht.trans (trim_take hz), by rw [show ((k + 1 : Nat) : Int) - 1 = (k : Nat) by omega]⟩, ?_⟩
      simp only [mu_law_strip, look]
      omega
    · next hz =>
      refine done (trim_full _ fun _ => ?_)
      rw [cf_take, List.length_take, Nat.min_eq_left hm, if_pos (by omega)]
      exact hz
  · rw [if_neg c]
    refine done ?_
    have : m = 0 := by omega
    subst this
    rfl

theorem ok_law_strip {P : Program} {w : World} {K : Fg} {mg : Str → Option Value} {base : Heap} {fa : Nat → Addr} {fdd : Nat → FuncData} (T : Txt K mg fa fdd) : FnOk P w K mg base CX0 2 (fa 16) (fdd 16) ["f", "parts"] (SpD K pre_law_strip post_law_strip) := by
  have G15 : FnOk P w K mg base CX0 1 (fa 15) (fdd 15) ["d"] (SpD K pre_law_zero post_law_zero) := ok_law_zero T
  exact fn_ok T.F16 sc16 len_law_strip (fun cdv A outer s H E hr => ⟨_, w_law_strip_0, (dss_cons (ds_set (i := 2) sc16.nd (de_callB call_len_seq snc_len (by rfl) T.m_len (by decide +kernel) (da_cons (de_name 1) da_nil)))
      (dss_cons (ds_while PassesOwn.never (DW.dt (dw_and (dt_cmp op_gt sn2_gt (de_name 2) de_int) (dw_and1 (dt_cmp (op_eqP hr.units) sn2_eq (de_ix ix_D sn2_ix (de_name 1) (de_op op_sub sn2_sub (de_name 2) de_int)) (de_call G15 hr (by rfl) T.g15 T.F15.kp T.b15 pass0 (da_cons (de_name 0) da_nil)))))) (dss_one (ds_set (i := 2) sc16.nd (de_op op_sub sn2_sub (de_name 2) de_int))))
      (dss_one (ds_ret (de_callTy call_tuple_of snc_tuple (by rfl) T.m_tuple (by decide +kernel) (da_cons (DF.de (df_slice (de_name 1) do_none (do_some (de_name 2)))) da_nil)))))), body_law_strip⟩)
/-! ### _law_part -/
def pre_law_part : List D → Prop := fun ds => ∃ (f : Fld) (l : List f.C) (k : Nat), ds = [f.enc, .tuple (l.map f.el), .int k]
theorem len_law_part (ds : List D) (h : pre_law_part ds) : ds.length = ["d", "x", "k"].length := by obtain ⟨_, _, _, rfl⟩ := h; rfl
def post_law_part : List D → D → Prop := fun ds r => ∀ (f : Fld) (l : List f.C) (k : Nat), ds = [f.enc, .tuple (l.map f.el), .int k] → r = f.el (cf l k)
theorem lpart_iff (f : Fld) (l : List f.C) (k : Nat) {Q : D → Prop} (h : Q (f.el (cf l k))) : (pre_law_part [f.enc, .tuple (l.map f.el), .int k] ∧ ∀ r, post_law_part [f.enc, .tuple (l.map f.el), .int k] r → Q r) := ⟨⟨f, l, k, rfl⟩, fun r hr => by
  rw [hr f l k rfl]
  exact h⟩

def w_law_part_1 : WS := (wRet (wCall pre_law_zero post_law_zero (wCons (wName 0) wNil)))
def w_law_part_0 : WS := wSeq (wIfS (wTest (wBin dLt (wName 2) (wB bLen (wCons (wName 1) wNil)))) (wRet (wBin dIx (wName 1) (wName 2))) wNext) w_law_part_1

theorem body_law_part : ∀ ds, pre_law_part ds → w_law_part_0 { nx := fun _ => post_law_part ds .none, rt := post_law_part ds } (env0 ["d", "x", "k"] ds) := by
  intro ds h
  obtain ⟨f, l, k, rfl⟩ := h
  have fin : ∀ r, r = f.el (cf l k) → post_law_part [f.enc, .tuple (l.map f.el), .int k] r := fun r hr f' l' k' e => by
    obtain ⟨rfl, rfl, rfl⟩ := part_inj e
    exact hr
  unfold w_law_part_0 w_law_part_1
  walk_at "dl"
  rw [List.length_map]
  by_cases c : k < l.length
  · rw [if_pos (by omega)]
    refine dIx_memT (by omega) (by rw [List.length_map]; omega) fun d hd => fin d ?_
    simp only [Int.toNat_natCast, List.getElem?_map, List.getElem?_eq_getElem c, Option.map_some, Option.some.injEq] at hd
    rw [← hd, cf, List.getD_eq_getElem?_getD, List.getElem?_eq_getElem c]
    rfl
  · rw [if_neg (by omega)]
    refine lzero_iff_f f (fin _ ?_)
    rw [cf, List.getD_eq_getElem?_getD, List.getElem?_eq_none (by omega)]
    rfl

theorem ok_law_part {P : Program} {w : World} {K : Fg} {mg : Str → Option Value} {base : Heap} {fa : Nat → Addr} {fdd : Nat → FuncData} (T : Txt K mg fa fdd) : FnOk P w K mg base CX0 2 (fa 18) (fdd 18) ["d", "x", "k"] (SpD K pre_law_part post_law_part) := by
  have G15 : FnOk P w K mg base CX0 1 (fa 15) (fdd 15) ["d"] (SpD K pre_law_zero post_law_zero) := ok_law_zero T
  exact fn_ok T.F18 sc18 len_law_part (fun cdv A outer s H E hr => ⟨_, w_law_part_0, (dss_cons (ds_if (dt_cmp op_lt sn2_lt (de_name 2) (de_callB call_len_seq snc_len (by rfl) T.m_len (by decide +kernel) (da_cons (de_name 1) da_nil))) (dss_one (ds_ret (de_ix ix_D sn2_ix (de_name 1) (de_name 2)))) dss_nil)
      (dss_one (ds_ret (de_call G15 hr (by rfl) T.g15 T.F15.kp T.b15 pass0 (da_cons (de_name 0) da_nil))))), body_law_part⟩)
/-! ### _law_bound -/
def pre_law_bound : List D → Prop := fun ds => ∃ (n : Nat) (A : Nat → Nat → Int) (more : Int), ds = [.tuple (ZR n A), .int more] ∧ BdOk n A ∧ 0 ≤ more ∧ more ≤ 2
theorem len_law_bound (ds : List D) (h : pre_law_bound ds) : ds.length = ["rows", "more"].length := by obtain ⟨_, _, _, rfl, _⟩ := h; rfl
def post_law_bound : List D → D → Prop := fun ds r => ∃ (n : Nat) (A : Nat → Nat → Int) (more : Int), ds = [.tuple (ZR n A), .int more] ∧ r = .int (bnd n A more n)
theorem law_bound_iff (n : Nat) (A : Nat → Nat → Int) (more : Int) (h0 : BdOk n A) (m0 : 0 ≤ more) (m2 : more ≤ 2) {Q : D → Prop} (h : Q (.int (bnd n A more n))) : (pre_law_bound [.tuple (ZR n A), .int more] ∧ ∀ r, post_law_bound [.tuple (ZR n A), .int more] r → Q r) := ⟨⟨n, A, more, rfl, h0, m0, m2⟩, fun r hr => by
  obtain ⟨n', A', more', e, rfl⟩ := hr
  simp only [List.cons.injEq, PyData.int.injEq, and_true] at e
  obtain ⟨rfl, hA⟩ := tupsZ_inj e.1
  obtain rfl := e.2
  rw [← bnd_congr hA]
  exact h⟩

def w_law_bound_2 : WS := (wRet (wName 2))
def w_law_bound_1_b : WS := (wAsg (wBin dMul (wName 2) (wBin dAdd (wCall pre_law_root post_law_root (wCons (wB bSum (wCons (wFree (wComp (wiTup (wName 3)) 4 wYes (wBin dMul (wName 4) (wName 4)))) wNil)) wNil)) (wName 1))) (wgName 2))
def w_law_bound_1 : WS := wSeq (wFor (wiTup (wName 0)) (wgName 3) w_law_bound_1_b) w_law_bound_2
def w_law_bound_0 : WS := wSeq (wAsg (wC (.int 1)) (wgName 2)) w_law_bound_1

set_option exponentiation.threshold 20000 in
theorem body_law_bound : ∀ ds, pre_law_bound ds → w_law_bound_0 { nx := fun _ => post_law_bound ds .none, rt := post_law_bound ds } (env0 ["rows", "more", "total", "row", "x"] ds) := by
  intro ds h
  obtain ⟨n, A, more, rfl, h0, m0, m2⟩ := h
  have n8 := h0.1
  unfold w_law_bound_0
  walk_at "dl"
  unfold w_law_bound_1
  walk_at "dl"
  refine wForD_of (fun k ρ => ∃ s3 s4 : Slot, ρ = [.val (.tuple (ZR n A)), .val (.int more), .val (.int (bnd n A more k)), s3, s4])
    ⟨_, _, rfl⟩ (fun k x ρ hx hI => ?_) fun ρ hI => ?_
  · obtain ⟨s3, s4, rfl⟩ := hI
    obtain ⟨hk, rfl⟩ := ZR_at hx
    unfold w_law_bound_1_b
    walk_at "dl"
    refine wCompL_of (es := ((irw n (A k)).map fun x => x * x).map .int) (by simp) (by simp [irw]; omega) (fun j x y Q hx hy hQ => ?_) ?_
    · rw [List.getElem?_map] at hx
      rw [List.map_map, List.getElem?_map] at hy
      cases e : (irw n (A k))[j]? with
      | none => rw [e] at hx; cases hx
      | some z =>
        rw [e] at hx hy
        cases hx
        cases hy
        have hz : z.natAbs < 2 ^ 200 := by
          obtain ⟨j, rfl⟩ := irw_mem (List.mem_of_getElem? e)
          exact h0.2 k j
        walk_at "dl"
        exact ⟨mulOk_of hz hz (by decide) (by decide) (by decide), hQ⟩
    · walk_at "dl"
      refine ⟨_, rfl, ?_⟩
      rw [irw_sq]
      refine law_root_iff (sqs_nn n (A k)) (Nat.lt_of_lt_of_le (sqs_lt h0.1 (h0.2 k)) (Nat.pow_le_pow_right (by decide) (by decide))) ?_
      have hb := bndF_lt h0 m0 m2 k
      have hB := bnd_lt h0 m0 m2 k
      refine ⟨mulOk_of (a := 4000) (b := 411) (Nat.lt_of_le_of_lt hB (Nat.pow_lt_pow_right (by decide) (by omega))) hb.2 (by decide) (by decide) (by decide), .val (.tuple ((irw n (A k)).map .int)), .un, ?_⟩
      rw [bnd_succ]
      rfl
  · obtain ⟨s3, s4, rfl⟩ := hI
    unfold w_law_bound_2
    walk_at "dl"
    rw [ZR_len]
    exact ⟨n, A, more, rfl, rfl⟩

theorem ok_law_bound {P : Program} {w : World} {K : Fg} {mg : Str → Option Value} {base : Heap} {fa : Nat → Addr} {fdd : Nat → FuncData} (T : Txt K mg fa fdd) : FnOk P w K mg base CX0 2 (fa 41) (fdd 41) ["rows", "more"] (SpD K pre_law_bound post_law_bound) := by
  have G40 : FnOk P w K mg base CX0 1 (fa 40) (fdd 40) ["n"] (SpD K pre_law_root post_law_root) := ok_law_root T
  exact fn_ok T.F41 sc41 len_law_bound (fun cdv A outer s H E hr => ⟨_, w_law_bound_0, (dss_cons (ds_set (i := 2) sc41.nd de_int)
      (dss_cons (ds_for PassesOwn.never rfl (di_tup (de_name 0)) (dg_name (i := 3) sc41.nd) (dss_one (ds_set (i := 2) sc41.nd (de_op op_mulD sn2_mul (de_name 2) (de_op op_addD sn2_add (de_call G40 hr (by rfl) T.g40 T.F40.kp T.b40 pass0 (da_cons (de_callB (cr_sum rfl) snc_sum (by rfl) T.m_sum (by decide +kernel) (da_cons (DF.de (df_comp (x := "x") (i := 4) rfl sc41.nd (di_tup (de_name 3)) (by first | exact (blkOk_by (own := [("x", 4)]) (N := ["rows", "more", "total", "row", "x"]) (sc := defScope s41) (by decide +kernel)) | (refine blkOk_by ?_; dsimp only [Cx.blk, Cx.nox, Cx.wish, Cx.tr, cxOf, envOfC, compEnvC, relab]; decide +kernel)) (fun _ _ _ _ _ => pg_name (i := 4) sc41.nd rfl (by first | exact Or.inl rfl | exact Or.inr rfl)) (fun _ _ _ _ _ => ⟨_, dts_nil, by first | (dsimp only [Cx.blk]; rfl) | dsimp only [Cx.blk] | rfl⟩) (fun _ _ _ _ _ => ⟨_, (de_op op_mulD sn2_mul (de_name 4) (de_name 4)), by first | (dsimp only [Cx.blk]; rfl) | dsimp only [Cx.blk] | rfl⟩))) da_nil)) da_nil)) (de_name 1))))))
      (dss_one (ds_ret (de_name 2))))), body_law_bound⟩)
/-! ### _law_primes -/
def pre_law_primes : List D → Prop := fun ds => ∃ m : Int, ds = [.int m] ∧ m ≤ 10 ^ 40
theorem len_law_primes (ds : List D) (h : pre_law_primes ds) : ds.length = ["m"].length := by obtain ⟨_, rfl, _⟩ := h; rfl
def post_law_primes : List D → D → Prop := fun ds r => ∃ (m : Int) (t : Nat), ds = [.int m] ∧ Least m t ∧ r = lN (fE t)
theorem law_primes_iff (m : Int) (hm : m ≤ 10 ^ 40) {Q : D → Prop} (h : ∀ t, Least m t → Q (lN (fE t))) : (pre_law_primes [.int m] ∧ ∀ r, post_law_primes [.int m] r → Q r) := ⟨⟨m, rfl, hm⟩, fun r hr => by
  obtain ⟨m', t, e, ht, rfl⟩ := hr
  cases e
  exact h t ht⟩
def mu_law_primes (ρ : Rho) : Nat := match look ρ 3 with
  | .val (.int n) => (40000 - n).toNat
  | _ => 0
theorem cE_primeL {t : Nat} (h : t < 36) : prB (cE t) = true ↔ Prime ((cE t : Nat) : Int) := prB_iff (by unfold cE; omega) (by unfold cE; omega)
theorem pE_ltL {t : Nat} (h : t ≤ 36) : pE t < 2 ^ 2000 := by
  have h1 := pE_mono t (36 - t)
  rw [show t + (36 - t) = 36 by omega] at h1
  refine Nat.lt_of_le_of_lt h1 (Nat.lt_of_lt_of_le (show pE 36 < 2 ^ 600 by decide +kernel) (Nat.pow_le_pow_right (by decide) (by decide)))

def w_law_primes_4 : WS := (wRet (wName 1))
def w_law_primes_3_b : WS := (wSeq (wIfS (wTruT (wCall pre_law_is_prime post_law_is_prime (wCons (wName 3) wNil))) (wSeq (wApp 1 (wName 3))
    (wAsg (wBin dMul (wName 2) (wName 3)) (wgName 2))) wNext)
    (wAsg (wBin dAdd (wName 3) (wC (.int 2))) (wgName 3)))
def w_law_primes_3 : WS := wSeq (wWhile (wTest (wBin dLe (wName 2) (wName 0))) w_law_primes_3_b) w_law_primes_4
def w_law_primes_2 : WS := wSeq (wAsg (wC (.int 32769)) (wgName 3)) w_law_primes_3
def w_law_primes_1 : WS := wSeq (wAsg (wC (.int 1)) (wgName 2)) w_law_primes_2
def w_law_primes_0 : WS := wSeq (wKeep 1 (wFLst wNil)) w_law_primes_1

set_option exponentiation.threshold 20000 in
theorem body_law_primes : ∀ ds, pre_law_primes ds → w_law_primes_0 { nx := fun _ => post_law_primes ds .none, rt := post_law_primes ds } (env0 ["m", "found", "product", "n"] ds) := by
  intro ds h
  obtain ⟨m, rfl, hm⟩ := h
  unfold w_law_primes_0
  walk_at "dl"
  unfold w_law_primes_1
  walk_at "dl"
  unfold w_law_primes_2
  walk_at "dl"
  unfold w_law_primes_3
  walk_at "dl"
  refine ⟨fun ρ => ∃ t : Nat, t ≤ 36 ∧ (∀ s, s < t → ((pE s : Nat) : Int) ≤ m) ∧ ρ = [.val (.int m), .own ((fE t).map fun i => .int (i : Nat)), .val (.int (pE t : Nat)), .val (.int (cE t : Nat))], mu_law_primes, ⟨0, by decide, fun s hs => absurd hs (Nat.not_lt_zero s), rfl⟩, ?_⟩
  rintro ρ ⟨t, ht, hs, rfl⟩
  walk_at "dl"
  by_cases c : ((pE t : Nat) : Int) ≤ m
  · rw [if_pos c]
    have t36 := Least.lt hm c
    have hc : cE t = 32769 + 2 * t := rfl
    have hf := fE_len t
    have hs2 : ∀ s, s < t + 1 → ((pE s : Nat) : Int) ≤ m := fun s h => by
      by_cases d : s = t
      · rw [d]; exact c
      · exact hs s (by omega)
    have hn : ((cE t : Nat) : Int) + 2 = (cE (t + 1) : Nat) := by unfold cE; omega
    have hmu : ∀ X Y : List D, ∀ p q : Int, mu_law_primes [.val (.int m), .own X, .val (.int p), .val (.int (cE (t + 1) : Nat))] < mu_law_primes [.val (.int m), .own Y, .val (.int q), .val (.int (cE t : Nat))] := fun X Y p q => by
      simp only [mu_law_primes, look]
      unfold cE
      omega
    unfold w_law_primes_3_b
    walk_at "dl"
    refine law_is_prime_iff (Nat.lt_of_lt_of_le (show ((cE t : Nat) : Int).natAbs < 2 ^ 20 by rw [Int.natAbs_natCast, hc]; exact Nat.lt_of_lt_of_le (show _ < 40000 by omega) (by decide)) (Nat.pow_le_pow_right (by decide) (by decide))) fun b hb => ?_
    have hb2 : b = prB (cE t) := by
      cases b with
      | true => exact ((cE_primeL t36).mpr (hb.mp rfl)).symm
      | false =>
        cases e : prB (cE t) with
        | false => rfl
        | true =>
          have := hb.mpr ((cE_primeL t36).mp e)
          cases this
    have e1 := fE_succ t
    have e2 := pE_succ t
    cases b with
    | true =>
      rw [← hb2, if_pos rfl] at e1 e2
      walk_at "dl"
      rw [hn]
      refine ⟨by rw [List.length_map]; omega, mulOk_of (a := 2000) (b := 32) (by have := pE_ltL ht; omega) (by
        have : (2 : Nat) ^ 32 = 4294967296 := by decide
        omega) (by decide) (by decide) (by decide), ⟨t + 1, by omega, hs2, by rw [e1, e2, List.map_append, Int.natCast_mul]; rfl⟩, hmu _ _ _ _⟩
    | false =>
      rw [← hb2, if_neg (by decide)] at e1 e2
      rw [List.append_nil] at e1
      walk_at "dl"
      rw [hn]
      refine ⟨⟨t + 1, by omega, hs2, by rw [e1, e2]⟩, hmu _ _ _ _⟩
  · rw [if_neg c]
    unfold w_law_primes_4
    walk_at "dl"
    exact ⟨m, t, rfl, ⟨by omega, hs⟩, rfl⟩

theorem ok_law_primes {P : Program} {w : World} {K : Fg} {mg : Str → Option Value} {base : Heap} {fa : Nat → Addr} {fdd : Nat → FuncData} (T : Txt K mg fa fdd) : FnOk P w K mg base CX0 2 (fa 43) (fdd 43) ["m"] (SpD K pre_law_primes post_law_primes) := by
  have G42 : FnOk P w K mg base CX0 1 (fa 42) (fdd 42) ["n"] (SpD K pre_law_is_prime post_law_is_prime) := ok_law_is_prime T
  exact fn_ok T.F43 sc43 len_law_primes (fun cdv A outer s H E hr => ⟨_, w_law_primes_0, (dss_cons (ds_keep (i := 1) sc43.nd (df_lst da_nil))
      (dss_cons (ds_set (i := 2) sc43.nd de_int)
      (dss_cons (ds_set (i := 3) sc43.nd de_int)
      (dss_cons (ds_while PassesOwn.never (dt_cmp op_le sn2_le (de_name 2) (de_name 0)) (dss_cons (ds_if (dt_tru (de_call G42 hr (by rfl) T.g42 T.F42.kp T.b42 pass0 (da_cons (de_name 3) da_nil))) (dss_cons (ds_app (i := 1) (de_name 3) (pv 1))
      (dss_one (ds_set (i := 2) sc43.nd (de_op op_mulD sn2_mul (de_name 2) (de_name 3))))) dss_nil)
      (dss_one (ds_set (i := 3) sc43.nd (de_op op_addD sn2_add (de_name 3) de_int)))))
      (dss_one (ds_ret (de_name 1))))))), body_law_primes⟩)
/-! ### next_prime -/
def pre_next_prime : List D → Prop := fun ds => ∃ n : Int, ds = [.int n] ∧ 0 ≤ n ∧ n < PP
theorem len_next_prime (ds : List D) (h : pre_next_prime ds) : ds.length = ["n"].length := by obtain ⟨a, rfl, _⟩ := h; rfl
def post_next_prime : List D → D → Prop := fun ds d => ∃ n q : Int, ds = [.int n] ∧ d = .int q ∧ Next n q
theorem next_prime_iff {n : Int} {Q : D → Prop} (h0 : 0 ≤ n) (hl : n < PP) (h : ∀ q : Int, Next n q → Q (.int q)) : (pre_next_prime [.int n] ∧ ∀ r, post_next_prime [.int n] r → Q r) := ⟨⟨n, rfl, h0, hl⟩, fun r hr => by
  obtain ⟨n', b, e, rfl, h1⟩ := hr
  cases e
  exact h b h1⟩
def mu_next_prime (ρ : Rho) : Nat := match look ρ 1 with
  | .val (.int k) => (PP - k).toNat
  | _ => 0

def w_next_prime_2 : WS := (wRet (wName 1))
def w_next_prime_1_b : WS := (wAug 1 dAddI (wC (.int 1)))
def w_next_prime_1 : WS := wSeq (wWhile (wNotT (wTruT (wCall pre_is_prime post_is_prime (wCons (wName 1) wNil)))) w_next_prime_1_b) w_next_prime_2
def w_next_prime_0 : WS := wSeq (wAsg (wB bMax (wCons (wBin dAdd (wName 0) (wC (.int 1))) (wCons (wC (.int 2)) wNil))) (wgName 1)) w_next_prime_1

theorem body_next_prime : ∀ ds, pre_next_prime ds → w_next_prime_0 { nx := fun _ => post_next_prime ds .none, rt := post_next_prime ds } (env0 ["n", "candidate"] ds) := by
  intro ds h
  obtain ⟨n, rfl, h0, hn⟩ := h
  have hpp : PP = 4294967291 := rfl
  have p64 : (2 : Nat) ^ 64 = 18446744073709551616 := by decide
  unfold w_next_prime_0 w_next_prime_1
  walk_at "dl"
  refine ⟨fun ρ => ∃ c : Int, n < c ∧ c ≤ PP ∧ (∀ x : Int, n < x → x < c → ¬ Prime x) ∧ ρ = [.val (.int n), .val (.int c)], mu_next_prime, ⟨_, ?_, ?_, fun x x1 x2 hp => ?_, rfl⟩, ?_⟩
  · split <;> omega
  · split <;> omega
  · have := hp.1
    split at x2 <;> omega
  rintro ρ ⟨c, c1, c2, c3, rfl⟩
  walk_at "dl"
  refine is_prime_iff (by omega) fun b hb => ?_
  walk_at "dl"
  cases b with
  | false =>
    rw [if_pos rfl]
    have np : ¬ Prime c := fun z => Bool.false_ne_true (hb.mpr z)
    have ne : c ≠ PP := fun z => np (z ▸ primePP)
    unfold w_next_prime_1_b
    walk_at "dl"
    refine ⟨⟨c + 1, by omega, by omega, fun x x1 x2 => ?_, rfl⟩, ?_⟩
    · by_cases e : x = c
      · rw [e]; exact np
      · exact c3 x x1 (by omega)
    · simp only [mu_next_prime, look]
      omega
  | true =>
    rw [if_neg (by decide)]
    unfold w_next_prime_2
    walk_at "dl"
    exact ⟨n, c, rfl, rfl, c1, hb.mp rfl, c2, c3⟩

theorem ok_next_prime {P : Program} {w : World} {K : Fg} {mg : Str → Option Value} {base : Heap} {fa : Nat → Addr} {fdd : Nat → FuncData} (T : Txt K mg fa fdd) : FnOk P w K mg base CX0 3 (fa 1) (fdd 1) ["n"] (SpD K pre_next_prime post_next_prime) := by
  have G0 : FnOk P w K mg base CX0 2 (fa 0) (fdd 0) ["n"] (SpD K pre_is_prime post_is_prime) := ok_is_prime T
  exact fn_ok T.F1 sc1 len_next_prime (fun cdv A outer s H E hr => ⟨_, w_next_prime_0, (dss_cons (ds_set (i := 1) sc1.nd (de_callB (call_max2 rfl) snc_max (by rfl) T.m_max (by decide +kernel) (da_cons (de_op op_addD sn2_add (de_name 0) de_int) (da_cons de_int da_nil))))
      (dss_cons (ds_while PassesOwn.never (dt_not (dt_tru (de_call G0 hr (by rfl) T.g0 T.F0.kp T.b0 pass0 (da_cons (de_name 1) da_nil)))) (dss_one (ds_aug (i := 1) sc1.nd ip_add sn2_iadd de_int)))
      (dss_one (ds_ret (de_name 1))))), body_next_prime⟩)
/-! ### determinant_bound -/
def pre_determinant_bound : List D → Prop := fun ds => ∃ (n : Nat) (A : Nat → Nat → Int), ds = [MtD .Z n n A] ∧ BdOk n A
theorem len_determinant_bound (ds : List D) (h : pre_determinant_bound ds) : ds.length = ["a"].length := by obtain ⟨_, _, rfl, _⟩ := h; rfl
def post_determinant_bound : List D → D → Prop := fun ds r => ∃ (n : Nat) (A : Nat → Nat → Int), ds = [MtD .Z n n A] ∧ r = .int (bnd n A 1 n)
theorem determinant_bound_iff (n : Nat) (A : Nat → Nat → Int) (h0 : BdOk n A) {Q : D → Prop} (h : Q (.int (bnd n A 1 n))) : (pre_determinant_bound [MtD .Z n n A] ∧ ∀ r, post_determinant_bound [MtD .Z n n A] r → Q r) := ⟨⟨n, A, rfl, h0⟩, fun r hr => by
  obtain ⟨n', A', e, rfl⟩ := hr
  obtain ⟨rfl, _, hA⟩ := MtD_inj (List.cons.inj e).1
  rw [← bnd_congr hA]
  exact h⟩

def w_determinant_bound_1 : WS := (wRet (wCall pre_product_of_roots post_product_of_roots (wCons (wBin dIx (wName 0) (wC (.int 2))) (wCons (wC (.int 1)) wNil))))
def w_determinant_bound_0 : WS := wSeq (wDrop (wCall pre_need_square post_need_square (wCons (wName 0) wNil))) w_determinant_bound_1

theorem body_determinant_bound : ∀ ds, pre_determinant_bound ds → w_determinant_bound_0 { nx := fun _ => post_determinant_bound ds .none, rt := post_determinant_bound ds } (env0 ["a"] ds) := by
  intro ds h
  obtain ⟨n, A, rfl, h0⟩ := h
  have ez : MtD .Z n n A = .tuple [.int n, .int n, .tuple (ZR n A)] := ZR_mt
  unfold w_determinant_bound_0
  walk_at "dl"
  refine need_square_iff n (rowsD .Z n n A) fun r => ?_
  unfold w_determinant_bound_1
  rw [ez]
  walk_at "dl"
  exact product_of_roots_iff n A 1 h0 (by decide) (by decide) ⟨n, A, by rw [ez], rfl⟩

theorem ok_determinant_bound {P : Program} {w : World} {K : Fg} {mg : Str → Option Value} {base : Heap} {fa : Nat → Addr} {fdd : Nat → FuncData} (T : Txt K mg fa fdd) : FnOk P w K mg base CX0 3 (fa 6) (fdd 6) ["a"] (SpD K pre_determinant_bound post_determinant_bound) := by
  have G3 : FnOk P w K mg base CX0 1 (fa 3) (fdd 3) ["a"] (SpD K pre_need_square post_need_square) := ok_need_square T
  have G5 : FnOk P w K mg base CX0 2 (fa 5) (fdd 5) ["rows", "more"] (SpD K pre_product_of_roots post_product_of_roots) := ok_product_of_roots T
  exact fn_ok T.F6 sc6 len_determinant_bound (fun cdv A outer s H E hr => ⟨_, w_determinant_bound_0, (dss_cons (ds_expr (de_call G3 (hr.mono (by decide)) (by rfl) T.g3 T.F3.kp T.b3 pass0 (da_cons (de_name 0) da_nil)))
      (dss_one (ds_ret (de_call G5 hr (by rfl) T.g5 T.F5.kp T.b5 pass0 (da_cons (de_ix ix_D sn2_ix (de_name 0) de_int) (da_cons de_int da_nil)))))), body_determinant_bound⟩)
/-! ### coefficient_bound -/
def pre_coefficient_bound : List D → Prop := fun ds => ∃ (n : Nat) (A : Nat → Nat → Int), ds = [MtD .Z n n A] ∧ BdOk n A
theorem len_coefficient_bound (ds : List D) (h : pre_coefficient_bound ds) : ds.length = ["a"].length := by obtain ⟨_, _, rfl, _⟩ := h; rfl
def post_coefficient_bound : List D → D → Prop := fun ds r => ∃ (n : Nat) (A : Nat → Nat → Int), ds = [MtD .Z n n A] ∧ r = .int (bnd n A 2 n)
theorem coefficient_bound_iff (n : Nat) (A : Nat → Nat → Int) (h0 : BdOk n A) {Q : D → Prop} (h : Q (.int (bnd n A 2 n))) : (pre_coefficient_bound [MtD .Z n n A] ∧ ∀ r, post_coefficient_bound [MtD .Z n n A] r → Q r) := ⟨⟨n, A, rfl, h0⟩, fun r hr => by
  obtain ⟨n', A', e, rfl⟩ := hr
  obtain ⟨rfl, _, hA⟩ := MtD_inj (List.cons.inj e).1
  rw [← bnd_congr hA]
  exact h⟩

def w_coefficient_bound_1 : WS := (wRet (wCall pre_product_of_roots post_product_of_roots (wCons (wBin dIx (wName 0) (wC (.int 2))) (wCons (wC (.int 2)) wNil))))
def w_coefficient_bound_0 : WS := wSeq (wDrop (wCall pre_need_square post_need_square (wCons (wName 0) wNil))) w_coefficient_bound_1

theorem body_coefficient_bound : ∀ ds, pre_coefficient_bound ds → w_coefficient_bound_0 { nx := fun _ => post_coefficient_bound ds .none, rt := post_coefficient_bound ds } (env0 ["a"] ds) := by
  intro ds h
  obtain ⟨n, A, rfl, h0⟩ := h
  have ez : MtD .Z n n A = .tuple [.int n, .int n, .tuple (ZR n A)] := ZR_mt
  unfold w_coefficient_bound_0
  walk_at "dl"
  refine need_square_iff n (rowsD .Z n n A) fun r => ?_
  unfold w_coefficient_bound_1
  rw [ez]
  walk_at "dl"
  exact product_of_roots_iff n A 2 h0 (by decide) (by decide) ⟨n, A, by rw [ez], rfl⟩

theorem ok_coefficient_bound {P : Program} {w : World} {K : Fg} {mg : Str → Option Value} {base : Heap} {fa : Nat → Addr} {fdd : Nat → FuncData} (T : Txt K mg fa fdd) : FnOk P w K mg base CX0 3 (fa 7) (fdd 7) ["a"] (SpD K pre_coefficient_bound post_coefficient_bound) := by
  have G3 : FnOk P w K mg base CX0 1 (fa 3) (fdd 3) ["a"] (SpD K pre_need_square post_need_square) := ok_need_square T
  have G5 : FnOk P w K mg base CX0 2 (fa 5) (fdd 5) ["rows", "more"] (SpD K pre_product_of_roots post_product_of_roots) := ok_product_of_roots T
  exact fn_ok T.F7 sc7 len_coefficient_bound (fun cdv A outer s H E hr => ⟨_, w_coefficient_bound_0, (dss_cons (ds_expr (de_call G3 (hr.mono (by decide)) (by rfl) T.g3 T.F3.kp T.b3 pass0 (da_cons (de_name 0) da_nil)))
      (dss_one (ds_ret (de_call G5 hr (by rfl) T.g5 T.F5.kp T.b5 pass0 (da_cons (de_ix ix_D sn2_ix (de_name 0) de_int) (da_cons de_int da_nil)))))), body_coefficient_bound⟩)
/-! ### _law_number, of a field or the integers -/
def pre_law_number_r0 : List D → Prop := fun ds => ∃ (d : Dom) (n : Int), ds = [d.enc, .int n] ∧ d.flat
theorem len_law_number_r0 (ds : List D) (h : pre_law_number_r0 ds) : ds.length = ["d", "n"].length := by obtain ⟨_, _, rfl, _⟩ := h; rfl
def post_law_number_r0 : List D → D → Prop := fun ds r => ∃ (d : Dom) (n : Int), ds = [d.enc, .int n] ∧ r = d.el (d.num n)
theorem lnumber_r0_iff (d : Dom) (n : Int) (hf : d.flat) {Q : D → Prop} (h : Q (d.el (d.num n))) : (pre_law_number_r0 [d.enc, .int n] ∧ ∀ r, post_law_number_r0 [d.enc, .int n] r → Q r) := ⟨⟨d, n, rfl, hf⟩, fun r hr => by
  obtain ⟨d', n', e, rfl⟩ := hr
  obtain ⟨rfl, rfl⟩ := dn_inj e
  exact h⟩

def w_law_number_r0_3 : WS := (wRet (wName 1))
def w_law_number_r0_2 : WS := wSeq (wIfS (wTest (wBin dEq (wBin dIx (wName 0) (wC (.int 0))) (wC (.str (Str.ofString "P"))))) (wRet (wCall pre_law_strip post_law_strip (wCons (wBin dIx (wName 0) (wC (.int 1))) (wCons (wLst (wCons (wCall pre_never post_never (wCons (wBin dIx (wName 0) (wC (.int 1))) (wCons (wName 1) wNil))) wNil)) wNil)))) wNext) w_law_number_r0_3
def w_law_number_r0_1 : WS := wSeq (wIfS (wTest (wBin dEq (wBin dIx (wName 0) (wC (.int 0))) (wC (.str (Str.ofString "F"))))) (wRet (wBin dMod (wB bInt (wCons (wName 1) wNil)) (wBin dIx (wName 0) (wC (.int 1))))) wNext) w_law_number_r0_2
def w_law_number_r0_0 : WS := wSeq (wIfS (wTest (wBin dEq (wBin dIx (wName 0) (wC (.int 0))) (wC (.str (Str.ofString "Q"))))) (wRet (wTup (wCons (wName 1) (wCons (wC (.int 1)) wNil)))) wNext) w_law_number_r0_1

theorem body_law_number_r0 : ∀ ds, pre_law_number_r0 ds → w_law_number_r0_0 { nx := fun _ => post_law_number_r0 ds .none, rt := post_law_number_r0 ds } (env0 ["d", "n"] ds) := by
  intro ds h
  obtain ⟨d, n, rfl, hf⟩ := h
  unfold w_law_number_r0_0 w_law_number_r0_1 w_law_number_r0_2 w_law_number_r0_3
  cases d with
  | Z =>
    simp only [Dom.enc]
    walk_at "dl"
    exact ⟨.Z, n, rfl, rfl⟩
  | K f =>
    cases f with
    | Q =>
      simp only [Dom.enc, Fld.enc]
      walk_at "dl"
      exact ⟨.K .Q, n, rfl, rfl⟩
    | F m =>
      simp only [Dom.enc, Fld.enc]
      walk_at "dl"
      exact ⟨by omega, .K (.F m), n, rfl, (Fld.el_num_F m n).symm⟩
  | P f => exact hf.elim

theorem ok_law_number_r0 {P : Program} {w : World} {K : Fg} {mg : Str → Option Value} {base : Heap} {fa : Nat → Addr} {fdd : Nat → FuncData} (T : Txt K mg fa fdd) : FnOk P w K mg base CX0 3 (fa 17) (fdd 17) ["d", "n"] (SpD K pre_law_number_r0 post_law_number_r0) := by
  have G16 : FnOk P w K mg base CX0 2 (fa 16) (fdd 16) ["f", "parts"] (SpD K pre_law_strip post_law_strip) := ok_law_strip T
  have G17 : FnOk P w K mg base CX0 0 (fa 17) (fdd 17) ["d", "n"] (SpD K pre_never post_never) := fn_never
  exact fn_ok T.F17 sc17 len_law_number_r0 (fun cdv A outer s H E hr => ⟨_, w_law_number_r0_0, (dss_cons (ds_if (dt_cmp (op_eqP hr.units) sn2_eq (de_ix ix_D sn2_ix (de_name 0) de_int) de_str) (dss_one (ds_ret (de_tup (da_cons (de_name 1) (da_cons de_int da_nil))))) dss_nil)
      (dss_cons (ds_if (dt_cmp (op_eqP hr.units) sn2_eq (de_ix ix_D sn2_ix (de_name 0) de_int) de_str) (dss_one (ds_ret (de_op op_modN sn2_mod (de_callTy call_int1 snc_int (by rfl) T.m_int (by decide +kernel) (da_cons (de_name 1) da_nil)) (de_ix ix_D sn2_ix (de_name 0) de_int)))) dss_nil)
      (dss_cons (ds_if (dt_cmp (op_eqP hr.units) sn2_eq (de_ix ix_D sn2_ix (de_name 0) de_int) de_str) (dss_one (ds_ret (de_call G16 hr (by rfl) T.g16 T.F16.kp T.b16 pass0 (da_cons (de_ix ix_D sn2_ix (de_name 0) de_int) (da_cons (de_lst (da_cons (de_call G17 (hr.mono (by decide)) (by rfl) T.g17 T.F17.kp T.b17 pass0 (da_cons (de_ix ix_D sn2_ix (de_name 0) de_int) (da_cons (de_name 1) da_nil))) da_nil)) da_nil))))) dss_nil)
      (dss_one (ds_ret (de_name 1)))))), body_law_number_r0⟩)
/-! ### _law_add, of a field or the integers -/
def pre_law_add_r0 : List D → Prop := fun ds => ∃ (d : Dom) (x y : d.C), ds = [d.enc, d.el x, d.el y] ∧ d.flat ∧ d.Sm 3000 x ∧ d.Sm 3000 y
theorem len_law_add_r0 (ds : List D) (h : pre_law_add_r0 ds) : ds.length = ["d", "x", "y"].length := by obtain ⟨_, _, _, rfl, _⟩ := h; rfl
def post_law_add_r0 : List D → D → Prop := fun ds r => ∃ (d : Dom) (x y : d.C), ds = [d.enc, d.el x, d.el y] ∧ r = d.el (x + y)
theorem ladd_r0_iff (d : Dom) (x y : d.C) (hf : d.flat) (hx : d.Sm 3000 x) (hy : d.Sm 3000 y) {Q : D → Prop} (h : Q (d.el (x + y))) : (pre_law_add_r0 [d.enc, d.el x, d.el y] ∧ ∀ r, post_law_add_r0 [d.enc, d.el x, d.el y] r → Q r) := ⟨⟨d, x, y, rfl, hf, hx, hy⟩, fun r hr => by
  obtain ⟨d', x', y', e, rfl⟩ := hr
  obtain ⟨rfl, rfl, rfl⟩ := dxy_inj e
  exact h⟩

def w_law_add_r0_3 : WS := (wRet (wBin dAdd (wName 1) (wName 2)))
def w_law_add_r0_2 : WS := wSeq (wIfS (wTest (wBin dEq (wBin dIx (wName 0) (wC (.int 0))) (wC (.str (Str.ofString "P"))))) (wSeq (wAsg (wB bMax (wCons (wB bLen (wCons (wName 1) wNil)) (wCons (wB bLen (wCons (wName 2) wNil)) wNil))) (wgName 3))
    (wRet (wCall pre_law_strip post_law_strip (wCons (wBin dIx (wName 0) (wC (.int 1))) (wCons (wFree (wComp (wiR1 (wCons (wName 3) wNil)) 4 wYes (wCall pre_never post_never (wCons (wBin dIx (wName 0) (wC (.int 1))) (wCons (wCall pre_law_part post_law_part (wCons (wBin dIx (wName 0) (wC (.int 1))) (wCons (wName 1) (wCons (wName 4) wNil)))) (wCons (wCall pre_law_part post_law_part (wCons (wBin dIx (wName 0) (wC (.int 1))) (wCons (wName 2) (wCons (wName 4) wNil)))) wNil)))))) wNil))))) wNext) w_law_add_r0_3
def w_law_add_r0_1 : WS := wSeq (wIfS (wTest (wBin dEq (wBin dIx (wName 0) (wC (.int 0))) (wC (.str (Str.ofString "F"))))) (wRet (wBin dMod (wB bInt (wCons (wBin dAdd (wName 1) (wName 2)) wNil)) (wBin dIx (wName 0) (wC (.int 1))))) wNext) w_law_add_r0_2
def w_law_add_r0_0 : WS := wSeq (wIfS (wTest (wBin dEq (wBin dIx (wName 0) (wC (.int 0))) (wC (.str (Str.ofString "Q"))))) (wRet (wCall pre_law_fraction post_law_fraction (wCons (wBin dAdd (wBin dMul (wBin dIx (wName 1) (wC (.int 0))) (wBin dIx (wName 2) (wC (.int 1)))) (wBin dMul (wBin dIx (wName 2) (wC (.int 0))) (wBin dIx (wName 1) (wC (.int 1))))) (wCons (wBin dMul (wBin dIx (wName 1) (wC (.int 1))) (wBin dIx (wName 2) (wC (.int 1)))) wNil)))) wNext) w_law_add_r0_1

set_option exponentiation.threshold 20000 in
theorem add_frac {x y : Rat} (hx : Fld.Q.Small 3000 x) (hy : Fld.Q.Small 3000 y) {Q : D → Prop} (h : Q (Fld.Q.el (x + y : Rat))) : mulOk x.num y.den ∧ mulOk y.num x.den ∧ mulOk x.den y.den ∧ (pre_law_fraction [.int (x.num * y.den + y.num * x.den), .int ((x.den : Int) * (y.den : Int))] ∧ ∀ r, post_law_fraction [.int (x.num * y.den + y.num * x.den), .int ((x.den : Int) * (y.den : Int))] r → Q r) := by
  have a := x.den_pos
  have b := y.den_pos
  refine ⟨mulOk_of (a := 3000) (b := 3000) hx.1 hy.2 (by decide) (by decide) (by decide), mulOk_of (a := 3000) (b := 3000) hy.1 hx.2 (by decide) (by decide) (by decide), mulOk_of (a := 3000) (b := 3000) hx.2 hy.2 (by decide) (by decide) (by decide), ?_⟩
  refine lfraction_iff (Int.mul_ne_zero (by omega) (by omega)) (den_mul_lt hx hy) fun a b hF => ?_
  rw [Fld.add_Q hF]
  exact h
theorem body_law_add_r0 : ∀ ds, pre_law_add_r0 ds → w_law_add_r0_0 { nx := fun _ => post_law_add_r0 ds .none, rt := post_law_add_r0 ds } (env0 ["d", "x", "y", "long", "k"] ds) := by
  intro ds h
  obtain ⟨d, x, y, rfl, hf, hx, hy⟩ := h
  unfold w_law_add_r0_0 w_law_add_r0_1 w_law_add_r0_2 w_law_add_r0_3
  cases d with
  | Z =>
    simp only [Dom.enc, Dom.el]
    walk_at "dl"
    exact ⟨.Z, x, y, rfl, rfl⟩
  | K f =>
    cases f with
    | Q =>
      simp only [Dom.enc, Fld.enc, Dom.el, Fld.el]
      walk_at "dl"
      exact add_frac hx hy ⟨.K .Q, x, y, rfl, rfl⟩
    | F m =>
      simp only [Dom.enc, Fld.enc, Dom.el, Fld.el]
      walk_at "dl"
      exact ⟨by omega, .K (.F m), x, y, rfl, (Fld.add_F x y).symm⟩
  | P f => exact hf.elim

theorem ok_law_add_r0 {P : Program} {w : World} {K : Fg} {mg : Str → Option Value} {base : Heap} {fa : Nat → Addr} {fdd : Nat → FuncData} (T : Txt K mg fa fdd) : FnOk P w K mg base CX0 3 (fa 19) (fdd 19) ["d", "x", "y"] (SpD K pre_law_add_r0 post_law_add_r0) := by
  have G14 : FnOk P w K mg base CX0 2 (fa 14) (fdd 14) ["n", "m"] (SpD K pre_law_fraction post_law_fraction) := ok_law_fraction T
  have G16 : FnOk P w K mg base CX0 2 (fa 16) (fdd 16) ["f", "parts"] (SpD K pre_law_strip post_law_strip) := ok_law_strip T
  have G19 : FnOk P w K mg base CX0 0 (fa 19) (fdd 19) ["d", "x", "y"] (SpD K pre_never post_never) := fn_never
  have G18 : FnOk P w K mg base CX0 2 (fa 18) (fdd 18) ["d", "x", "k"] (SpD K pre_law_part post_law_part) := ok_law_part T
  exact fn_ok T.F19 sc19 len_law_add_r0 (fun cdv A outer s H E hr => ⟨_, w_law_add_r0_0, (dss_cons (ds_if (dt_cmp (op_eqP hr.units) sn2_eq (de_ix ix_D sn2_ix (de_name 0) de_int) de_str) (dss_one (ds_ret (de_call G14 hr (by rfl) T.g14 T.F14.kp T.b14 pass0 (da_cons (de_op op_addD sn2_add (de_op op_mulD sn2_mul (de_ix ix_D sn2_ix (de_name 1) de_int) (de_ix ix_D sn2_ix (de_name 2) de_int)) (de_op op_mulD sn2_mul (de_ix ix_D sn2_ix (de_name 2) de_int) (de_ix ix_D sn2_ix (de_name 1) de_int))) (da_cons (de_op op_mulD sn2_mul (de_ix ix_D sn2_ix (de_name 1) de_int) (de_ix ix_D sn2_ix (de_name 2) de_int)) da_nil))))) dss_nil)
      (dss_cons (ds_if (dt_cmp (op_eqP hr.units) sn2_eq (de_ix ix_D sn2_ix (de_name 0) de_int) de_str) (dss_one (ds_ret (de_op op_modN sn2_mod (de_callTy call_int1 snc_int (by rfl) T.m_int (by decide +kernel) (da_cons (de_op op_addD sn2_add (de_name 1) (de_name 2)) da_nil)) (de_ix ix_D sn2_ix (de_name 0) de_int)))) dss_nil)
      (dss_cons (ds_if (dt_cmp (op_eqP hr.units) sn2_eq (de_ix ix_D sn2_ix (de_name 0) de_int) de_str) (dss_cons (ds_set (i := 3) sc19.nd (de_callB (call_max2 rfl) snc_max (by rfl) T.m_max (by decide +kernel) (da_cons (de_callB call_len_seq snc_len (by rfl) T.m_len (by decide +kernel) (da_cons (de_name 1) da_nil)) (da_cons (de_callB call_len_seq snc_len (by rfl) T.m_len (by decide +kernel) (da_cons (de_name 2) da_nil)) da_nil))))
      (dss_one (ds_ret (de_call G16 hr (by rfl) T.g16 T.F16.kp T.b16 pass0 (da_cons (de_ix ix_D sn2_ix (de_name 0) de_int) (da_cons (DF.de (df_comp (x := "k") (i := 4) rfl sc19.nd (di_rng1 (by rfl) T.m_range (da_cons (de_name 3) da_nil)) (by first | exact (blkOk_by (own := [("k", 4)]) (N := ["d", "x", "y", "long", "k"]) (sc := defScope s19) (by decide +kernel)) | (refine blkOk_by ?_; dsimp only [Cx.blk, Cx.nox, Cx.wish, Cx.tr, cxOf, envOfC, compEnvC, relab]; decide +kernel)) (fun _ _ _ _ _ => pg_name (i := 4) sc19.nd rfl (by first | exact Or.inl rfl | exact Or.inr rfl)) (fun _ _ _ _ _ => ⟨_, dts_nil, by first | (dsimp only [Cx.blk]; rfl) | dsimp only [Cx.blk] | rfl⟩) (fun _ _ _ _ _ => ⟨_, (de_call G19 (hr.mono (by decide)) (by rfl) T.g19 T.F19.kp T.b19 pass0 (da_cons (de_ix ix_D sn2_ix (de_name 0) de_int) (da_cons (de_call G18 hr (by rfl) T.g18 T.F18.kp T.b18 pass0 (da_cons (de_ix ix_D sn2_ix (de_name 0) de_int) (da_cons (de_name 1) (da_cons (de_name 4) da_nil)))) (da_cons (de_call G18 hr (by rfl) T.g18 T.F18.kp T.b18 pass0 (da_cons (de_ix ix_D sn2_ix (de_name 0) de_int) (da_cons (de_name 2) (da_cons (de_name 4) da_nil)))) da_nil)))), by first | (dsimp only [Cx.blk]; rfl) | dsimp only [Cx.blk] | rfl⟩))) da_nil)))))) dss_nil)
      (dss_one (ds_ret (de_op op_addD sn2_add (de_name 1) (de_name 2))))))), body_law_add_r0⟩)
/-! ### _law_multiply, of a field or the integers -/
def Dom.SzA : (d : Dom) → d.C → Prop
  | .Z, (n : Int) => n.natAbs < 2 ^ 6000
  | .K f, x => f.Small 3000 x
  | .P _, _ => False
def pre_law_multiply_r0 : List D → Prop := fun ds => ∃ (d : Dom) (x y : d.C), ds = [d.enc, d.el x, d.el y] ∧ d.SzA x ∧ d.SzA y ∧ d.Ok
theorem len_law_multiply_r0 (ds : List D) (h : pre_law_multiply_r0 ds) : ds.length = ["d", "x", "y"].length := by obtain ⟨_, _, _, rfl, _⟩ := h; rfl
def post_law_multiply_r0 : List D → D → Prop := fun ds r => ∃ (d : Dom) (x y : d.C), ds = [d.enc, d.el x, d.el y] ∧ r = d.el (x * y)
theorem lmultiply_r0_iff (d : Dom) (x y : d.C) (hx : d.SzA x) (hy : d.SzA y) (ho : d.Ok) {Q : D → Prop} (h : Q (d.el (x * y))) : (pre_law_multiply_r0 [d.enc, d.el x, d.el y] ∧ ∀ r, post_law_multiply_r0 [d.enc, d.el x, d.el y] r → Q r) := ⟨⟨d, x, y, rfl, hx, hy, ho⟩, fun r hr => by
  obtain ⟨d', x', y', e, rfl⟩ := hr
  obtain ⟨rfl, rfl, rfl⟩ := dxy_inj e
  exact h⟩

def w_law_multiply_r0_3 : WS := (wRet (wBin dMul (wName 1) (wName 2)))
def w_law_multiply_r0_2 : WS := wSeq (wIfS (wTest (wBin dEq (wBin dIx (wName 0) (wC (.int 0))) (wC (.str (Str.ofString "P"))))) (wSeq (wKeep 3 (wFBin fRep (wLst (wCons (wCall pre_law_zero post_law_zero (wCons (wBin dIx (wName 0) (wC (.int 1))) wNil)) wNil)) (wBin dAdd (wB bLen (wCons (wName 1) wNil)) (wB bLen (wCons (wName 2) wNil)))))
    (wSeq (wFor (wiR1 (wCons (wB bLen (wCons (wName 1) wNil)) wNil)) (wgName 4) (wFor (wiR1 (wCons (wB bLen (wCons (wName 2) wNil)) wNil)) (wgName 5) (wSetIx 3 (wCall pre_never post_never (wCons (wBin dIx (wName 0) (wC (.int 1))) (wCons (wBinP dIx (pName 3) (pAdd (pName 4) (pName 5))) (wCons (wCall pre_never post_never (wCons (wBin dIx (wName 0) (wC (.int 1))) (wCons (wBin dIx (wName 1) (wName 4)) (wCons (wBin dIx (wName 2) (wName 5)) wNil)))) wNil)))) (wBin dAdd (wName 4) (wName 5)))))
    (wRet (wCall pre_never post_never (wCons (wBin dIx (wName 0) (wC (.int 1))) (wCons (wName 3) wNil)))))) wNext) w_law_multiply_r0_3
def w_law_multiply_r0_1 : WS := wSeq (wIfS (wTest (wBin dEq (wBin dIx (wName 0) (wC (.int 0))) (wC (.str (Str.ofString "F"))))) (wRet (wBin dMod (wB bInt (wCons (wBin dMul (wName 1) (wName 2)) wNil)) (wBin dIx (wName 0) (wC (.int 1))))) wNext) w_law_multiply_r0_2
def w_law_multiply_r0_0 : WS := wSeq (wIfS (wTest (wBin dEq (wBin dIx (wName 0) (wC (.int 0))) (wC (.str (Str.ofString "Q"))))) (wRet (wCall pre_law_fraction post_law_fraction (wCons (wBin dMul (wBin dIx (wName 1) (wC (.int 0))) (wBin dIx (wName 2) (wC (.int 0)))) (wCons (wBin dMul (wBin dIx (wName 1) (wC (.int 1))) (wBin dIx (wName 2) (wC (.int 1)))) wNil)))) wNext) w_law_multiply_r0_1

set_option exponentiation.threshold 20000 in
theorem mul_frac {x y : Rat} (hx : Fld.Q.Small 3000 x) (hy : Fld.Q.Small 3000 y) {Q : D → Prop} (h : Q (Fld.Q.el (x * y : Rat))) : mulOk x.num y.num ∧ mulOk x.den y.den ∧ (pre_law_fraction [.int (x.num * y.num), .int ((x.den : Int) * (y.den : Int))] ∧ ∀ r, post_law_fraction [.int (x.num * y.num), .int ((x.den : Int) * (y.den : Int))] r → Q r) := by
  have a := x.den_pos
  have b := y.den_pos
  refine ⟨mulOk_of (a := 3000) (b := 3000) hx.1 hy.1 (by decide) (by decide) (by decide), mulOk_of (a := 3000) (b := 3000) hx.2 hy.2 (by decide) (by decide) (by decide), ?_⟩
  refine lfraction_iff (Int.mul_ne_zero (by omega) (by omega)) (den_mul_lt hx hy) fun a b hF => ?_
  rw [Fld.mul_Q hF]
  exact h
theorem body_law_multiply_r0 : ∀ ds, pre_law_multiply_r0 ds → w_law_multiply_r0_0 { nx := fun _ => post_law_multiply_r0 ds .none, rt := post_law_multiply_r0 ds } (env0 ["d", "x", "y", "parts", "i", "j"] ds) := by
  intro ds h
  obtain ⟨d, x, y, rfl, hx, hy, ho⟩ := h
  unfold w_law_multiply_r0_0 w_law_multiply_r0_1 w_law_multiply_r0_2 w_law_multiply_r0_3
  cases d with
  | Z =>
    simp only [Dom.enc, Dom.el]
    walk_at "dl"
    exact ⟨mulOk_of hx hy (by decide) (by decide) (by decide), .Z, x, y, rfl, rfl⟩
  | K f =>
    cases f with
    | Q =>
      simp only [Dom.enc, Fld.enc, Dom.el, Fld.el]
      walk_at "dl"
      exact mul_frac hx hy ⟨.K .Q, x, y, rfl, rfl⟩
    | F m =>
      simp only [Dom.enc, Fld.enc, Dom.el, Fld.el]
      walk_at "dl"
      exact ⟨mul_mod ho x y, by omega, .K (.F m), x, y, rfl, (Fld.mul_F x y).symm⟩
  | P f => exact hx.elim

theorem ok_law_multiply_r0 {P : Program} {w : World} {K : Fg} {mg : Str → Option Value} {base : Heap} {fa : Nat → Addr} {fdd : Nat → FuncData} (T : Txt K mg fa fdd) : FnOk P w K mg base CX0 3 (fa 20) (fdd 20) ["d", "x", "y"] (SpD K pre_law_multiply_r0 post_law_multiply_r0) := by
  have G14 : FnOk P w K mg base CX0 2 (fa 14) (fdd 14) ["n", "m"] (SpD K pre_law_fraction post_law_fraction) := ok_law_fraction T
  have G16 : FnOk P w K mg base CX0 0 (fa 16) (fdd 16) ["f", "parts"] (SpD K pre_never post_never) := fn_never
  have G15 : FnOk P w K mg base CX0 1 (fa 15) (fdd 15) ["d"] (SpD K pre_law_zero post_law_zero) := ok_law_zero T
  have G19 : FnOk P w K mg base CX0 0 (fa 19) (fdd 19) ["d", "x", "y"] (SpD K pre_never post_never) := fn_never
  have G20 : FnOk P w K mg base CX0 0 (fa 20) (fdd 20) ["d", "x", "y"] (SpD K pre_never post_never) := fn_never
  exact fn_ok T.F20 sc20 len_law_multiply_r0 (fun cdv A outer s H E hr => ⟨_, w_law_multiply_r0_0, (dss_cons (ds_if (dt_cmp (op_eqP hr.units) sn2_eq (de_ix ix_D sn2_ix (de_name 0) de_int) de_str) (dss_one (ds_ret (de_call G14 hr (by rfl) T.g14 T.F14.kp T.b14 pass0 (da_cons (de_op op_mulD sn2_mul (de_ix ix_D sn2_ix (de_name 1) de_int) (de_ix ix_D sn2_ix (de_name 2) de_int)) (da_cons (de_op op_mulD sn2_mul (de_ix ix_D sn2_ix (de_name 1) de_int) (de_ix ix_D sn2_ix (de_name 2) de_int)) da_nil))))) dss_nil)
      (dss_cons (ds_if (dt_cmp (op_eqP hr.units) sn2_eq (de_ix ix_D sn2_ix (de_name 0) de_int) de_str) (dss_one (ds_ret (de_op op_modN sn2_mod (de_callTy call_int1 snc_int (by rfl) T.m_int (by decide +kernel) (da_cons (de_op op_mulD sn2_mul (de_name 1) (de_name 2)) da_nil)) (de_ix ix_D sn2_ix (de_name 0) de_int)))) dss_nil)
      (dss_cons (ds_if (dt_cmp (op_eqP hr.units) sn2_eq (de_ix ix_D sn2_ix (de_name 0) de_int) de_str) (dss_cons (ds_keep (i := 3) sc20.nd (df_rep (de_lst (da_cons (de_call G15 (hr.mono (by decide)) (by rfl) T.g15 T.F15.kp T.b15 pass0 (da_cons (de_ix ix_D sn2_ix (de_name 0) de_int) da_nil)) da_nil)) (de_op op_addD sn2_add (de_callB call_len_seq snc_len (by rfl) T.m_len (by decide +kernel) (da_cons (de_name 1) da_nil)) (de_callB call_len_seq snc_len (by rfl) T.m_len (by decide +kernel) (da_cons (de_name 2) da_nil)))))
      (dss_cons (ds_for PassesOwn.never rfl (di_rng1 (by rfl) T.m_range (da_cons (de_callB call_len_seq snc_len (by rfl) T.m_len (by decide +kernel) (da_cons (de_name 1) da_nil)) da_nil)) (dg_name (i := 4) sc20.nd) (dss_one (ds_for PassesOwn.never rfl (di_rng1 (by rfl) T.m_range (da_cons (de_callB call_len_seq snc_len (by rfl) T.m_len (by decide +kernel) (da_cons (de_name 2) da_nil)) da_nil)) (dg_name (i := 5) sc20.nd) (dss_one (ds_setix (i := 3) (de_call G19 (hr.mono (by decide)) (by rfl) T.g19 T.F19.kp T.b19 pass0 (da_cons (de_ix ix_D sn2_ix (de_name 0) de_int) (da_cons (de_ixP ix_D sn2_ix (dp_name 3) (dp_add (dp_name 4) (dp_name 5))) (da_cons (de_call G20 (hr.mono (by decide)) (by rfl) T.g20 T.F20.kp T.b20 pass0 (da_cons (de_ix ix_D sn2_ix (de_name 0) de_int) (da_cons (de_ix ix_D sn2_ix (de_name 1) (de_name 4)) (da_cons (de_ix ix_D sn2_ix (de_name 2) (de_name 5)) da_nil)))) da_nil)))) (de_op op_addD sn2_add (de_name 4) (de_name 5)) (pg_sub (pv 3) (DE.pe (de_op op_addD sn2_add (de_name 4) (de_name 5))) set_list))))))
      (dss_one (ds_ret (de_call G16 (hr.mono (by decide)) (by rfl) T.g16 T.F16.kp T.b16 pass0 (da_cons (de_ix ix_D sn2_ix (de_name 0) de_int) (da_cons (de_name 3) da_nil))))))) dss_nil)
      (dss_one (ds_ret (de_op op_mulD sn2_mul (de_name 1) (de_name 2))))))), body_law_multiply_r0⟩)
/-! ### _law_small, of a field or the integers -/
def pre_law_small_r0 : List D → Prop := fun ds => ∃ d : Dom, ds = [.dict [], d.enc] ∧ d.flat
theorem len_law_small_r0 (ds : List D) (h : pre_law_small_r0 ds) : ds.length = ["c", "d"].length := by obtain ⟨_, rfl, _⟩ := h; rfl
def post_law_small_r0 : List D → D → Prop := fun ds r => ∃ (d : Dom) (x : d.C), ds = [.dict [], d.enc] ∧ r = d.el x ∧ d.Sz 6 50 1 x
theorem cd_inj {d d' : Dom} {a b : D} (h : [a, d.enc] = [b, d'.enc]) : d = d' := by
  simp only [List.cons.injEq, and_true] at h
  exact Dom.enc_inj h.2
theorem lsmall_r0_iff (d : Dom) (hf : d.flat) {Q : D → Prop} (h : ∀ x : d.C, d.Sz 6 50 1 x → Q (d.el x)) : (pre_law_small_r0 [.dict [], d.enc] ∧ ∀ r, post_law_small_r0 [.dict [], d.enc] r → Q r) := ⟨⟨d, rfl, hf⟩, fun r hr => by
  obtain ⟨d', x, e, rfl, hx⟩ := hr
  have e := cd_inj e
  subst e
  exact h x hx⟩

def w_law_small_r0_3 : WS := (wRet (wBin dIx (wLst (wCons (wBin dSub (wCall pre_law_take post_law_take (wCons (wName 0) (wCons (wC (.int 9)) wNil))) (wC (.int 4))) (wCons (wC (.int 0)) (wCons (wC (.int 0)) (wCons (wC (.int 1)) (wCons (wBin dSub (wCall pre_law_take post_law_take (wCons (wName 0) (wCons (wC (.int 99)) wNil))) (wC (.int 49))) wNil)))))) (wCall pre_law_take post_law_take (wCons (wName 0) (wCons (wC (.int 5)) wNil)))))
def w_law_small_r0_2 : WS := wSeq (wIfS (wTest (wBin dEq (wBin dIx (wName 1) (wC (.int 0))) (wC (.str (Str.ofString "P"))))) (wRet (wCall pre_law_strip post_law_strip (wCons (wBin dIx (wName 1) (wC (.int 1))) (wCons (wFree (wComp (wiR1 (wCons (wCall pre_law_take post_law_take (wCons (wName 0) (wCons (wC (.int 3)) wNil))) wNil)) 2 wYes (wCall pre_never post_never (wCons (wName 0) (wCons (wBin dIx (wName 1) (wC (.int 1))) wNil))))) wNil)))) wNext) w_law_small_r0_3
def w_law_small_r0_1 : WS := wSeq (wIfS (wTest (wBin dEq (wBin dIx (wName 1) (wC (.int 0))) (wC (.str (Str.ofString "Q"))))) (wRet (wCall pre_law_fraction post_law_fraction (wCons (wBin dSub (wCall pre_law_take post_law_take (wCons (wName 0) (wCons (wC (.int 9)) wNil))) (wC (.int 4))) (wCons (wBin dAdd (wC (.int 1)) (wCall pre_law_take post_law_take (wCons (wName 0) (wCons (wC (.int 3)) wNil)))) wNil)))) wNext) w_law_small_r0_2
def w_law_small_r0_0 : WS := wSeq (wIfS (wTest (wBin dEq (wBin dIx (wName 1) (wC (.int 0))) (wC (.str (Str.ofString "F"))))) (wRet (wBin dMod (wB bInt (wCons (wCall pre_law_take post_law_take (wCons (wName 0) (wCons (wC (.int 65536)) wNil))) wNil)) (wBin dIx (wName 1) (wC (.int 1))))) wNext) w_law_small_r0_1

theorem body_law_small_r0 : ∀ ds, pre_law_small_r0 ds → w_law_small_r0_0 { nx := fun _ => post_law_small_r0 ds .none, rt := post_law_small_r0 ds } (env0 ["c", "d", "k"] ds) := by
  intro ds h
  obtain ⟨d, rfl, hf⟩ := h
  unfold w_law_small_r0_0
  cases d with
  | P f => exact hf.elim
  | K f => cases f with
    | F n =>
      simp only [Dom.enc, Fld.enc]
      walk_at "dl"
      rw [take_iff]
      refine ⟨⟨by decide, by decide⟩, fun r r0 r1 => ?_⟩
      walk_at "dl"
      exact ⟨by omega, .K (.F n), (Fld.F n).num r, rfl, (Fld.el_num_F n r).symm, trivial⟩
    | Q =>
      simp only [Dom.enc, Fld.enc]
      walk_at "dl"
      unfold w_law_small_r0_1
      walk_at "dl"
      rw [take_iff]
      refine ⟨⟨by decide, by decide⟩, fun r r0 r1 => ?_⟩
      walk_at "dl"
      rw [take_iff]
      refine ⟨⟨by decide, by decide⟩, fun s s0 s1 => ?_⟩
      walk_at "dl"
      refine lfraction_iff (by omega) (Nat.lt_of_lt_of_le (show (1 + s).natAbs < 2 ^ 8 by omega) (Nat.pow_le_pow_right (by decide) (by decide))) fun a b hF => ?_
      obtain ⟨x, ex, hx⟩ := frac_el hF (by omega)
      rw [ex]
      refine ⟨.K .Q, x, rfl, rfl, ?_⟩
      have hs : s = 0 ∨ s = 1 ∨ s = 2 := by omega
      rcases hs with rfl | rfl | rfl
      · exact In_of hx (k := 6) (by decide) (by omega)
      · exact In_of hx (k := 3) (by decide) (by omega)
      · exact In_of hx (k := 2) (by decide) (by omega)
  | Z =>
    simp only [Dom.enc]
    walk_at "dl"
    unfold w_law_small_r0_1
    walk_at "dl"
    unfold w_law_small_r0_2
    walk_at "dl"
    unfold w_law_small_r0_3
    walk_at "dl"
    rw [take_iff]
    refine ⟨⟨by decide, by decide⟩, fun r r0 r1 => ?_⟩
    walk_at "dl"
    rw [take_iff]
    refine ⟨⟨by decide, by decide⟩, fun s s0 s1 => ?_⟩
    walk_at "dl"
    rw [take_iff]
    refine ⟨⟨by decide, by decide⟩, fun k k0 k1 => ?_⟩
    refine dIx_mem k0 (by exact k1) fun d hd => ?_
    have hn : ∃ n : Int, d = .int n ∧ n.natAbs ≤ 50 := by
      have := List.mem_of_getElem? hd
      simp only [List.mem_cons, List.not_mem_nil, or_false] at this
      rcases this with h | h | h | h | h <;> exact ⟨_, h, by omega⟩
    obtain ⟨n, rfl, hn⟩ := hn
    exact ⟨.Z, n, rfl, rfl, hn⟩

theorem ok_law_small_r0 {P : Program} {w : World} {K : Fg} {mg : Str → Option Value} {base : Heap} {fa : Nat → Addr} {fdd : Nat → FuncData} (T : Txt K mg fa fdd) : FnOk P w K mg base CX0 3 (fa 29) (fdd 29) ["c", "d"] (SpD K pre_law_small_r0 post_law_small_r0) := by
  have G14 : FnOk P w K mg base CX0 2 (fa 14) (fdd 14) ["n", "m"] (SpD K pre_law_fraction post_law_fraction) := ok_law_fraction T
  have G16 : FnOk P w K mg base CX0 2 (fa 16) (fdd 16) ["f", "parts"] (SpD K pre_law_strip post_law_strip) := ok_law_strip T
  have G11 : FnOk P w K mg base CX0 2 (fa 11) (fdd 11) ["c", "many"] (SpD K pre_law_take post_law_take) := ok_law_take T
  have G29 : FnOk P w K mg base CX0 0 (fa 29) (fdd 29) ["c", "d"] (SpD K pre_never post_never) := fn_never
  exact fn_ok T.F29 sc29 len_law_small_r0 (fun cdv A outer s H E hr => ⟨_, w_law_small_r0_0, (dss_cons (ds_if (dt_cmp (op_eqP hr.units) sn2_eq (de_ix ix_D sn2_ix (de_name 1) de_int) de_str) (dss_one (ds_ret (de_op op_modN sn2_mod (de_callTy call_int1 snc_int (by rfl) T.m_int (by decide +kernel) (da_cons (de_call G11 hr (by rfl) T.g11 T.F11.kp T.b11 pass0 (da_cons (de_name 0) (da_cons de_int da_nil))) da_nil)) (de_ix ix_D sn2_ix (de_name 1) de_int)))) dss_nil)
      (dss_cons (ds_if (dt_cmp (op_eqP hr.units) sn2_eq (de_ix ix_D sn2_ix (de_name 1) de_int) de_str) (dss_one (ds_ret (de_call G14 hr (by rfl) T.g14 T.F14.kp T.b14 pass0 (da_cons (de_op op_sub sn2_sub (de_call G11 hr (by rfl) T.g11 T.F11.kp T.b11 pass0 (da_cons (de_name 0) (da_cons de_int da_nil))) de_int) (da_cons (de_op op_addD sn2_add de_int (de_call G11 hr (by rfl) T.g11 T.F11.kp T.b11 pass0 (da_cons (de_name 0) (da_cons de_int da_nil)))) da_nil))))) dss_nil)
      (dss_cons (ds_if (dt_cmp (op_eqP hr.units) sn2_eq (de_ix ix_D sn2_ix (de_name 1) de_int) de_str) (dss_one (ds_ret (de_call G16 hr (by rfl) T.g16 T.F16.kp T.b16 pass0 (da_cons (de_ix ix_D sn2_ix (de_name 1) de_int) (da_cons (DF.de (df_comp (x := "k") (i := 2) rfl sc29.nd (di_rng1 (by rfl) T.m_range (da_cons (de_call G11 hr (by rfl) T.g11 T.F11.kp T.b11 pass0 (da_cons (de_name 0) (da_cons de_int da_nil))) da_nil)) (by first | exact (blkOk_by (own := [("k", 2)]) (N := ["c", "d", "k"]) (sc := defScope s29) (by decide +kernel)) | (refine blkOk_by ?_; dsimp only [Cx.blk, Cx.nox, Cx.wish, Cx.tr, cxOf, envOfC, compEnvC, relab]; decide +kernel)) (fun _ _ _ _ _ => pg_name (i := 2) sc29.nd rfl (by first | exact Or.inl rfl | exact Or.inr rfl)) (fun _ _ _ _ _ => ⟨_, dts_nil, by first | (dsimp only [Cx.blk]; rfl) | dsimp only [Cx.blk] | rfl⟩) (fun _ _ _ _ _ => ⟨_, (de_call G29 (hr.mono (by decide)) (by rfl) T.g29 T.F29.kp T.b29 pass0 (da_cons (de_name 0) (da_cons (de_ix ix_D sn2_ix (de_name 1) de_int) da_nil))), by first | (dsimp only [Cx.blk]; rfl) | dsimp only [Cx.blk] | rfl⟩))) da_nil))))) dss_nil)
      (dss_one (ds_ret (de_ix ix_D sn2_ix (de_lst (da_cons (de_op op_sub sn2_sub (de_call G11 hr (by rfl) T.g11 T.F11.kp T.b11 pass0 (da_cons (de_name 0) (da_cons de_int da_nil))) de_int) (da_cons de_int (da_cons de_int (da_cons de_int (da_cons (de_op op_sub sn2_sub (de_call G11 hr (by rfl) T.g11 T.F11.kp T.b11 pass0 (da_cons (de_name 0) (da_cons de_int da_nil))) de_int) da_nil)))))) (de_call G11 hr (by rfl) T.g11 T.F11.kp T.b11 pass0 (da_cons (de_name 0) (da_cons de_int da_nil))))))))), body_law_small_r0⟩)
/-! ### primes_for -/
def pre_primes_for : List D → Prop := fun ds => ∃ m : Int, ds = [.int m] ∧ m ≤ 10 ^ 40
theorem len_primes_for (ds : List D) (h : pre_primes_for ds) : ds.length = ["m"].length := by obtain ⟨_, rfl, _⟩ := h; rfl
def post_primes_for : List D → D → Prop := fun ds r => ∃ (m : Int) (t : Nat), ds = [.int m] ∧ Least m t ∧ r = lN (fE t)
theorem primes_for_iff (m : Int) (hm : m ≤ 10 ^ 40) {Q : D → Prop} (h : ∀ t, Least m t → Q (lN (fE t))) : (pre_primes_for [.int m] ∧ ∀ r, post_primes_for [.int m] r → Q r) := ⟨⟨m, rfl, hm⟩, fun r hr => by
  obtain ⟨m', t, e, ht, rfl⟩ := hr
  cases e
  exact h t ht⟩
def mu_primes_for (ρ : Rho) : Nat := match look ρ 0, look ρ 2 with
  | .val (.int m), .val (.int t) => (m + 1 - t).toNat
  | _, _ => 0
theorem even_np {x : Int} (h : 2 < x) (e : x % 2 = 0) : ¬ Prime x := fun p => p.2 2 (by decide) (by omega) (Int.dvd_of_emod_eq_zero e)
theorem cE_prime {t : Nat} (h : t < 36) : prB (cE t) = true ↔ Prime ((cE t : Nat) : Int) := prB_iff (by unfold cE; omega) (by unfold cE; omega)
theorem pE_lt {t : Nat} (h : t ≤ 36) : pE t < 2 ^ 2000 := by
  have h1 := pE_mono t (36 - t)
  rw [show t + (36 - t) = 36 by omega] at h1
  refine Nat.lt_of_le_of_lt h1 (Nat.lt_of_lt_of_le (show pE 36 < 2 ^ 600 by decide +kernel) (Nat.pow_le_pow_right (by decide) (by decide)))

def w_primes_for_4 : WS := (wRet (wName 1))
def w_primes_for_3_b : WS := (wSeq (wAsg (wCall pre_next_prime post_next_prime (wCons (wName 3) wNil)) (wgName 3))
    (wSeq (wApp 1 (wName 3))
    (wAug 2 dMulI (wName 3))))
def w_primes_for_3 : WS := wSeq (wWhile (wTest (wBin dLe (wName 2) (wName 0))) w_primes_for_3_b) w_primes_for_4
def w_primes_for_2 : WS := wSeq (wAsg (wC (.int 32768)) (wgName 3)) w_primes_for_3
def w_primes_for_1 : WS := wSeq (wAsg (wC (.int 1)) (wgName 2)) w_primes_for_2
def w_primes_for_0 : WS := wSeq (wKeep 1 (wFLst wNil)) w_primes_for_1

set_option exponentiation.threshold 20000 in
theorem body_primes_for : ∀ ds, pre_primes_for ds → w_primes_for_0 { nx := fun _ => post_primes_for ds .none, rt := post_primes_for ds } (env0 ["m", "out", "total", "last"] ds) := by
  intro ds h
  obtain ⟨m, rfl, hm⟩ := h
  have hpp : PP = 4294967291 := rfl
  unfold w_primes_for_0
  walk_at "dl"
  unfold w_primes_for_1
  walk_at "dl"
  unfold w_primes_for_2
  walk_at "dl"
  unfold w_primes_for_3
  walk_at "dl"
  refine ⟨fun ρ => ∃ (t : Nat) (last : Int), t ≤ 36 ∧ (∀ s, s < t → ((pE s : Nat) : Int) ≤ m) ∧ (t = 0 ∧ last = 32768 ∨ last = 32767 + 2 * t) ∧ ρ = [.val (.int m), .own ((fE t).map fun i => .int (i : Nat)), .val (.int (pE t : Nat)), .val (.int last)], mu_primes_for, ⟨0, 32768, by decide, fun s hs => absurd hs (Nat.not_lt_zero s), .inl ⟨rfl, rfl⟩, rfl⟩, ?_⟩
  rintro ρ ⟨t, last, ht, hs, hl, rfl⟩
  walk_at "dl"
  by_cases c : ((pE t : Nat) : Int) ≤ m
  · rw [if_pos c]
    have t36 := Least.lt hm c
    have p36 := pE_36
    obtain ⟨s, ts, s36, ps, hno⟩ := next_cand (t := t) (by omega) ht
    unfold w_primes_for_3_b
    walk_at "dl"
    refine next_prime_iff (by omega) (by omega) fun q hq => ?_
    have hcs : cE s = 32769 + 2 * s := rfl
    have hN : Next last (cE s : Nat) := ⟨by omega, (cE_prime s36).mp ps, by omega, fun x x1 x2 => by
      by_cases ev : x % 2 = 0
      · exact even_np (by omega) ev
      · have hi : x = ((cE ((x - 32769) / 2).toNat : Nat) : Int) := by unfold cE; omega
        have hf := hno ((x - 32769) / 2).toNat (by omega) (by omega)
        intro px
        rw [hi] at px
        rw [(cE_prime (by omega)).mpr px] at hf
        cases hf⟩
    obtain rfl := hq.uniq hN
    obtain ⟨f1, f2⟩ := skip_no hno (s - t) (by omega)
    rw [show t + (s - t) = s by omega] at f1 f2
    have e1 : fE (s + 1) = fE t ++ [cE s] := by rw [fE_succ, ps, if_pos rfl, f1]
    have e2 : pE (s + 1) = pE t * cE s := by rw [pE_succ, ps, if_pos rfl, f2]
    have hs2 : ∀ i, i < s + 1 → ((pE i : Nat) : Int) ≤ m := fun i h => by
      by_cases d : i < t
      · exact hs i d
      · have := (skip_no hno (i - t) (by omega)).2
        rw [show t + (i - t) = i by omega] at this
        rw [this]; exact c
    have pp := pE_pos t
    have pl := pE_lt ht
    have p2 : (pE t : Int) + pE t ≤ (pE t : Int) * (cE s : Nat) := by
      have := Nat.mul_le_mul_left (pE t) (show 2 ≤ cE s by omega)
      rw [← Int.natCast_mul]
      omega
    have hl := fE_len t
    refine ⟨by rw [List.length_map]; omega, ?_⟩
    refine ⟨mulOk_of (a := 2000) (b := 32) (by omega) (by
      have : (2 : Nat) ^ 32 = 4294967296 := by decide
      omega) (by decide) (by decide) (by decide), ⟨s + 1, ((cE s : Nat) : Int), by omega, hs2, .inr (by omega), by rw [e1, e2, List.map_append, Int.natCast_mul]; rfl⟩, ?_⟩
    simp only [mu_primes_for, look]
    omega
  · rw [if_neg c]
    unfold w_primes_for_4
    walk_at "dl"
    exact ⟨m, t, rfl, ⟨by omega, hs⟩, rfl⟩

theorem ok_primes_for {P : Program} {w : World} {K : Fg} {mg : Str → Option Value} {base : Heap} {fa : Nat → Addr} {fdd : Nat → FuncData} (T : Txt K mg fa fdd) : FnOk P w K mg base CX0 4 (fa 8) (fdd 8) ["m"] (SpD K pre_primes_for post_primes_for) := by
  have G1 : FnOk P w K mg base CX0 3 (fa 1) (fdd 1) ["n"] (SpD K pre_next_prime post_next_prime) := ok_next_prime T
  exact fn_ok T.F8 sc8 len_primes_for (fun cdv A outer s H E hr => ⟨_, w_primes_for_0, (dss_cons (ds_keep (i := 1) sc8.nd (df_lst da_nil))
      (dss_cons (ds_set (i := 2) sc8.nd de_int)
      (dss_cons (ds_set (i := 3) sc8.nd (de_gint (by rfl) T.c_FIRST.choose_spec ⟨_, rfl⟩))
      (dss_cons (ds_while PassesOwn.never (dt_cmp op_le sn2_le (de_name 2) (de_name 0)) (dss_cons (ds_set (i := 3) sc8.nd (de_call G1 hr (by rfl) T.g1 T.F1.kp T.b1 pass0 (da_cons (de_name 3) da_nil)))
      (dss_cons (ds_app (i := 1) (de_name 3) (pv 1))
      (dss_one (ds_aug (i := 2) sc8.nd ip_mulD sn2_mulI (de_name 3))))))
      (dss_one (ds_ret (de_name 1))))))), body_primes_for⟩)
/-! ### _law_number -/
def pre_law_number : List D → Prop := fun ds => ∃ (d : Dom) (n : Int), ds = [d.enc, .int n]
theorem len_law_number (ds : List D) (h : pre_law_number ds) : ds.length = ["d", "n"].length := by obtain ⟨_, _, rfl⟩ := h; rfl
def post_law_number : List D → D → Prop := fun ds r => ∃ (d : Dom) (n : Int), ds = [d.enc, .int n] ∧ r = d.el (d.num n)
theorem lnumber_iff (d : Dom) (n : Int) {Q : D → Prop} (h : Q (d.el (d.num n))) : (pre_law_number [d.enc, .int n] ∧ ∀ r, post_law_number [d.enc, .int n] r → Q r) := ⟨⟨d, n, rfl⟩, fun r hr => by
  obtain ⟨d', n', e, rfl⟩ := hr
  obtain ⟨rfl, rfl⟩ := dn_inj e
  exact h⟩

def w_law_number_3 : WS := (wRet (wName 1))
def w_law_number_2 : WS := wSeq (wIfS (wTest (wBin dEq (wBin dIx (wName 0) (wC (.int 0))) (wC (.str (Str.ofString "P"))))) (wRet (wCall pre_law_strip post_law_strip (wCons (wBin dIx (wName 0) (wC (.int 1))) (wCons (wLst (wCons (wCall pre_law_number_r0 post_law_number_r0 (wCons (wBin dIx (wName 0) (wC (.int 1))) (wCons (wName 1) wNil))) wNil)) wNil)))) wNext) w_law_number_3
def w_law_number_1 : WS := wSeq (wIfS (wTest (wBin dEq (wBin dIx (wName 0) (wC (.int 0))) (wC (.str (Str.ofString "F"))))) (wRet (wBin dMod (wB bInt (wCons (wName 1) wNil)) (wBin dIx (wName 0) (wC (.int 1))))) wNext) w_law_number_2
def w_law_number_0 : WS := wSeq (wIfS (wTest (wBin dEq (wBin dIx (wName 0) (wC (.int 0))) (wC (.str (Str.ofString "Q"))))) (wRet (wTup (wCons (wName 1) (wCons (wC (.int 1)) wNil)))) wNext) w_law_number_1

theorem body_law_number : ∀ ds, pre_law_number ds → w_law_number_0 { nx := fun _ => post_law_number ds .none, rt := post_law_number ds } (env0 ["d", "n"] ds) := by
  intro ds h
  obtain ⟨d, n, rfl⟩ := h
  unfold w_law_number_0 w_law_number_1 w_law_number_2 w_law_number_3
  cases d with
  | Z =>
    simp only [Dom.enc]
    walk_at "dl"
    exact ⟨.Z, n, rfl, rfl⟩
  | K f =>
    cases f with
    | Q =>
      simp only [Dom.enc, Fld.enc]
      walk_at "dl"
      exact ⟨.K .Q, n, rfl, rfl⟩
    | F m =>
      simp only [Dom.enc, Fld.enc]
      walk_at "dl"
      exact ⟨by omega, .K (.F m), n, rfl, (Fld.el_num_F m n).symm⟩
  | P f =>
    simp only [Dom.enc]
    walk_at "dl"
    refine lnumber_r0_iff (.K f) n trivial ?_
    refine lstrip_iff f [f.num n] (by simp) ?_
    exact ⟨.P f, n, rfl, rfl⟩

theorem ok_law_number {P : Program} {w : World} {K : Fg} {mg : Str → Option Value} {base : Heap} {fa : Nat → Addr} {fdd : Nat → FuncData} (T : Txt K mg fa fdd) : FnOk P w K mg base CX0 4 (fa 17) (fdd 17) ["d", "n"] (SpD K pre_law_number post_law_number) := by
  have G16 : FnOk P w K mg base CX0 2 (fa 16) (fdd 16) ["f", "parts"] (SpD K pre_law_strip post_law_strip) := ok_law_strip T
  have G17 : FnOk P w K mg base CX0 3 (fa 17) (fdd 17) ["d", "n"] (SpD K pre_law_number_r0 post_law_number_r0) := ok_law_number_r0 T
  exact fn_ok T.F17 sc17 len_law_number (fun cdv A outer s H E hr => ⟨_, w_law_number_0, (dss_cons (ds_if (dt_cmp (op_eqP hr.units) sn2_eq (de_ix ix_D sn2_ix (de_name 0) de_int) de_str) (dss_one (ds_ret (de_tup (da_cons (de_name 1) (da_cons de_int da_nil))))) dss_nil)
      (dss_cons (ds_if (dt_cmp (op_eqP hr.units) sn2_eq (de_ix ix_D sn2_ix (de_name 0) de_int) de_str) (dss_one (ds_ret (de_op op_modN sn2_mod (de_callTy call_int1 snc_int (by rfl) T.m_int (by decide +kernel) (da_cons (de_name 1) da_nil)) (de_ix ix_D sn2_ix (de_name 0) de_int)))) dss_nil)
      (dss_cons (ds_if (dt_cmp (op_eqP hr.units) sn2_eq (de_ix ix_D sn2_ix (de_name 0) de_int) de_str) (dss_one (ds_ret (de_call G16 (hr.mono (by decide)) (by rfl) T.g16 T.F16.kp T.b16 pass0 (da_cons (de_ix ix_D sn2_ix (de_name 0) de_int) (da_cons (de_lst (da_cons (de_call G17 hr (by rfl) T.g17 T.F17.kp T.b17 pass0 (da_cons (de_ix ix_D sn2_ix (de_name 0) de_int) (da_cons (de_name 1) da_nil))) da_nil)) da_nil))))) dss_nil)
      (dss_one (ds_ret (de_name 1)))))), body_law_number⟩)
/-! ### _law_add -/
def pre_law_add : List D → Prop := fun ds => ∃ (d : Dom) (x y : d.C), ds = [d.enc, d.el x, d.el y] ∧ d.Sm 3000 x ∧ d.Sm 3000 y
theorem len_law_add (ds : List D) (h : pre_law_add ds) : ds.length = ["d", "x", "y"].length := by obtain ⟨_, _, _, rfl, _⟩ := h; rfl
def post_law_add : List D → D → Prop := fun ds r => ∃ (d : Dom) (x y : d.C), ds = [d.enc, d.el x, d.el y] ∧ r = d.el (x + y)
theorem ladd_iff (d : Dom) (x y : d.C) (hx : d.Sm 3000 x) (hy : d.Sm 3000 y) {Q : D → Prop} (h : Q (d.el (x + y))) : (pre_law_add [d.enc, d.el x, d.el y] ∧ ∀ r, post_law_add [d.enc, d.el x, d.el y] r → Q r) := ⟨⟨d, x, y, rfl, hx, hy⟩, fun r hr => by
  obtain ⟨d', x', y', e, rfl⟩ := hr
  obtain ⟨rfl, rfl, rfl⟩ := dxy_inj e
  exact h⟩

def w_law_add_3 : WS := (wRet (wBin dAdd (wName 1) (wName 2)))
def w_law_add_2 : WS := wSeq (wIfS (wTest (wBin dEq (wBin dIx (wName 0) (wC (.int 0))) (wC (.str (Str.ofString "P"))))) (wSeq (wAsg (wB bMax (wCons (wB bLen (wCons (wName 1) wNil)) (wCons (wB bLen (wCons (wName 2) wNil)) wNil))) (wgName 3))
    (wRet (wCall pre_law_strip post_law_strip (wCons (wBin dIx (wName 0) (wC (.int 1))) (wCons (wFree (wComp (wiR1 (wCons (wName 3) wNil)) 4 wYes (wCall pre_law_add_r0 post_law_add_r0 (wCons (wBin dIx (wName 0) (wC (.int 1))) (wCons (wCall pre_law_part post_law_part (wCons (wBin dIx (wName 0) (wC (.int 1))) (wCons (wName 1) (wCons (wName 4) wNil)))) (wCons (wCall pre_law_part post_law_part (wCons (wBin dIx (wName 0) (wC (.int 1))) (wCons (wName 2) (wCons (wName 4) wNil)))) wNil)))))) wNil))))) wNext) w_law_add_3
def w_law_add_1 : WS := wSeq (wIfS (wTest (wBin dEq (wBin dIx (wName 0) (wC (.int 0))) (wC (.str (Str.ofString "F"))))) (wRet (wBin dMod (wB bInt (wCons (wBin dAdd (wName 1) (wName 2)) wNil)) (wBin dIx (wName 0) (wC (.int 1))))) wNext) w_law_add_2
def w_law_add_0 : WS := wSeq (wIfS (wTest (wBin dEq (wBin dIx (wName 0) (wC (.int 0))) (wC (.str (Str.ofString "Q"))))) (wRet (wCall pre_law_fraction post_law_fraction (wCons (wBin dAdd (wBin dMul (wBin dIx (wName 1) (wC (.int 0))) (wBin dIx (wName 2) (wC (.int 1)))) (wBin dMul (wBin dIx (wName 2) (wC (.int 0))) (wBin dIx (wName 1) (wC (.int 1))))) (wCons (wBin dMul (wBin dIx (wName 1) (wC (.int 1))) (wBin dIx (wName 2) (wC (.int 1)))) wNil)))) wNext) w_law_add_1

theorem body_law_add : ∀ ds, pre_law_add ds → w_law_add_0 { nx := fun _ => post_law_add ds .none, rt := post_law_add ds } (env0 ["d", "x", "y", "long", "k"] ds) := by
  intro ds h
  obtain ⟨d, x, y, rfl, hx, hy⟩ := h
  unfold w_law_add_0 w_law_add_1 w_law_add_2 w_law_add_3
  cases d with
  | Z =>
    simp only [Dom.enc, Dom.el]
    walk_at "dl"
    exact ⟨.Z, x, y, rfl, rfl⟩
  | K f =>
    cases f with
    | Q =>
      simp only [Dom.enc, Fld.enc, Dom.el, Fld.el]
      walk_at "dl"
      exact add_frac hx hy ⟨.K .Q, x, y, rfl, rfl⟩
    | F m =>
      simp only [Dom.enc, Fld.enc, Dom.el, Fld.el]
      walk_at "dl"
      exact ⟨by omega, .K (.F m), x, y, rfl, (Fld.add_F x y).symm⟩
  | P f =>
    have hxl := hx.1
    have hyl := hy.1
    simp only [Dom.enc, Dom.el]
    walk_at "dl"
    simp only [List.length_map]
    have hc : ∃ N : Nat, N ≤ 50000 ∧ x.l.length ≤ N ∧ y.l.length ≤ N ∧ (if ((y.l.length : Nat) : Int) > (x.l.length : Nat) then ((y.l.length : Nat) : Int) else (x.l.length : Nat)) = (N : Nat) := by
      by_cases c : ((y.l.length : Nat) : Int) > (x.l.length : Nat)
      · exact ⟨y.l.length, hyl, by omega, Nat.le_refl _, by rw [if_pos c]⟩
      · exact ⟨x.l.length, hxl, Nat.le_refl _, by omega, by rw [if_neg c]⟩
    obtain ⟨N, n0, n1, n2, n3⟩ := hc
    rw [n3]
    refine ⟨⟨by omega, by omega⟩, ?_⟩
    rw [Int.toNat_natCast]
    refine wCompR_of (fun k => f.el (cf x.l k + cf y.l k)) (by omega) (fun j Q hj hQ => ?_) ?_
    · walk_at "dl"
      refine lpart_iff f x.l j ?_
      walk_at "dl"
      refine lpart_iff f y.l j ?_
      exact ladd_r0_iff (.K f) (cf x.l j) (cf y.l j) trivial (hx.2 j) (hy.2 j) hQ
    · rw [map_el]
      refine lstrip_iff f _ (by simp; omega) ⟨.P f, x, y, rfl, ?_⟩
      congr 1
      refine Pol.ext' fun k => ?_
      rw [pe_of, cf_map_range]
      refine Eq.trans ?_ (Pol.cadd (x : Pol f.C) y k).symm
      by_cases c : k < N
      · rw [if_pos c]
      · rw [if_neg c, cf_out (by omega), cf_out (by omega)]
        grind

theorem ok_law_add {P : Program} {w : World} {K : Fg} {mg : Str → Option Value} {base : Heap} {fa : Nat → Addr} {fdd : Nat → FuncData} (T : Txt K mg fa fdd) : FnOk P w K mg base CX0 4 (fa 19) (fdd 19) ["d", "x", "y"] (SpD K pre_law_add post_law_add) := by
  have G14 : FnOk P w K mg base CX0 2 (fa 14) (fdd 14) ["n", "m"] (SpD K pre_law_fraction post_law_fraction) := ok_law_fraction T
  have G16 : FnOk P w K mg base CX0 2 (fa 16) (fdd 16) ["f", "parts"] (SpD K pre_law_strip post_law_strip) := ok_law_strip T
  have G19 : FnOk P w K mg base CX0 3 (fa 19) (fdd 19) ["d", "x", "y"] (SpD K pre_law_add_r0 post_law_add_r0) := ok_law_add_r0 T
  have G18 : FnOk P w K mg base CX0 2 (fa 18) (fdd 18) ["d", "x", "k"] (SpD K pre_law_part post_law_part) := ok_law_part T
  exact fn_ok T.F19 sc19 len_law_add (fun cdv A outer s H E hr => ⟨_, w_law_add_0, (dss_cons (ds_if (dt_cmp (op_eqP hr.units) sn2_eq (de_ix ix_D sn2_ix (de_name 0) de_int) de_str) (dss_one (ds_ret (de_call G14 (hr.mono (by decide)) (by rfl) T.g14 T.F14.kp T.b14 pass0 (da_cons (de_op op_addD sn2_add (de_op op_mulD sn2_mul (de_ix ix_D sn2_ix (de_name 1) de_int) (de_ix ix_D sn2_ix (de_name 2) de_int)) (de_op op_mulD sn2_mul (de_ix ix_D sn2_ix (de_name 2) de_int) (de_ix ix_D sn2_ix (de_name 1) de_int))) (da_cons (de_op op_mulD sn2_mul (de_ix ix_D sn2_ix (de_name 1) de_int) (de_ix ix_D sn2_ix (de_name 2) de_int)) da_nil))))) dss_nil)
      (dss_cons (ds_if (dt_cmp (op_eqP hr.units) sn2_eq (de_ix ix_D sn2_ix (de_name 0) de_int) de_str) (dss_one (ds_ret (de_op op_modN sn2_mod (de_callTy call_int1 snc_int (by rfl) T.m_int (by decide +kernel) (da_cons (de_op op_addD sn2_add (de_name 1) (de_name 2)) da_nil)) (de_ix ix_D sn2_ix (de_name 0) de_int)))) dss_nil)
      (dss_cons (ds_if (dt_cmp (op_eqP hr.units) sn2_eq (de_ix ix_D sn2_ix (de_name 0) de_int) de_str) (dss_cons (ds_set (i := 3) sc19.nd (de_callB (call_max2 rfl) snc_max (by rfl) T.m_max (by decide +kernel) (da_cons (de_callB call_len_seq snc_len (by rfl) T.m_len (by decide +kernel) (da_cons (de_name 1) da_nil)) (da_cons (de_callB call_len_seq snc_len (by rfl) T.m_len (by decide +kernel) (da_cons (de_name 2) da_nil)) da_nil))))
      (dss_one (ds_ret (de_call G16 (hr.mono (by decide)) (by rfl) T.g16 T.F16.kp T.b16 pass0 (da_cons (de_ix ix_D sn2_ix (de_name 0) de_int) (da_cons (DF.de (df_comp (x := "k") (i := 4) rfl sc19.nd (di_rng1 (by rfl) T.m_range (da_cons (de_name 3) da_nil)) (by first | exact (blkOk_by (own := [("k", 4)]) (N := ["d", "x", "y", "long", "k"]) (sc := defScope s19) (by decide +kernel)) | (refine blkOk_by ?_; dsimp only [Cx.blk, Cx.nox, Cx.wish, Cx.tr, cxOf, envOfC, compEnvC, relab]; decide +kernel)) (fun _ _ _ _ _ => pg_name (i := 4) sc19.nd rfl (by first | exact Or.inl rfl | exact Or.inr rfl)) (fun _ _ _ _ _ => ⟨_, dts_nil, by first | (dsimp only [Cx.blk]; rfl) | dsimp only [Cx.blk] | rfl⟩) (fun _ _ _ _ _ => ⟨_, (de_call G19 hr (by rfl) T.g19 T.F19.kp T.b19 pass0 (da_cons (de_ix ix_D sn2_ix (de_name 0) de_int) (da_cons (de_call G18 (hr.mono (by decide)) (by rfl) T.g18 T.F18.kp T.b18 pass0 (da_cons (de_ix ix_D sn2_ix (de_name 0) de_int) (da_cons (de_name 1) (da_cons (de_name 4) da_nil)))) (da_cons (de_call G18 (hr.mono (by decide)) (by rfl) T.g18 T.F18.kp T.b18 pass0 (da_cons (de_ix ix_D sn2_ix (de_name 0) de_int) (da_cons (de_name 2) (da_cons (de_name 4) da_nil)))) da_nil)))), by first | (dsimp only [Cx.blk]; rfl) | dsimp only [Cx.blk] | rfl⟩))) da_nil)))))) dss_nil)
      (dss_one (ds_ret (de_op op_addD sn2_add (de_name 1) (de_name 2))))))), body_law_add⟩)
/-! ### _law_multiply -/
def pre_law_multiply : List D → Prop := fun ds => ∃ (d : Dom) (x y : d.C), ds = [d.enc, d.el x, d.el y] ∧ d.Mu x y ∧ d.Ok
theorem len_law_multiply (ds : List D) (h : pre_law_multiply ds) : ds.length = ["d", "x", "y"].length := by obtain ⟨_, _, _, rfl, _⟩ := h; rfl
def post_law_multiply : List D → D → Prop := fun ds r => ∃ (d : Dom) (x y : d.C), ds = [d.enc, d.el x, d.el y] ∧ r = d.el (x * y)
theorem lmultiply_iff (d : Dom) (x y : d.C) (hx : d.Mu x y) (ho : d.Ok) {Q : D → Prop} (h : Q (d.el (x * y))) : (pre_law_multiply [d.enc, d.el x, d.el y] ∧ ∀ r, post_law_multiply [d.enc, d.el x, d.el y] r → Q r) := ⟨⟨d, x, y, rfl, hx, ho⟩, fun r hr => by
  obtain ⟨d', x', y', e, rfl⟩ := hr
  obtain ⟨rfl, rfl, rfl⟩ := dxy_inj e
  exact h⟩

def w_law_multiply_3 : WS := (wRet (wBin dMul (wName 1) (wName 2)))
def w_law_multiply_2 : WS := wSeq (wIfS (wTest (wBin dEq (wBin dIx (wName 0) (wC (.int 0))) (wC (.str (Str.ofString "P"))))) (wSeq (wKeep 3 (wFBin fRep (wLst (wCons (wCall pre_law_zero post_law_zero (wCons (wBin dIx (wName 0) (wC (.int 1))) wNil)) wNil)) (wBin dAdd (wB bLen (wCons (wName 1) wNil)) (wB bLen (wCons (wName 2) wNil)))))
    (wSeq (wFor (wiR1 (wCons (wB bLen (wCons (wName 1) wNil)) wNil)) (wgName 4) (wFor (wiR1 (wCons (wB bLen (wCons (wName 2) wNil)) wNil)) (wgName 5) (wSetIx 3 (wCall pre_law_add_r0 post_law_add_r0 (wCons (wBin dIx (wName 0) (wC (.int 1))) (wCons (wBinP dIx (pName 3) (pAdd (pName 4) (pName 5))) (wCons (wCall pre_law_multiply_r0 post_law_multiply_r0 (wCons (wBin dIx (wName 0) (wC (.int 1))) (wCons (wBin dIx (wName 1) (wName 4)) (wCons (wBin dIx (wName 2) (wName 5)) wNil)))) wNil)))) (wBin dAdd (wName 4) (wName 5)))))
    (wRet (wCall pre_law_strip post_law_strip (wCons (wBin dIx (wName 0) (wC (.int 1))) (wCons (wName 3) wNil)))))) wNext) w_law_multiply_3
def w_law_multiply_1 : WS := wSeq (wIfS (wTest (wBin dEq (wBin dIx (wName 0) (wC (.int 0))) (wC (.str (Str.ofString "F"))))) (wRet (wBin dMod (wB bInt (wCons (wBin dMul (wName 1) (wName 2)) wNil)) (wBin dIx (wName 0) (wC (.int 1))))) wNext) w_law_multiply_2
def w_law_multiply_0 : WS := wSeq (wIfS (wTest (wBin dEq (wBin dIx (wName 0) (wC (.int 0))) (wC (.str (Str.ofString "Q"))))) (wRet (wCall pre_law_fraction post_law_fraction (wCons (wBin dMul (wBin dIx (wName 1) (wC (.int 0))) (wBin dIx (wName 2) (wC (.int 0)))) (wCons (wBin dMul (wBin dIx (wName 1) (wC (.int 1))) (wBin dIx (wName 2) (wC (.int 1)))) wNil)))) wNext) w_law_multiply_1

theorem body_law_multiply : ∀ ds, pre_law_multiply ds → w_law_multiply_0 { nx := fun _ => post_law_multiply ds .none, rt := post_law_multiply ds } (env0 ["d", "x", "y", "parts", "i", "j"] ds) := by
  intro ds h
  obtain ⟨d, x, y, rfl, hx, ho⟩ := h
  unfold w_law_multiply_0 w_law_multiply_1 w_law_multiply_2 w_law_multiply_3
  cases d with
  | Z =>
    simp only [Dom.enc, Dom.el]
    walk_at "dl"
    exact ⟨mulOk_of hx.1 hx.2 (by decide) (by decide) (by decide), .Z, x, y, rfl, rfl⟩
  | K f =>
    cases f with
    | Q =>
      simp only [Dom.enc, Fld.enc, Dom.el, Fld.el]
      walk_at "dl"
      exact mul_frac hx.1 hx.2 ⟨.K .Q, x, y, rfl, rfl⟩
    | F m =>
      simp only [Dom.enc, Fld.enc, Dom.el, Fld.el]
      walk_at "dl"
      exact ⟨mul_mod ho x y, by omega, .K (.F m), x, y, rfl, (Fld.mul_F x y).symm⟩
  | P f =>
    obtain ⟨hxl, hyl, M, A, N, B, M0, N0, mn, ab, a3, b3, hX, hY⟩ := hx
    simp only [Dom.enc, Dom.el]
    walk_at "dl"
    refine lzero_iff_f f ?_
    simp only [List.length_map]
    have fin : ∀ l : List f.C, (∀ k, cf l k = cf (pmul x.l y.l) k) → post_law_multiply [PyData.tuple [PyData.str tP, f.enc], PyData.tuple (List.map f.el x.l), PyData.tuple (List.map f.el y.l)] ((Dom.P f).el (Pol.of l)) := fun l hl => ⟨.P f, x, y, rfl, by
      congr 1
      refine Pol.ext' fun k => ?_
      rw [pe_of, hl k]
      exact (Pol.cmul (x : Pol f.C) y k).symm⟩
    generalize x.l = X at *
    generalize y.l = Y at *
    unfold fRep
    refine ⟨by omega, by omega, by simp; omega, ⟨by omega, by omega⟩, ?_⟩
    rw [flat_rep, Int.toNat_natCast, show ((X.length : Int) + (Y.length : Int)).toNat = X.length + Y.length by omega]
    have e0 : List.replicate (X.length + Y.length) (f.el 0) = (List.replicate (X.length + Y.length) (0 : f.C)).map f.el := by rw [List.map_replicate]
    rw [e0]
    refine wForN_of (fun i ρ => ∃ (P : List f.C) (x4 x5 : Slot), P.length = X.length + Y.length ∧ (∀ k, cf P k = cf (pmul (X.take i) Y) k) ∧ (∀ k, f.In (M * N) (i * (A * B)) (cf P k)) ∧ ρ = [.val (.tuple [.str tP, f.enc]), .val (.tuple (X.map f.el)), .val (.tuple (Y.map f.el)), .own (P.map f.el), x4, x5])
      ⟨List.replicate (X.length + Y.length) (0 : f.C), .un, .un, by simp, fun k => by rw [cf_rep, List.take_zero, cmn], fun k => by rw [cf_rep]; exact Fld.In.zero .., rfl⟩ (fun i ρ hi hI => ?_) fun ρ hI => ?_
    · obtain ⟨P, x4, x5, hl, hP, hIn, rfl⟩ := hI
      walk_at "dl"
      rw [List.length_map]
      refine ⟨⟨by omega, by omega⟩, ?_⟩
      rw [Int.toNat_natCast]
      have hiX : i < X.length := by omega
      refine wForN_of (fun j ρ => ∃ (P : List f.C) (x5 : Slot), P.length = X.length + Y.length ∧ (∀ k, cf P k = cf (pmul (X.take i) Y) k + if i ≤ k ∧ k - i < j then cf X i * cf Y (k - i) else 0) ∧ (∀ k, f.In (M * N) (if i ≤ k ∧ k - i < j then (i + 1) * (A * B) else i * (A * B)) (cf P k)) ∧ ρ = [.val (.tuple [.str tP, f.enc]), .val (.tuple (X.map f.el)), .val (.tuple (Y.map f.el)), .own (P.map f.el), .val (.int (0 + (i : Int))), x5])
        ⟨P, x5, hl, fun k => by rw [if_neg (by omega), hP k]; grind, fun k => by rw [if_neg (by omega)]; exact hIn k, rfl⟩ (fun j ρ hj hI => ?_) fun ρ hI => ?_
      · obtain ⟨P, x5, hl, hP, hIn, rfl⟩ := hI
        walk_at "dl"
        have t1 : (0 + (i : Int) + (0 + (j : Int))).toNat = i + j := by omega
        have t2 : (0 + (i : Int)).toNat = i := by omega
        have t3 : (0 + (j : Int)).toNat = j := by omega
        have mn0 : 0 < M * N := Nat.mul_pos M0 N0
        have m3 : M < 2 ^ 3000 := Nat.lt_of_le_of_lt (Nat.le_mul_of_pos_right M N0) mn
        have n3 : N < 2 ^ 3000 := Nat.lt_of_le_of_lt (Nat.le_mul_of_pos_left N M0) mn
        refine dIx_mem (by omega) (by rw [List.length_map]; omega) fun d hd => ?_
        rw [t1] at hd
        obtain rfl := el_get hd
        refine ⟨f.el_noList _, dIx_memT (by omega) (by rw [List.length_map]; omega) fun d2 hd2 => dIx_memT (by omega) (by rw [List.length_map]; omega) fun d3 hd3 => ?_⟩
        rw [t2] at hd2
        rw [t3] at hd3
        obtain rfl := el_get hd2
        obtain rfl := el_get hd3
        refine lmultiply_r0_iff (.K f) (cf X i) (cf Y j) ((hX i).small M0 m3 ab) ((hY j).small N0 n3 a3) ho ?_
        have hv := hIn (i + j)
        rw [if_neg (by omega)] at hv
        have hw := (hX i).mul (hY j)
        have hs := hv.add hw
        have l1 : i * (A * B) ≤ (X.length + 1) * (A * B) := Nat.mul_le_mul_right _ (by omega)
        have l2 : A * B ≤ (X.length + 1) * (A * B) := Nat.le_mul_of_pos_left _ (by omega)
        refine ladd_r0_iff (.K f) (cf P (i + j)) (cf X i * cf Y j) trivial (hv.small mn0 mn (Nat.lt_of_le_of_lt l1 b3)) (hw.small mn0 mn (Nat.lt_of_le_of_lt l2 b3)) ?_
        refine ⟨i + j, by unfold ixN; rw [if_pos (by omega), if_pos (by rw [List.length_map]; omega), t1], P.set (i + j) (cf P (i + j) + cf X i * cf Y j), _, by rw [List.length_set, hl], fun k => ?_, fun k => ?_, by rw [List.map_set]; rfl⟩
        · rw [cf_set _ k (by omega)]
          by_cases c : i + j = k
          · subst c
            rw [if_pos rfl, if_pos (by omega), hP (i + j), if_neg (by omega), show i + j - i = j by omega]
            grind
          · rw [if_neg c, hP k]
            by_cases c2 : i ≤ k ∧ k - i < j
            · rw [if_pos c2, if_pos (by omega)]
            · rw [if_neg c2, if_neg (by omega)]
        · rw [cf_set _ k (by omega)]
          by_cases c : i + j = k
          · subst c
            rw [if_pos rfl, if_pos (by omega)]
            exact hs.mono (by rw [Nat.add_mul]; omega)
          · rw [if_neg c]
            have := hIn k
            by_cases c2 : i ≤ k ∧ k - i < j
            · rw [if_pos c2] at this
              rw [if_pos (by omega)]
              exact this
            · rw [if_neg c2] at this
              rw [if_neg (by omega)]
              exact this
      · obtain ⟨P, x5, hl, hP, hIn, rfl⟩ := hI
        refine ⟨P, _, x5, hl, fun k => ?_, fun k => ?_, rfl⟩
        · rw [hP k, cf_mul_take X Y i k]
          by_cases c : i ≤ k
          · rw [if_pos c]
            by_cases c2 : k - i < Y.length
            · rw [if_pos ⟨c, c2⟩]
            · rw [if_neg (by omega), cf_out (l := Y) (by omega)]
              grind
          · rw [if_neg c, if_neg (by omega)]
        · refine (hIn k).mono ?_
          split
          · exact Nat.le_refl _
          · exact Nat.mul_le_mul_right _ (by omega)
    · obtain ⟨P, x4, x5, hl, hP, hIn, rfl⟩ := hI
      rw [List.take_length] at hP
      walk_at "dl"
      exact lstrip_iff f P (by omega) (fin P hP)

theorem ok_law_multiply {P : Program} {w : World} {K : Fg} {mg : Str → Option Value} {base : Heap} {fa : Nat → Addr} {fdd : Nat → FuncData} (T : Txt K mg fa fdd) : FnOk P w K mg base CX0 4 (fa 20) (fdd 20) ["d", "x", "y"] (SpD K pre_law_multiply post_law_multiply) := by
  have G14 : FnOk P w K mg base CX0 2 (fa 14) (fdd 14) ["n", "m"] (SpD K pre_law_fraction post_law_fraction) := ok_law_fraction T
  have G16 : FnOk P w K mg base CX0 2 (fa 16) (fdd 16) ["f", "parts"] (SpD K pre_law_strip post_law_strip) := ok_law_strip T
  have G15 : FnOk P w K mg base CX0 1 (fa 15) (fdd 15) ["d"] (SpD K pre_law_zero post_law_zero) := ok_law_zero T
  have G19 : FnOk P w K mg base CX0 3 (fa 19) (fdd 19) ["d", "x", "y"] (SpD K pre_law_add_r0 post_law_add_r0) := ok_law_add_r0 T
  have G20 : FnOk P w K mg base CX0 3 (fa 20) (fdd 20) ["d", "x", "y"] (SpD K pre_law_multiply_r0 post_law_multiply_r0) := ok_law_multiply_r0 T
  exact fn_ok T.F20 sc20 len_law_multiply (fun cdv A outer s H E hr => ⟨_, w_law_multiply_0, (dss_cons (ds_if (dt_cmp (op_eqP hr.units) sn2_eq (de_ix ix_D sn2_ix (de_name 0) de_int) de_str) (dss_one (ds_ret (de_call G14 (hr.mono (by decide)) (by rfl) T.g14 T.F14.kp T.b14 pass0 (da_cons (de_op op_mulD sn2_mul (de_ix ix_D sn2_ix (de_name 1) de_int) (de_ix ix_D sn2_ix (de_name 2) de_int)) (da_cons (de_op op_mulD sn2_mul (de_ix ix_D sn2_ix (de_name 1) de_int) (de_ix ix_D sn2_ix (de_name 2) de_int)) da_nil))))) dss_nil)
      (dss_cons (ds_if (dt_cmp (op_eqP hr.units) sn2_eq (de_ix ix_D sn2_ix (de_name 0) de_int) de_str) (dss_one (ds_ret (de_op op_modN sn2_mod (de_callTy call_int1 snc_int (by rfl) T.m_int (by decide +kernel) (da_cons (de_op op_mulD sn2_mul (de_name 1) (de_name 2)) da_nil)) (de_ix ix_D sn2_ix (de_name 0) de_int)))) dss_nil)
      (dss_cons (ds_if (dt_cmp (op_eqP hr.units) sn2_eq (de_ix ix_D sn2_ix (de_name 0) de_int) de_str) (dss_cons (ds_keep (i := 3) sc20.nd (df_rep (de_lst (da_cons (de_call G15 (hr.mono (by decide)) (by rfl) T.g15 T.F15.kp T.b15 pass0 (da_cons (de_ix ix_D sn2_ix (de_name 0) de_int) da_nil)) da_nil)) (de_op op_addD sn2_add (de_callB call_len_seq snc_len (by rfl) T.m_len (by decide +kernel) (da_cons (de_name 1) da_nil)) (de_callB call_len_seq snc_len (by rfl) T.m_len (by decide +kernel) (da_cons (de_name 2) da_nil)))))
      (dss_cons (ds_for PassesOwn.never rfl (di_rng1 (by rfl) T.m_range (da_cons (de_callB call_len_seq snc_len (by rfl) T.m_len (by decide +kernel) (da_cons (de_name 1) da_nil)) da_nil)) (dg_name (i := 4) sc20.nd) (dss_one (ds_for PassesOwn.never rfl (di_rng1 (by rfl) T.m_range (da_cons (de_callB call_len_seq snc_len (by rfl) T.m_len (by decide +kernel) (da_cons (de_name 2) da_nil)) da_nil)) (dg_name (i := 5) sc20.nd) (dss_one (ds_setix (i := 3) (de_call G19 hr (by rfl) T.g19 T.F19.kp T.b19 pass0 (da_cons (de_ix ix_D sn2_ix (de_name 0) de_int) (da_cons (de_ixP ix_D sn2_ix (dp_name 3) (dp_add (dp_name 4) (dp_name 5))) (da_cons (de_call G20 hr (by rfl) T.g20 T.F20.kp T.b20 pass0 (da_cons (de_ix ix_D sn2_ix (de_name 0) de_int) (da_cons (de_ix ix_D sn2_ix (de_name 1) (de_name 4)) (da_cons (de_ix ix_D sn2_ix (de_name 2) (de_name 5)) da_nil)))) da_nil)))) (de_op op_addD sn2_add (de_name 4) (de_name 5)) (pg_sub (pv 3) (DE.pe (de_op op_addD sn2_add (de_name 4) (de_name 5))) set_list))))))
      (dss_one (ds_ret (de_call G16 (hr.mono (by decide)) (by rfl) T.g16 T.F16.kp T.b16 pass0 (da_cons (de_ix ix_D sn2_ix (de_name 0) de_int) (da_cons (de_name 3) da_nil))))))) dss_nil)
      (dss_one (ds_ret (de_op op_mulD sn2_mul (de_name 1) (de_name 2))))))), body_law_multiply⟩)
/-! ### _law_small -/
def pre_law_small : List D → Prop := fun ds => ∃ d : Dom, ds = [.dict [], d.enc]
theorem len_law_small (ds : List D) (h : pre_law_small ds) : ds.length = ["c", "d"].length := by obtain ⟨_, rfl⟩ := h; rfl
def post_law_small : List D → D → Prop := fun ds r => ∃ (d : Dom) (x : d.C), ds = [.dict [], d.enc] ∧ r = d.el x ∧ d.Sz 6 50 2 x
theorem lsmall_iff (d : Dom) {Q : D → Prop} (h : ∀ x : d.C, d.Sz 6 50 2 x → Q (d.el x)) : (pre_law_small [.dict [], d.enc] ∧ ∀ r, post_law_small [.dict [], d.enc] r → Q r) := ⟨⟨d, rfl⟩, fun r hr => by
  obtain ⟨d', x, e, rfl, hx⟩ := hr
  have e := cd_inj e
  subst e
  exact h x hx⟩

def w_law_small_3 : WS := (wRet (wBin dIx (wLst (wCons (wBin dSub (wCall pre_law_take post_law_take (wCons (wName 0) (wCons (wC (.int 9)) wNil))) (wC (.int 4))) (wCons (wC (.int 0)) (wCons (wC (.int 0)) (wCons (wC (.int 1)) (wCons (wBin dSub (wCall pre_law_take post_law_take (wCons (wName 0) (wCons (wC (.int 99)) wNil))) (wC (.int 49))) wNil)))))) (wCall pre_law_take post_law_take (wCons (wName 0) (wCons (wC (.int 5)) wNil)))))
def w_law_small_2 : WS := wSeq (wIfS (wTest (wBin dEq (wBin dIx (wName 1) (wC (.int 0))) (wC (.str (Str.ofString "P"))))) (wRet (wCall pre_law_strip post_law_strip (wCons (wBin dIx (wName 1) (wC (.int 1))) (wCons (wFree (wComp (wiR1 (wCons (wCall pre_law_take post_law_take (wCons (wName 0) (wCons (wC (.int 3)) wNil))) wNil)) 2 wYes (wCall pre_law_small_r0 post_law_small_r0 (wCons (wName 0) (wCons (wBin dIx (wName 1) (wC (.int 1))) wNil))))) wNil)))) wNext) w_law_small_3
def w_law_small_1 : WS := wSeq (wIfS (wTest (wBin dEq (wBin dIx (wName 1) (wC (.int 0))) (wC (.str (Str.ofString "Q"))))) (wRet (wCall pre_law_fraction post_law_fraction (wCons (wBin dSub (wCall pre_law_take post_law_take (wCons (wName 0) (wCons (wC (.int 9)) wNil))) (wC (.int 4))) (wCons (wBin dAdd (wC (.int 1)) (wCall pre_law_take post_law_take (wCons (wName 0) (wCons (wC (.int 3)) wNil)))) wNil)))) wNext) w_law_small_2
def w_law_small_0 : WS := wSeq (wIfS (wTest (wBin dEq (wBin dIx (wName 1) (wC (.int 0))) (wC (.str (Str.ofString "F"))))) (wRet (wBin dMod (wB bInt (wCons (wCall pre_law_take post_law_take (wCons (wName 0) (wCons (wC (.int 65536)) wNil))) wNil)) (wBin dIx (wName 1) (wC (.int 1))))) wNext) w_law_small_1

theorem body_law_small : ∀ ds, pre_law_small ds → w_law_small_0 { nx := fun _ => post_law_small ds .none, rt := post_law_small ds } (env0 ["c", "d", "k"] ds) := by
  intro ds h
  obtain ⟨d, rfl⟩ := h
  unfold w_law_small_0
  cases d with
  | P f =>
    simp only [Dom.enc]
    walk_at "dl"
    unfold w_law_small_1
    walk_at "dl"
    unfold w_law_small_2
    walk_at "dl"
    rw [take_iff]
    refine ⟨⟨by decide, by decide⟩, fun r r0 r1 => ?_⟩
    walk_at "dl"
    refine ⟨⟨by omega, by omega⟩, ?_⟩
    refine wCompG_of (fun _ y => ∃ x : f.C, y = f.el x ∧ f.In 6 50 x) (by omega) (fun j Q hj hQ => ?_) fun ys hl hy => ?_
    · walk_at "dl"
      exact lsmall_r0_iff (.K f) trivial fun x hx => hQ _ ⟨x, rfl, hx⟩
    · obtain ⟨l, rfl, hll, hp⟩ := els_of f _ ys hy
      walk_at "dl"
      refine lstrip_iff f l (by omega) ⟨.P f, Pol.of l, rfl, rfl, ?_, fun k => ?_⟩
      · exact Nat.le_trans (cf_trim_len l) (by omega)
      · rw [pe_of]
        exact cf_all (Fld.In.zero f 6 50) hp k
  | K f => cases f with
    | F n =>
      simp only [Dom.enc, Fld.enc]
      walk_at "dl"
      rw [take_iff]
      refine ⟨⟨by decide, by decide⟩, fun r r0 r1 => ?_⟩
      walk_at "dl"
      exact ⟨by omega, .K (.F n), (Fld.F n).num r, rfl, (Fld.el_num_F n r).symm, trivial⟩
    | Q =>
      simp only [Dom.enc, Fld.enc]
      walk_at "dl"
      unfold w_law_small_1
      walk_at "dl"
      rw [take_iff]
      refine ⟨⟨by decide, by decide⟩, fun r r0 r1 => ?_⟩
      walk_at "dl"
      rw [take_iff]
      refine ⟨⟨by decide, by decide⟩, fun s s0 s1 => ?_⟩
      walk_at "dl"
      refine lfraction_iff (by omega) (Nat.lt_of_lt_of_le (show (1 + s).natAbs < 2 ^ 8 by omega) (Nat.pow_le_pow_right (by decide) (by decide))) fun a b hF => ?_
      obtain ⟨x, ex, hx⟩ := frac_el hF (by omega)
      rw [ex]
      refine ⟨.K .Q, x, rfl, rfl, ?_⟩
      have hs : s = 0 ∨ s = 1 ∨ s = 2 := by omega
      rcases hs with rfl | rfl | rfl
      · exact In_of hx (k := 6) (by decide) (by omega)
      · exact In_of hx (k := 3) (by decide) (by omega)
      · exact In_of hx (k := 2) (by decide) (by omega)
  | Z =>
    simp only [Dom.enc]
    walk_at "dl"
    unfold w_law_small_1
    walk_at "dl"
    unfold w_law_small_2
    walk_at "dl"
    unfold w_law_small_3
    walk_at "dl"
    rw [take_iff]
    refine ⟨⟨by decide, by decide⟩, fun r r0 r1 => ?_⟩
    walk_at "dl"
    rw [take_iff]
    refine ⟨⟨by decide, by decide⟩, fun s s0 s1 => ?_⟩
    walk_at "dl"
    rw [take_iff]
    refine ⟨⟨by decide, by decide⟩, fun k k0 k1 => ?_⟩
    refine dIx_mem k0 (by exact k1) fun d hd => ?_
    have hn : ∃ n : Int, d = .int n ∧ n.natAbs ≤ 50 := by
      have := List.mem_of_getElem? hd
      simp only [List.mem_cons, List.not_mem_nil, or_false] at this
      rcases this with h | h | h | h | h <;> exact ⟨_, h, by omega⟩
    obtain ⟨n, rfl, hn⟩ := hn
    exact ⟨.Z, n, rfl, rfl, hn⟩

theorem ok_law_small {P : Program} {w : World} {K : Fg} {mg : Str → Option Value} {base : Heap} {fa : Nat → Addr} {fdd : Nat → FuncData} (T : Txt K mg fa fdd) : FnOk P w K mg base CX0 4 (fa 29) (fdd 29) ["c", "d"] (SpD K pre_law_small post_law_small) := by
  have G14 : FnOk P w K mg base CX0 2 (fa 14) (fdd 14) ["n", "m"] (SpD K pre_law_fraction post_law_fraction) := ok_law_fraction T
  have G16 : FnOk P w K mg base CX0 2 (fa 16) (fdd 16) ["f", "parts"] (SpD K pre_law_strip post_law_strip) := ok_law_strip T
  have G11 : FnOk P w K mg base CX0 2 (fa 11) (fdd 11) ["c", "many"] (SpD K pre_law_take post_law_take) := ok_law_take T
  have G29 : FnOk P w K mg base CX0 3 (fa 29) (fdd 29) ["c", "d"] (SpD K pre_law_small_r0 post_law_small_r0) := ok_law_small_r0 T
  exact fn_ok T.F29 sc29 len_law_small (fun cdv A outer s H E hr => ⟨_, w_law_small_0, (dss_cons (ds_if (dt_cmp (op_eqP hr.units) sn2_eq (de_ix ix_D sn2_ix (de_name 1) de_int) de_str) (dss_one (ds_ret (de_op op_modN sn2_mod (de_callTy call_int1 snc_int (by rfl) T.m_int (by decide +kernel) (da_cons (de_call G11 (hr.mono (by decide)) (by rfl) T.g11 T.F11.kp T.b11 pass0 (da_cons (de_name 0) (da_cons de_int da_nil))) da_nil)) (de_ix ix_D sn2_ix (de_name 1) de_int)))) dss_nil)
      (dss_cons (ds_if (dt_cmp (op_eqP hr.units) sn2_eq (de_ix ix_D sn2_ix (de_name 1) de_int) de_str) (dss_one (ds_ret (de_call G14 (hr.mono (by decide)) (by rfl) T.g14 T.F14.kp T.b14 pass0 (da_cons (de_op op_sub sn2_sub (de_call G11 (hr.mono (by decide)) (by rfl) T.g11 T.F11.kp T.b11 pass0 (da_cons (de_name 0) (da_cons de_int da_nil))) de_int) (da_cons (de_op op_addD sn2_add de_int (de_call G11 (hr.mono (by decide)) (by rfl) T.g11 T.F11.kp T.b11 pass0 (da_cons (de_name 0) (da_cons de_int da_nil)))) da_nil))))) dss_nil)
      (dss_cons (ds_if (dt_cmp (op_eqP hr.units) sn2_eq (de_ix ix_D sn2_ix (de_name 1) de_int) de_str) (dss_one (ds_ret (de_call G16 (hr.mono (by decide)) (by rfl) T.g16 T.F16.kp T.b16 pass0 (da_cons (de_ix ix_D sn2_ix (de_name 1) de_int) (da_cons (DF.de (df_comp (x := "k") (i := 2) rfl sc29.nd (di_rng1 (by rfl) T.m_range (da_cons (de_call G11 (hr.mono (by decide)) (by rfl) T.g11 T.F11.kp T.b11 pass0 (da_cons (de_name 0) (da_cons de_int da_nil))) da_nil)) (by first | exact (blkOk_by (own := [("k", 2)]) (N := ["c", "d", "k"]) (sc := defScope s29) (by decide +kernel)) | (refine blkOk_by ?_; dsimp only [Cx.blk, Cx.nox, Cx.wish, Cx.tr, cxOf, envOfC, compEnvC, relab]; decide +kernel)) (fun _ _ _ _ _ => pg_name (i := 2) sc29.nd rfl (by first | exact Or.inl rfl | exact Or.inr rfl)) (fun _ _ _ _ _ => ⟨_, dts_nil, by first | (dsimp only [Cx.blk]; rfl) | dsimp only [Cx.blk] | rfl⟩) (fun _ _ _ _ _ => ⟨_, (de_call G29 hr (by rfl) T.g29 T.F29.kp T.b29 pass0 (da_cons (de_name 0) (da_cons (de_ix ix_D sn2_ix (de_name 1) de_int) da_nil))), by first | (dsimp only [Cx.blk]; rfl) | dsimp only [Cx.blk] | rfl⟩))) da_nil))))) dss_nil)
      (dss_one (ds_ret (de_ix ix_D sn2_ix (de_lst (da_cons (de_op op_sub sn2_sub (de_call G11 (hr.mono (by decide)) (by rfl) T.g11 T.F11.kp T.b11 pass0 (da_cons (de_name 0) (da_cons de_int da_nil))) de_int) (da_cons de_int (da_cons de_int (da_cons de_int (da_cons (de_op op_sub sn2_sub (de_call G11 (hr.mono (by decide)) (by rfl) T.g11 T.F11.kp T.b11 pass0 (da_cons (de_name 0) (da_cons de_int da_nil))) de_int) da_nil)))))) (de_call G11 (hr.mono (by decide)) (by rfl) T.g11 T.F11.kp T.b11 pass0 (da_cons (de_name 0) (da_cons de_int da_nil))))))))), body_law_small⟩)
/-! ### _law_matrix -/
def pre_law_matrix : List D → Prop := fun ds => ∃ (d : Dom) (m n : Nat), ds = [.dict [], d.enc, .int m, .int n] ∧ m ≤ 100 ∧ n ≤ 100
theorem len_law_matrix (ds : List D) (h : pre_law_matrix ds) : ds.length = ["c", "d", "m", "n"].length := by obtain ⟨_, _, _, rfl, _⟩ := h; rfl
def post_law_matrix : List D → D → Prop := fun ds r => ∃ (d : Dom) (m n : Nat) (X : List (List d.C)), ds = [.dict [], d.enc, .int m, .int n] ∧ r = Mt m n (X.map fun x => x.map d.el) ∧ X.length = m ∧ ∀ x ∈ X, x.length = n ∧ ∀ y ∈ x, d.Sz 6 50 2 y
theorem lmatrix_iff (d : Dom) (m n : Nat) (hm : m ≤ 100) (hn : n ≤ 100) {Q : D → Prop} (h : ∀ X : List (List d.C), X.length = m → (∀ x ∈ X, x.length = n ∧ ∀ y ∈ x, d.Sz 6 50 2 y) → Q (Mt m n (X.map fun x => x.map d.el))) : (pre_law_matrix [.dict [], d.enc, .int m, .int n] ∧ ∀ r, post_law_matrix [.dict [], d.enc, .int m, .int n] r → Q r) := ⟨⟨d, m, n, rfl, hm, hn⟩, fun r hr => by
  obtain ⟨d', m', n', X, e, rfl, hX⟩ := hr
  simp only [List.cons.injEq, PyData.int.injEq, and_true, true_and] at e
  obtain rfl := Dom.enc_inj e.1
  obtain rfl : m = m' := by omega
  obtain rfl : n = n' := by omega
  exact h X hX.1 hX.2⟩
theorem dels_of (d : Dom) (Pp : d.C → Prop) : ∀ ys : List D, (∀ (j : Nat) (y : D), ys[j]? = some y → ∃ x : d.C, y = d.el x ∧ Pp x) → ∃ l : List d.C, ys = l.map d.el ∧ l.length = ys.length ∧ ∀ x ∈ l, Pp x
  | [], _ => ⟨[], rfl, rfl, fun x h => by cases h⟩
  | y :: ys, h => by
    obtain ⟨x, rfl, hx⟩ := h 0 y rfl
    obtain ⟨l, rfl, hl, hp⟩ := dels_of d Pp ys fun j y hy => h (j + 1) y (by simpa using hy)
    exact ⟨x :: l, rfl, by simp, fun z hz => by
      rcases List.mem_cons.mp hz with rfl | hz
      · exact hx
      · exact hp z hz⟩
theorem rows_of (d : Dom) (Pp : List d.C → Prop) : ∀ ys : List D, (∀ (j : Nat) (y : D), ys[j]? = some y → ∃ x : List d.C, y = .tuple (x.map d.el) ∧ Pp x) → ∃ X : List (List d.C), ys = (X.map fun x => x.map d.el).map .tuple ∧ X.length = ys.length ∧ ∀ x ∈ X, Pp x
  | [], _ => ⟨[], rfl, rfl, fun x h => by cases h⟩
  | y :: ys, h => by
    obtain ⟨x, rfl, hx⟩ := h 0 y rfl
    obtain ⟨l, rfl, hl, hp⟩ := rows_of d Pp ys fun j y hy => h (j + 1) y (by simpa using hy)
    exact ⟨x :: l, rfl, by simp, fun z hz => by
      rcases List.mem_cons.mp hz with rfl | hz
      · exact hx
      · exact hp z hz⟩

def w_law_matrix_0 : WS := (wRet (wTup (wCons (wName 2) (wCons (wName 3) (wCons (wB bTuple (wCons (wFree (wComp (wiUn 5 (wiR1 (wCons (wName 2) wNil))) 4 wYes (wB bTuple (wCons (wFree (wComp (wiR1 (wCons (wName 3) wNil)) 5 wYes (wCall pre_law_small post_law_small (wCons (wName 0) (wCons (wName 1) wNil))))) wNil)))) wNil)) wNil)))))

theorem body_law_matrix : ∀ ds, pre_law_matrix ds → w_law_matrix_0 { nx := fun _ => post_law_matrix ds .none, rt := post_law_matrix ds } (env0 ["c", "d", "m", "n", "i", "j"] ds) := by
  intro ds h
  obtain ⟨d, m, n, rfl, hm, hn⟩ := h
  unfold w_law_matrix_0
  walk_at "dl"
  refine ⟨⟨by omega, by omega⟩, ?_⟩
  refine wCompG_of (fun _ y => ∃ x : List d.C, y = .tuple (x.map d.el) ∧ (x.length = n ∧ ∀ y ∈ x, d.Sz 6 50 2 y)) (by omega) (fun j Q hj hQ => ?_) fun ys hl hy => ?_
  · walk_at "dl"
    refine ⟨⟨by omega, by omega⟩, ?_⟩
    refine wCompG_of (fun _ y => ∃ x : d.C, y = d.el x ∧ d.Sz 6 50 2 x) (by omega) (fun j2 Q2 hj2 hQ2 => ?_) fun ys hl hy => ?_
    · walk_at "dl"
      exact lsmall_iff d fun x hx => hQ2 _ ⟨x, rfl, hx⟩
    · obtain ⟨l, rfl, hll, hp⟩ := dels_of d _ ys hy
      walk_at "dl"
      exact hQ _ ⟨l, rfl, by omega, hp⟩
  · obtain ⟨X, rfl, hXl, hX⟩ := rows_of d _ ys hy
    walk_at "dl"
    exact ⟨d, m, n, X, rfl, rfl, by omega, hX⟩

theorem ok_law_matrix {P : Program} {w : World} {K : Fg} {mg : Str → Option Value} {base : Heap} {fa : Nat → Addr} {fdd : Nat → FuncData} (T : Txt K mg fa fdd) : FnOk P w K mg base CX0 5 (fa 30) (fdd 30) ["c", "d", "m", "n"] (SpD K pre_law_matrix post_law_matrix) := by
  have G29 : FnOk P w K mg base CX0 4 (fa 29) (fdd 29) ["c", "d"] (SpD K pre_law_small post_law_small) := ok_law_small T
  exact fn_ok T.F30 sc30 len_law_matrix (fun cdv A outer s H E hr => ⟨_, w_law_matrix_0, (dss_one (ds_ret (de_tup (da_cons (de_name 2) (da_cons (de_name 3) (da_cons (de_callTy call_tuple_of snc_tuple (by rfl) T.m_tuple (by decide +kernel) (da_cons (DF.de (df_comp (x := "i") (i := 4) rfl sc30.nd (di_un 5 (di_rng1 (by rfl) T.m_range (da_cons (de_name 2) da_nil))) (by first | exact (blkOk_by (own := [("i", 4)]) (N := ["c", "d", "m", "n", "i", "j"]) (sc := defScope s30) (by decide +kernel)) | (refine blkOk_by ?_; dsimp only [Cx.blk, Cx.nox, Cx.wish, Cx.tr, cxOf, envOfC, compEnvC, relab]; decide +kernel)) (fun _ _ _ _ _ => pg_name (i := 4) sc30.nd rfl (by first | exact Or.inl rfl | exact Or.inr rfl)) (fun _ _ _ _ _ => ⟨_, dts_nil, by first | (dsimp only [Cx.blk]; rfl) | dsimp only [Cx.blk] | rfl⟩) (fun _ _ _ _ _ => ⟨_, (de_callTy call_tuple_of snc_tuple (by rfl) T.m_tuple (by decide +kernel) (da_cons (DF.de (df_comp (x := "j") (i := 5) rfl sc30.nd (di_rng1 (by rfl) T.m_range (da_cons (de_name 3) da_nil)) (by first | exact (blkOk_by (own := [("j", 5)]) (N := ["c", "d", "m", "n", "i", "j"]) (sc := defScope s30) (by decide +kernel)) | (refine blkOk_by ?_; dsimp only [Cx.blk, Cx.nox, Cx.wish, Cx.tr, cxOf, envOfC, compEnvC, relab]; decide +kernel)) (fun _ _ _ _ _ => pg_name (i := 5) sc30.nd rfl (by first | exact Or.inl rfl | exact Or.inr rfl)) (fun _ _ _ _ _ => ⟨_, dts_nil, by first | (dsimp only [Cx.blk]; rfl) | dsimp only [Cx.blk] | rfl⟩) (fun _ _ _ _ _ => ⟨_, (de_call G29 hr (by rfl) T.g29 T.F29.kp T.b29 pass0 (da_cons (de_name 0) (da_cons (de_name 1) da_nil))), by first | (dsimp only [Cx.blk]; rfl) | dsimp only [Cx.blk] | rfl⟩))) da_nil)), by first | (dsimp only [Cx.blk]; rfl) | dsimp only [Cx.blk] | rfl⟩))) da_nil)) da_nil)))))), body_law_matrix⟩)
/-! ### _law_dot -/
def DotOk (d : Dom) (u v : Nat → d.C) : Prop := (∀ k, d.Mu (u k) (v k)) ∧ (∀ k, d.Sm 3000 (u k * v k)) ∧ ∀ j, j ≤ 100 → d.Sm 3000 (sm j fun k => u k * v k)
def pre_law_dot : List D → Prop := fun ds => ∃ (d : Dom) (n : Nat) (u v : Nat → d.C), ds = [d.enc, .tuple (rowD d n u), .tuple (rowD d n v)] ∧ d.Ok ∧ n ≤ 100 ∧ DotOk d u v
theorem len_law_dot (ds : List D) (h : pre_law_dot ds) : ds.length = ["d", "u", "v"].length := by obtain ⟨_, _, _, _, rfl, _⟩ := h; rfl
def post_law_dot : List D → D → Prop := fun ds r => ∃ (d : Dom) (n : Nat) (u v : Nat → d.C), ds = [d.enc, .tuple (rowD d n u), .tuple (rowD d n v)] ∧ r = d.el (sm n fun k => u k * v k)
theorem ldot_iff (d : Dom) (n : Nat) (u v : Nat → d.C) (ho : d.Ok) (hn : n ≤ 100) (hd : DotOk d u v) {Q : D → Prop} (h : Q (d.el (sm n fun k => u k * v k))) : (pre_law_dot [d.enc, .tuple (rowD d n u), .tuple (rowD d n v)] ∧ ∀ r, post_law_dot [d.enc, .tuple (rowD d n u), .tuple (rowD d n v)] r → Q r) := ⟨⟨d, n, u, v, rfl, ho, hn, hd⟩, fun r hr => by
  obtain ⟨d', n', u', v', e, rfl⟩ := hr
  simp only [List.cons.injEq, PyData.tuple.injEq, and_true] at e
  obtain ⟨e0, e1, e2⟩ := e
  obtain rfl := Dom.enc_inj e0
  have hl : n = n' := by
    have := congrArg List.length e1
    rwa [rowD_len, rowD_len] at this
  subst hl
  rw [← sm_congr (r := fun k => u k * v k) n fun k hk => by rw [rowD_inj e1 hk, rowD_inj e2 hk]]
  exact h⟩

def w_law_dot_2 : WS := (wRet (wName 3))
def w_law_dot_1_b : WS := (wAsg (wCall pre_law_add post_law_add (wCons (wName 0) (wCons (wName 3) (wCons (wCall pre_law_multiply post_law_multiply (wCons (wName 0) (wCons (wBin dIx (wName 1) (wName 4)) (wCons (wBin dIx (wName 2) (wName 4)) wNil)))) wNil)))) (wgName 3))
def w_law_dot_1 : WS := wSeq (wFor (wiR1 (wCons (wB bLen (wCons (wName 1) wNil)) wNil)) (wgName 4) w_law_dot_1_b) w_law_dot_2
def w_law_dot_0 : WS := wSeq (wAsg (wCall pre_law_zero post_law_zero (wCons (wName 0) wNil)) (wgName 3)) w_law_dot_1

theorem body_law_dot : ∀ ds, pre_law_dot ds → w_law_dot_0 { nx := fun _ => post_law_dot ds .none, rt := post_law_dot ds } (env0 ["d", "u", "v", "total", "k"] ds) := by
  intro ds h
  obtain ⟨d, n, u, v, rfl, ho, hn, h1, h2, h3⟩ := h
  unfold w_law_dot_0
  walk_at "dl"
  refine lzero_iff d ?_
  unfold w_law_dot_1
  walk_at "dl"
  rw [rowD_len]
  refine ⟨⟨by omega, by omega⟩, ?_⟩
  refine wForN_of (fun i ρ => ∃ s4, ρ = [.val d.enc, .val (.tuple (rowD d n u)), .val (.tuple (rowD d n v)), .val (d.el (sm i fun k => u k * v k)), s4]) ⟨_, rfl⟩ (fun i ρ hi hI => ?_) fun ρ hI => ?_
  · obtain ⟨s4, rfl⟩ := hI
    have hi : i < n := by omega
    unfold w_law_dot_1_b
    walk_at "dl"
    refine dIx_tup (x := d.el (u i)) (by omega) (by rw [show ((0 : Int) + (i : Nat)).toNat = i by omega]; exact rowD_get hi) ?_
    refine dIx_tup (x := d.el (v i)) (by omega) (by rw [show ((0 : Int) + (i : Nat)).toNat = i by omega]; exact rowD_get hi) ?_
    refine lmultiply_iff d (u i) (v i) (h1 i) ho ?_
    refine ladd_iff d (sm i fun k => u k * v k) (u i * v i) (h3 i (by omega)) (h2 i) ?_
    exact ⟨_, rfl⟩
  · obtain ⟨s4, rfl⟩ := hI
    unfold w_law_dot_2
    walk_at "dl"
    rw [Int.toNat_natCast]
    exact ⟨d, n, u, v, rfl, rfl⟩

theorem ok_law_dot {P : Program} {w : World} {K : Fg} {mg : Str → Option Value} {base : Heap} {fa : Nat → Addr} {fdd : Nat → FuncData} (T : Txt K mg fa fdd) : FnOk P w K mg base CX0 5 (fa 31) (fdd 31) ["d", "u", "v"] (SpD K pre_law_dot post_law_dot) := by
  have G15 : FnOk P w K mg base CX0 1 (fa 15) (fdd 15) ["d"] (SpD K pre_law_zero post_law_zero) := ok_law_zero T
  have G19 : FnOk P w K mg base CX0 4 (fa 19) (fdd 19) ["d", "x", "y"] (SpD K pre_law_add post_law_add) := ok_law_add T
  have G20 : FnOk P w K mg base CX0 4 (fa 20) (fdd 20) ["d", "x", "y"] (SpD K pre_law_multiply post_law_multiply) := ok_law_multiply T
  exact fn_ok T.F31 sc31 len_law_dot (fun cdv A outer s H E hr => ⟨_, w_law_dot_0, (dss_cons (ds_set (i := 3) sc31.nd (de_call G15 (hr.mono (by decide)) (by rfl) T.g15 T.F15.kp T.b15 pass0 (da_cons (de_name 0) da_nil)))
      (dss_cons (ds_for PassesOwn.never rfl (di_rng1 (by rfl) T.m_range (da_cons (de_callB call_len_seq snc_len (by rfl) T.m_len (by decide +kernel) (da_cons (de_name 1) da_nil)) da_nil)) (dg_name (i := 4) sc31.nd) (dss_one (ds_set (i := 3) sc31.nd (de_call G19 hr (by rfl) T.g19 T.F19.kp T.b19 pass0 (da_cons (de_name 0) (da_cons (de_name 3) (da_cons (de_call G20 hr (by rfl) T.g20 T.F20.kp T.b20 pass0 (da_cons (de_name 0) (da_cons (de_ix ix_D sn2_ix (de_name 1) (de_name 4)) (da_cons (de_ix ix_D sn2_ix (de_name 2) (de_name 4)) da_nil)))) da_nil)))))))
      (dss_one (ds_ret (de_name 3))))), body_law_dot⟩)
/-! ### _law_determinant -/
def pre_law_determinant : List D → Prop := fun ds => ∃ (n : Nat) (A : Nat → Nat → Int), ds = [Dom.Z.enc, MtD .Z n n A] ∧ n ≤ 5 ∧ BdOk n A
theorem len_law_determinant (ds : List D) (h : pre_law_determinant ds) : ds.length = ["d", "a"].length := by obtain ⟨_, _, rfl, _⟩ := h; rfl
def post_law_determinant : List D → D → Prop := fun ds r => ∃ (n : Nat) (A : Nat → Nat → Int), ds = [Dom.Z.enc, MtD .Z n n A] ∧ n ≤ 5 ∧ r = .int (detN n A)
theorem orders_lt : ∀ n, n ≤ 5 → ∀ o ∈ orders n, ∀ i, i < n → o.getD i 0 < n := by decide +kernel
theorem foldl_cong {α β : Type} {g k : β → α → β} : ∀ (l : List α) (x : β), (∀ y a, a ∈ l → g y a = k y a) → l.foldl g x = l.foldl k x
  | [], x, _ => rfl
  | a :: l, x, h => by
    rw [List.foldl_cons, List.foldl_cons, h x a (List.mem_cons_self ..), foldl_cong l _ fun y b hb => h y b (List.mem_cons_of_mem _ hb)]
theorem detN_congr {n : Nat} (hn : n ≤ 5) {A B : Nat → Nat → Int} (h : ∀ i, i < n → ∀ j, j < n → A i j = B i j) : detN n A = detN n B := by
  unfold detN
  refine foldl_cong _ _ fun y o ho => ?_
  unfold termN
  rw [foldl_cong (k := fun p i => p * B i (o.getD i 0)) _ _ fun y i hi => by
    have hi := List.mem_range.mp hi
    rw [h i hi _ (orders_lt n hn o ho i hi)]]
theorem ldeterminant_iff (n : Nat) (A : Nat → Nat → Int) (hn : n ≤ 5) (h0 : BdOk n A) {Q : D → Prop} (h : Q (.int (detN n A))) : (pre_law_determinant [Dom.Z.enc, MtD .Z n n A] ∧ ∀ r, post_law_determinant [Dom.Z.enc, MtD .Z n n A] r → Q r) := ⟨⟨n, A, rfl, hn, h0⟩, fun r hr => by
  obtain ⟨n', A', e, hn', rfl⟩ := hr
  simp only [List.cons.injEq, and_true, true_and] at e
  obtain ⟨rfl, _, hA⟩ := MtD_inj e
  have : detN n A = detN n A' := detN_congr hn hA
  rw [← this]
  exact h⟩
theorem term_ab (n : Nat) (A : Nat → Nat → Int) (h0 : BdOk n A) (o : List Nat) : ∀ k, ((List.range k).foldl (fun p i => p * A i (o.getD i 0)) (sgn o)).natAbs ≤ 2 ^ (200 * k)
  | 0 => by
    show (sgn o).natAbs ≤ _
    rw [sgn_ab]; decide
  | k + 1 => by
    rw [foldl_succ, Int.natAbs_mul, Nat.mul_succ, Nat.pow_add]
    exact Nat.mul_le_mul (term_ab n A h0 o k) (Nat.le_of_lt (h0.2 _ _))

def w_law_determinant_2 : WS := (wRet (wName 2))
def w_law_determinant_1_b : WS := (wSeq (wAsg (wCall pre_law_number post_law_number (wCons (wName 0) (wCons (wCall pre_law_sign post_law_sign (wCons (wName 3) wNil)) wNil))) (wgName 4))
    (wSeq (wFor (wiR1 (wCons (wBin dIx (wName 1) (wC (.int 0))) wNil)) (wgName 5) (wAsg (wCall pre_law_multiply post_law_multiply (wCons (wName 0) (wCons (wName 4) (wCons (wBin dIx (wBin dIx (wBin dIx (wName 1) (wC (.int 2))) (wName 5)) (wBin dIx (wName 3) (wName 5))) wNil)))) (wgName 4)))
    (wAsg (wCall pre_law_add post_law_add (wCons (wName 0) (wCons (wName 2) (wCons (wName 4) wNil)))) (wgName 2))))
def w_law_determinant_1 : WS := wSeq (wFor (wiLst (wCall pre_law_orders post_law_orders (wCons (wBin dIx (wName 1) (wC (.int 0))) wNil))) (wgName 3) w_law_determinant_1_b) w_law_determinant_2
def w_law_determinant_0 : WS := wSeq (wAsg (wCall pre_law_zero post_law_zero (wCons (wName 0) wNil)) (wgName 2)) w_law_determinant_1

set_option exponentiation.threshold 20000 in
theorem body_law_determinant : ∀ ds, pre_law_determinant ds → w_law_determinant_0 { nx := fun _ => post_law_determinant ds .none, rt := post_law_determinant ds } (env0 ["d", "a", "total", "order", "term", "i"] ds) := by
  intro ds h
  obtain ⟨n, A, rfl, hn, h0⟩ := h
  have ez : MtD .Z n n A = .tuple [.int n, .int n, .tuple (ZR n A)] := ZR_mt
  unfold w_law_determinant_0
  walk_at "dl"
  refine lzero_iff .Z ?_
  unfold w_law_determinant_1
  rw [ez]
  walk_at "dl"
  refine lorders_iff hn ?_
  unfold lNs
  walk_at "dl"
  refine wForD_of (fun t ρ => ∃ s3 s4 s5 : Slot, ρ = [.val Dom.Z.enc, .val (.tuple [.int n, .int n, .tuple (ZR n A)]), .val (.int (((orders n).take t).foldl (fun t o => t + termN n A o) 0)), s3, s4, s5]) ⟨_, _, _, rfl⟩ (fun t x ρ hx hI => ?_) fun ρ hI => ?_
  · obtain ⟨s3, s4, s5, rfl⟩ := hI
    rw [List.getElem?_map] at hx
    cases eo : (orders n)[t]? with
    | none => rw [eo] at hx; cases hx
    | some o =>
      rw [eo] at hx
      cases hx
      have lo := (orders_len n hn).2 o (List.mem_of_getElem? eo)
      have lt := orders_lt n hn o (List.mem_of_getElem? eo)
      rw [foldl_take _ _ eo]
      generalize ((orders n).take t).foldl (fun t o => t + termN n A o) 0 = tot
      unfold w_law_determinant_1_b
      walk_at "dl"
      refine lsign_iff o (by omega) ?_
      refine lnumber_iff .Z (sgn o) ?_
      walk_at "dl"
      refine ⟨⟨by omega, by omega⟩, ?_⟩
      refine wForN_of (fun i ρ => ∃ s5 : Slot, ρ = [.val Dom.Z.enc, .val (.tuple [.int n, .int n, .tuple (ZR n A)]), .val (.int tot), .val (lN o), .val (.int ((List.range i).foldl (fun p i => p * A i (o.getD i 0)) (sgn o))), s5]) ⟨_, rfl⟩ (fun i ρ hi hI => ?_) fun ρ hI => ?_
      · obtain ⟨s5, rfl⟩ := hI
        have ei : (0 : Int) + (i : Int) = (i : Nat) := by omega
        have hi : i < n := by omega
        have hb := term_ab n A h0 o i
        rw [ei, foldl_succ]
        generalize (List.range i).foldl (fun p i => p * A i (o.getD i 0)) (sgn o) = tm at hb
        walk_at "dl"
        refine dIxT rfl (ZR_get hi) ?_
        unfold lN
        refine dIxL rfl (lN_get (by omega)) ?_
        refine dIxT rfl (irw_get (lt i hi)) ?_
        refine lmultiply_iff .Z tm (A i (o.getD i 0)) ⟨Nat.lt_of_le_of_lt hb (Nat.pow_lt_pow_right (by decide) (by omega)), Nat.lt_of_lt_of_le (h0.2 _ _) (Nat.pow_le_pow_right (by decide) (by decide))⟩ trivial ?_
        exact ⟨_, rfl⟩
      · obtain ⟨s5, rfl⟩ := hI
        rw [Int.toNat_natCast]
        walk_at "dl"
        exact ladd_iff .Z tot (termN n A o) trivial trivial ⟨_, _, _, rfl⟩
  · obtain ⟨s3, s4, s5, rfl⟩ := hI
    rw [List.length_map, List.take_length]
    unfold w_law_determinant_2
    walk_at "dl"
    exact ⟨n, A, by rw [ez], hn, rfl⟩

theorem ok_law_determinant {P : Program} {w : World} {K : Fg} {mg : Str → Option Value} {base : Heap} {fa : Nat → Addr} {fdd : Nat → FuncData} (T : Txt K mg fa fdd) : FnOk P w K mg base CX0 5 (fa 39) (fdd 39) ["d", "a"] (SpD K pre_law_determinant post_law_determinant) := by
  have G15 : FnOk P w K mg base CX0 1 (fa 15) (fdd 15) ["d"] (SpD K pre_law_zero post_law_zero) := ok_law_zero T
  have G37 : FnOk P w K mg base CX0 1 (fa 37) (fdd 37) ["n"] (SpD K pre_law_orders post_law_orders) := ok_law_orders T
  have G17 : FnOk P w K mg base CX0 4 (fa 17) (fdd 17) ["d", "n"] (SpD K pre_law_number post_law_number) := ok_law_number T
  have G19 : FnOk P w K mg base CX0 4 (fa 19) (fdd 19) ["d", "x", "y"] (SpD K pre_law_add post_law_add) := ok_law_add T
  have G38 : FnOk P w K mg base CX0 1 (fa 38) (fdd 38) ["order"] (SpD K pre_law_sign post_law_sign) := ok_law_sign T
  have G20 : FnOk P w K mg base CX0 4 (fa 20) (fdd 20) ["d", "x", "y"] (SpD K pre_law_multiply post_law_multiply) := ok_law_multiply T
  exact fn_ok T.F39 sc39 len_law_determinant (fun cdv A outer s H E hr => ⟨_, w_law_determinant_0, (dss_cons (ds_set (i := 2) sc39.nd (de_call G15 (hr.mono (by decide)) (by rfl) T.g15 T.F15.kp T.b15 pass0 (da_cons (de_name 0) da_nil)))
      (dss_cons (ds_for PassesOwn.never rfl (di_lst (de_call G37 (hr.mono (by decide)) (by rfl) T.g37 T.F37.kp T.b37 pass0 (da_cons (de_ix ix_D sn2_ix (de_name 1) de_int) da_nil))) (dg_name (i := 3) sc39.nd) (dss_cons (ds_set (i := 4) sc39.nd (de_call G17 hr (by rfl) T.g17 T.F17.kp T.b17 pass0 (da_cons (de_name 0) (da_cons (de_call G38 (hr.mono (by decide)) (by rfl) T.g38 T.F38.kp T.b38 pass0 (da_cons (de_name 3) da_nil)) da_nil))))
      (dss_cons (ds_for PassesOwn.never rfl (di_rng1 (by rfl) T.m_range (da_cons (de_ix ix_D sn2_ix (de_name 1) de_int) da_nil)) (dg_name (i := 5) sc39.nd) (dss_one (ds_set (i := 4) sc39.nd (de_call G20 hr (by rfl) T.g20 T.F20.kp T.b20 pass0 (da_cons (de_name 0) (da_cons (de_name 4) (da_cons (de_ix ix_D sn2_ix (de_ix ix_D sn2_ix (de_ix ix_D sn2_ix (de_name 1) de_int) (de_name 5)) (de_ix ix_D sn2_ix (de_name 3) (de_name 5))) da_nil)))))))
      (dss_one (ds_set (i := 2) sc39.nd (de_call G19 hr (by rfl) T.g19 T.F19.kp T.b19 pass0 (da_cons (de_name 0) (da_cons (de_name 2) (da_cons (de_name 4) da_nil)))))))))
      (dss_one (ds_ret (de_name 2))))), body_law_determinant⟩)
/-! ### _law_product -/
def pre_law_product : List D → Prop := fun ds => ∃ (d : Dom) (m p n : Nat) (g h : Nat → Nat → d.C), ds = [d.enc, MtD d m p g, MtD d p n h] ∧ d.Ok ∧ m ≤ 100 ∧ p ≤ 100 ∧ n ≤ 100 ∧ ∀ i j, DotOk d (g i) fun k => h k j
theorem len_law_product (ds : List D) (h : pre_law_product ds) : ds.length = ["d", "a", "b"].length := by obtain ⟨_, _, _, _, _, _, rfl, _⟩ := h; rfl
def post_law_product : List D → D → Prop := fun ds r => ∃ (d : Dom) (m p n : Nat) (g h : Nat → Nat → d.C), ds = [d.enc, MtD d m p g, MtD d p n h] ∧ r = MtD d m n (mmul p g h)
theorem lproduct_iff (d : Dom) (m p n : Nat) (g h : Nat → Nat → d.C) (ho : d.Ok) (hm : m ≤ 100) (hp : p ≤ 100) (hn : n ≤ 100) (hg : ∀ i j, DotOk d (g i) fun k => h k j) {Q : D → Prop} (hQ : Q (MtD d m n (mmul p g h))) : (pre_law_product [d.enc, MtD d m p g, MtD d p n h] ∧ ∀ r, post_law_product [d.enc, MtD d m p g, MtD d p n h] r → Q r) := ⟨⟨d, m, p, n, g, h, rfl, ho, hm, hp, hn, hg⟩, fun r hr => by
  obtain ⟨d', m', p', n', g', h', e, rfl⟩ := hr
  simp only [List.cons.injEq, and_true] at e
  obtain ⟨e0, e1, e2⟩ := e
  obtain rfl := Dom.enc_inj e0
  obtain ⟨rfl, rfl, q1⟩ := MtD_inj e1
  obtain ⟨_, rfl, q2⟩ := MtD_inj e2
  have e : MtD d m n (mmul p g h) = MtD d m n (mmul p g' h') := MtD_congr fun i hi j hj => sm_congr p fun k hk => by rw [q1 i hi k hk, q2 k hk j hj]
  exact Eq.mp (congrArg Q e) hQ⟩

def w_law_product_1 : WS := (wRet (wTup (wCons (wBin dIx (wName 1) (wC (.int 0))) (wCons (wBin dIx (wName 2) (wC (.int 1))) (wCons (wB bTuple (wCons (wFree (wComp (wiUn 6 (wiTup (wBin dIx (wName 1) (wC (.int 2))))) 5 wYes (wB bTuple (wCons (wFree (wComp (wiLst (wName 3)) 6 wYes (wCall pre_law_dot post_law_dot (wCons (wName 0) (wCons (wName 5) (wCons (wName 6) wNil)))))) wNil)))) wNil)) wNil)))))
def w_law_product_0 : WS := wSeq (wAsg (wFree (wComp (wiR1 (wCons (wBin dIx (wName 2) (wC (.int 1))) wNil)) 4 wYes (wCall pre_law_column post_law_column (wCons (wName 2) (wCons (wName 4) wNil))))) (wgName 3)) w_law_product_1

theorem body_law_product : ∀ ds, pre_law_product ds → w_law_product_0 { nx := fun _ => post_law_product ds .none, rt := post_law_product ds } (env0 ["d", "a", "b", "columns", "j", "row", "column"] ds) := by
  intro ds h
  obtain ⟨d, m, p, n, g, h, rfl, ho, hm, hp, hn, hg⟩ := h
  have eb : MtD d p n h = .tuple [.int p, .int n, .tuple ((rowsD d p n h).map .tuple)] := rfl
  have ea : MtD d m p g = .tuple [.int m, .int p, .tuple ((rowsD d m p g).map .tuple)] := rfl
  unfold w_law_product_0
  rw [eb]
  walk_at "dl"
  refine ⟨⟨by omega, by omega⟩, ?_⟩
  refine wCompL_of (es := (rowsD d n p fun j k => h k j).map .tuple) (by rw [rngD_len]; simp [rowsD]) (by rw [rngD_len]; omega) (fun j x y Q hx hy hQ => ?_) ?_
  · obtain ⟨hj, rfl⟩ := rngD_get hx
    obtain ⟨t, ht, rfl⟩ := tup_get hy
    obtain ⟨hj2, rfl⟩ := rowsD_at ht
    rw [show (0 : Int) + (j : Nat) = (j : Nat) by omega] at hQ ⊢
    walk_at "dl"
    refine lcolumn_iff p n j (rowsD d p n h) rowsD_shp (by omega) hj2 ?_
    rw [colD hj2]
    exact hQ
  · walk_at "dl"
    unfold w_law_product_1
    rw [ea]
    walk_at "dl"
    refine wCompL_of (es := (rowsD d m n (mmul p g h)).map .tuple) (by simp [rowsD]) (by simp [rowsD]; omega) (fun i x y Q hx hy hQ => ?_) ?_
    · obtain ⟨r, hr, rfl⟩ := tup_get hx
      obtain ⟨t, ht, rfl⟩ := tup_get hy
      obtain ⟨hi, rfl⟩ := rowsD_at hr
      obtain ⟨_, rfl⟩ := rowsD_at ht
      walk_at "dl"
      refine wCompL_of (es := rowD d n (mmul p g h i)) (by rw [rowD_len]; simp [rowsD]) (by simp [rowsD]; omega) (fun j x y Q2 hx hy hQ2 => ?_) ?_
      · obtain ⟨c, hc, rfl⟩ := tup_get hx
        obtain ⟨hj, rfl⟩ := rowsD_at hc
        obtain ⟨_, rfl⟩ := rowD_at hy
        walk_at "dl"
        exact ldot_iff d p (g i) (fun k => h k j) ho hp (hg i j) hQ2
      · walk_at "dl"
        exact hQ
    · walk_at "dl"
      exact ⟨d, m, p, n, g, h, rfl, rfl⟩

theorem ok_law_product {P : Program} {w : World} {K : Fg} {mg : Str → Option Value} {base : Heap} {fa : Nat → Addr} {fdd : Nat → FuncData} (T : Txt K mg fa fdd) : FnOk P w K mg base CX0 6 (fa 33) (fdd 33) ["d", "a", "b"] (SpD K pre_law_product post_law_product) := by
  have G32 : FnOk P w K mg base CX0 1 (fa 32) (fdd 32) ["a", "j"] (SpD K pre_law_column post_law_column) := ok_law_column T
  have G31 : FnOk P w K mg base CX0 5 (fa 31) (fdd 31) ["d", "u", "v"] (SpD K pre_law_dot post_law_dot) := ok_law_dot T
  exact fn_ok T.F33 sc33 len_law_product (fun cdv A outer s H E hr => ⟨_, w_law_product_0, (dss_cons (ds_set (i := 3) sc33.nd (DF.de (df_comp (x := "j") (i := 4) rfl sc33.nd (di_rng1 (by rfl) T.m_range (da_cons (de_ix ix_D sn2_ix (de_name 2) de_int) da_nil)) (by first | exact (blkOk_by (own := [("j", 4)]) (N := ["d", "a", "b", "columns", "j", "row", "column"]) (sc := defScope s33) (by decide +kernel)) | (refine blkOk_by ?_; dsimp only [Cx.blk, Cx.nox, Cx.wish, Cx.tr, cxOf, envOfC, compEnvC, relab]; decide +kernel)) (fun _ _ _ _ _ => pg_name (i := 4) sc33.nd rfl (by first | exact Or.inl rfl | exact Or.inr rfl)) (fun _ _ _ _ _ => ⟨_, dts_nil, by first | (dsimp only [Cx.blk]; rfl) | dsimp only [Cx.blk] | rfl⟩) (fun _ _ _ _ _ => ⟨_, (de_call G32 (hr.mono (by decide)) (by rfl) T.g32 T.F32.kp T.b32 pass0 (da_cons (de_name 2) (da_cons (de_name 4) da_nil))), by first | (dsimp only [Cx.blk]; rfl) | dsimp only [Cx.blk] | rfl⟩))))
      (dss_one (ds_ret (de_tup (da_cons (de_ix ix_D sn2_ix (de_name 1) de_int) (da_cons (de_ix ix_D sn2_ix (de_name 2) de_int) (da_cons (de_callTy call_tuple_of snc_tuple (by rfl) T.m_tuple (by decide +kernel) (da_cons (DF.de (df_comp (x := "row") (i := 5) rfl sc33.nd (di_un 6 (di_tup (de_ix ix_D sn2_ix (de_name 1) de_int))) (by first | exact (blkOk_by (own := [("row", 5)]) (N := ["d", "a", "b", "columns", "j", "row", "column"]) (sc := defScope s33) (by decide +kernel)) | (refine blkOk_by ?_; dsimp only [Cx.blk, Cx.nox, Cx.wish, Cx.tr, cxOf, envOfC, compEnvC, relab]; decide +kernel)) (fun _ _ _ _ _ => pg_name (i := 5) sc33.nd rfl (by first | exact Or.inl rfl | exact Or.inr rfl)) (fun _ _ _ _ _ => ⟨_, dts_nil, by first | (dsimp only [Cx.blk]; rfl) | dsimp only [Cx.blk] | rfl⟩) (fun _ _ _ _ _ => ⟨_, (de_callTy call_tuple_of snc_tuple (by rfl) T.m_tuple (by decide +kernel) (da_cons (DF.de (df_comp (x := "column") (i := 6) rfl sc33.nd (di_lst (de_name 3)) (by first | exact (blkOk_by (own := [("column", 6)]) (N := ["d", "a", "b", "columns", "j", "row", "column"]) (sc := defScope s33) (by decide +kernel)) | (refine blkOk_by ?_; dsimp only [Cx.blk, Cx.nox, Cx.wish, Cx.tr, cxOf, envOfC, compEnvC, relab]; decide +kernel)) (fun _ _ _ _ _ => pg_name (i := 6) sc33.nd rfl (by first | exact Or.inl rfl | exact Or.inr rfl)) (fun _ _ _ _ _ => ⟨_, dts_nil, by first | (dsimp only [Cx.blk]; rfl) | dsimp only [Cx.blk] | rfl⟩) (fun _ _ _ _ _ => ⟨_, (de_call G31 hr (by rfl) T.g31 T.F31.kp T.b31 pass0 (da_cons (de_name 0) (da_cons (de_name 5) (da_cons (de_name 6) da_nil)))), by first | (dsimp only [Cx.blk]; rfl) | dsimp only [Cx.blk] | rfl⟩))) da_nil)), by first | (dsimp only [Cx.blk]; rfl) | dsimp only [Cx.blk] | rfl⟩))) da_nil)) da_nil))))))), body_law_product⟩)
/-! ### _law_low -/
def pre_law_low : List D → Prop := fun ds => ∃ m n : Nat, ds = [.dict [], .int m, .int n] ∧ m ≤ 8 ∧ n ≤ 100
theorem len_law_low (ds : List D) (h : pre_law_low ds) : ds.length = ["c", "m", "n"].length := by obtain ⟨_, _, rfl, _⟩ := h; rfl
def post_law_low : List D → D → Prop := fun ds r => ∃ (m n : Nat) (g : Nat → Nat → Int), ds = [.dict [], .int m, .int n] ∧ r = MtD .Z m n g ∧ ∀ i j, (g i j).natAbs ≤ 40000
theorem llow_iff (m n : Nat) (hm : m ≤ 8) (hn : n ≤ 100) {Q : D → Prop} (h : ∀ g : Nat → Nat → Int, (∀ i j, (g i j).natAbs ≤ 40000) → Q (MtD .Z m n g)) : (pre_law_low [.dict [], .int m, .int n] ∧ ∀ r, post_law_low [.dict [], .int m, .int n] r → Q r) := ⟨⟨m, n, rfl, hm, hn⟩, fun r hr => by
  obtain ⟨m', n', g, e, rfl, hg⟩ := hr
  simp only [List.cons.injEq, PyData.int.injEq, and_true, true_and] at e
  obtain rfl : m = m' := by omega
  obtain rfl : n = n' := by omega
  exact h g hg⟩
theorem Sz_smL {d : Dom} {M A L : Nat} {r : Nat → d.C} (h : ∀ k, d.Sz M A L (r k)) : ∀ n : Nat, d.Sz M (n * A) L (sm n r)
  | 0 => Dom.Sz.zero d M _ L
  | n + 1 => by
    rw [sm, Nat.succ_mul]
    have := (Sz_smL h n).add (h n)
    rwa [Nat.max_self] at this
theorem mat_sz {d : Dom} {n : Nat} {X : List (List d.C)} (h : ∀ x ∈ X, x.length = n ∧ ∀ y ∈ x, d.Sz 6 50 2 y) (i j : Nat) : d.Sz 6 50 2 (cf (X.getD i []) j) := by
  by_cases c : i < X.length
  · have e : X.getD i [] = X[i] := by rw [List.getD_eq_getElem?_getD, List.getElem?_eq_getElem c]; rfl
    rw [e]
    by_cases k : j < X[i].length
    · have e2 : cf X[i] j = X[i][j] := by unfold cf; rw [List.getD_eq_getElem?_getD, List.getElem?_eq_getElem k]; rfl
      rw [e2]
      exact (h _ (List.getElem_mem c)).2 _ (List.getElem_mem k)
    · rw [cf_out (by omega)]; exact Dom.Sz.zero d 6 50 2
  · have e : X.getD i [] = [] := by rw [List.getD_eq_getElem?_getD, List.getElem?_eq_none (by omega)]; rfl
    rw [e, cf_out (by simp)]; exact Dom.Sz.zero d 6 50 2
theorem low_mul {d : Dom} {x y : d.C} (h : d.Sz 6 50 2 x) (k : d.Sz 6 50 2 y) : d.Sz 36 5000 4 (x * y) := h.mul k (by decide)
theorem dot_low {d : Dom} {u v : Nat → d.C} (hu : ∀ k, d.Sz 6 50 2 (u k)) (hv : ∀ k, d.Sz 6 50 2 (v k)) : DotOk d u v := by
  have p : ∀ k, d.Sz 36 5000 4 (u k * v k) := fun k => low_mul (hu k) (hv k)
  have b : ∀ x : Nat, x ≤ 2 ^ 20 → x < 2 ^ 3000 := fun x hx => pw3 hx (by decide)
  refine ⟨fun k => Dom.Mu.of (hu k) (hv k) (by decide) (by decide) (b _ (by decide)) (b _ (by decide)) (b _ (by decide)) (b _ (by decide)) (fun _ => by decide) (fun _ => by decide), fun k => ((p k).sm (by decide) (b _ (by decide)) (b _ (by decide)) fun _ => by decide).2, fun j hj => ((Sz_smL p j).sm (by decide) (b _ (by decide)) (b _ ?_) fun _ => by decide).2⟩
  have : (2 : Nat) ^ 20 = 1048576 := by decide
  omega
theorem low_up {d : Dom} {x : d.C} (h : d.Sz 6 50 2 x) : d.Sz 36 40000 4 x := by
  have := h.scale (N := 6) (by decide)
  exact Dom.Sz.mono (show d.Sz 36 300 2 x from this) (by decide) (by decide)

def w_law_low_4 : WS := (wRet (wCall pre_law_product post_law_product (wCons (wName 3) (wCons (wCall pre_law_matrix post_law_matrix (wCons (wName 0) (wCons (wName 3) (wCons (wName 1) (wCons (wName 5) wNil))))) (wCons (wCall pre_law_matrix post_law_matrix (wCons (wName 0) (wCons (wName 3) (wCons (wName 5) (wCons (wName 2) wNil))))) wNil)))))
def w_law_low_3 : WS := wSeq (wAsg (wCall pre_law_take post_law_take (wCons (wName 0) (wCons (wBin dAdd (wB bMin (wCons (wName 1) (wCons (wName 2) wNil))) (wC (.int 1))) wNil))) (wgName 5)) w_law_low_4
def w_law_low_2 : WS := wSeq (wIfS (wOr (wTest (wBin dGt (wName 4) (wC (.int 1)))) (wOr (wTest (wBin dLt (wName 1) (wC (.int 1)))) (wTest (wBin dLt (wName 2) (wC (.int 1)))))) (wRet (wCall pre_law_matrix post_law_matrix (wCons (wName 0) (wCons (wName 3) (wCons (wName 1) (wCons (wName 2) wNil)))))) wNext) w_law_low_3
def w_law_low_1 : WS := wSeq (wAsg (wCall pre_law_take post_law_take (wCons (wName 0) (wCons (wC (.int 5)) wNil))) (wgName 4)) w_law_low_2
def w_law_low_0 : WS := wSeq (wAsg (wTup (wCons (wC (.str (Str.ofString "Z"))) wNil)) (wgName 3)) w_law_low_1

theorem body_law_low : ∀ ds, pre_law_low ds → w_law_low_0 { nx := fun _ => post_law_low ds .none, rt := post_law_low ds } (env0 ["c", "m", "n", "d", "k", "r"] ds) := by
  intro ds h
  obtain ⟨m, n, rfl, hm, hn⟩ := h
  have fin : ∀ X : List (List Int), X.length = m → (∀ x ∈ X, x.length = n ∧ ∀ y ∈ x, Dom.Z.Sz 6 50 2 y) → post_law_low [.dict [], .int m, .int n] (Mt m n (X.map fun x => x.map Dom.Z.el)) := fun X h1 h2 =>
    ⟨m, n, _, rfl, MtD_of (d := .Z) X h1 fun x hx => (h2 x hx).1, fun i j => low_up (d := .Z) (mat_sz (d := .Z) h2 i j)⟩
  unfold w_law_low_0
  walk_at "dl"
  unfold w_law_low_1
  walk_at "dl"
  (rw [take_iff]; refine ⟨by decide, fun k k0 k1 => ?_⟩; walk_at "dl")
  unfold w_law_low_2
  walk_at "dl"
  have ez : (PyData.tuple [PyData.str (Str.ofString "Z")] : D) = Dom.Z.enc := rfl
  rw [ez]
  by_cases c : 1 < k ∨ ((m : Nat) : Int) < 1 ∨ ((n : Nat) : Int) < 1
  · have c2 : ∀ X Y : Prop, X → (if 1 < k then X else if ((m : Nat) : Int) < 1 then X else if ((n : Nat) : Int) < 1 then X else Y) := fun X Y hX => by
      split
      · exact hX
      · split
        · exact hX
        · rw [if_pos (by omega)]; exact hX
    refine c2 _ _ (lmatrix_iff .Z m n (by omega) hn fun X h1 h2 => fin X h1 h2)
  · rw [if_neg (by omega), if_neg (by omega), if_neg (by omega)]
    unfold w_law_low_3
    walk_at "dl"
    obtain ⟨q, hq, hqm⟩ : ∃ q : Nat, (if ((n : Nat) : Int) < ((m : Nat) : Int) then ((n : Nat) : Int) else ((m : Nat) : Int)) = ((q : Nat) : Int) ∧ q ≤ m := by
      by_cases h : ((n : Nat) : Int) < ((m : Nat) : Int)
      · exact ⟨n, if_pos h, by omega⟩
      · exact ⟨m, if_neg h, Nat.le_refl m⟩
    rw [hq]
    rw [take_iff]
    refine ⟨⟨by omega, ?_⟩, fun r r0 r1 => ?_⟩
    · have : ∀ q : Nat, q ≤ 8 → (((q : Nat) : Int) + 1).natAbs.log2 < 9000 := fun q hq => by
        have := Nat.log2_lt (n := (((q : Nat) : Int) + 1).natAbs) (k := 9000) (by omega)
        rw [this]
        exact Nat.lt_of_le_of_lt (show _ ≤ 9 by omega) (Nat.lt_of_lt_of_le (show 9 < 2 ^ 4 by decide) (Nat.pow_le_pow_right (by decide) (by decide)))
      exact this q (by omega)
    obtain ⟨p, rfl⟩ := Int.eq_ofNat_of_zero_le r0
    unfold w_law_low_4
    walk_at "dl"
    refine lmatrix_iff .Z m p (by omega) (by omega) fun X h1 h2 => ?_
    refine lmatrix_iff .Z p n (by omega) hn fun Y g1 g2 => ?_
    rw [MtD_of (d := .Z) X h1 fun x hx => (h2 x hx).1, MtD_of (d := .Z) Y g1 fun x hx => (g2 x hx).1]
    refine lproduct_iff .Z m p n _ _ trivial (by omega) (by omega) hn (fun i j => dot_low (d := .Z) (fun k => mat_sz (d := .Z) h2 i k) (fun k => mat_sz (d := .Z) g2 k j)) ?_
    refine ⟨m, n, _, rfl, rfl, fun i j => ?_⟩
    have := Sz_smL (d := .Z) (r := fun k => cf (X.getD i []) k * cf (Y.getD k []) j) (fun k => low_mul (d := .Z) (mat_sz (d := .Z) h2 i k) (mat_sz (d := .Z) g2 k j)) p
    exact this.mono (by omega) (Nat.le_refl _)

theorem ok_law_low {P : Program} {w : World} {K : Fg} {mg : Str → Option Value} {base : Heap} {fa : Nat → Addr} {fdd : Nat → FuncData} (T : Txt K mg fa fdd) : FnOk P w K mg base CX0 7 (fa 35) (fdd 35) ["c", "m", "n"] (SpD K pre_law_low post_law_low) := by
  have G11 : FnOk P w K mg base CX0 2 (fa 11) (fdd 11) ["c", "many"] (SpD K pre_law_take post_law_take) := ok_law_take T
  have G33 : FnOk P w K mg base CX0 6 (fa 33) (fdd 33) ["d", "a", "b"] (SpD K pre_law_product post_law_product) := ok_law_product T
  have G30 : FnOk P w K mg base CX0 5 (fa 30) (fdd 30) ["c", "d", "m", "n"] (SpD K pre_law_matrix post_law_matrix) := ok_law_matrix T
  exact fn_ok T.F35 sc35 len_law_low (fun cdv A outer s H E hr => ⟨_, w_law_low_0, (dss_cons (ds_set (i := 3) sc35.nd (de_tup (da_cons de_str da_nil)))
      (dss_cons (ds_set (i := 4) sc35.nd (de_call G11 (hr.mono (by decide)) (by rfl) T.g11 T.F11.kp T.b11 pass0 (da_cons (de_name 0) (da_cons de_int da_nil))))
      (dss_cons (ds_if (DW.dt (dw_or (dt_cmp op_gt sn2_gt (de_name 4) de_int) (dw_or (dt_cmp op_lt sn2_lt (de_name 1) de_int) (dw_or1 (dt_cmp op_lt sn2_lt (de_name 2) de_int))))) (dss_one (ds_ret (de_call G30 (hr.mono (by decide)) (by rfl) T.g30 T.F30.kp T.b30 pass0 (da_cons (de_name 0) (da_cons (de_name 3) (da_cons (de_name 1) (da_cons (de_name 2) da_nil))))))) dss_nil)
      (dss_cons (ds_set (i := 5) sc35.nd (de_call G11 (hr.mono (by decide)) (by rfl) T.g11 T.F11.kp T.b11 pass0 (da_cons (de_name 0) (da_cons (de_op op_addD sn2_add (de_callB (call_min2 rfl) snc_min (by rfl) T.m_min (by decide +kernel) (da_cons (de_name 1) (da_cons (de_name 2) da_nil))) de_int) da_nil))))
      (dss_one (ds_ret (de_call G33 hr (by rfl) T.g33 T.F33.kp T.b33 pass0 (da_cons (de_name 3) (da_cons (de_call G30 (hr.mono (by decide)) (by rfl) T.g30 T.F30.kp T.b30 pass0 (da_cons (de_name 0) (da_cons (de_name 3) (da_cons (de_name 1) (da_cons (de_name 5) da_nil))))) (da_cons (de_call G30 (hr.mono (by decide)) (by rfl) T.g30 T.F30.kp T.b30 pass0 (da_cons (de_name 0) (da_cons (de_name 3) (da_cons (de_name 5) (da_cons (de_name 2) da_nil))))) da_nil)))))))))), body_law_low⟩)
def w_law_6 : WS := (wRet (wBin dEq (wCall pre_primes_for post_primes_for (wCons (wName 5) wNil)) (wCall pre_law_primes post_law_primes (wCons (wName 5) wNil))))
def w_law_5 : WS := wSeq (wAsg (wBin dIx (wLst (wCons (wCall pre_law_take post_law_take (wCons (wName 1) (wCons (wC (.int 40000)) wNil))) (wCons (wC (.int 32771)) (wCons (wC (.int 32770)) (wCons (wBin dSub (wBin dMul (wC (.int 32771)) (wC (.int 32779))) (wCall pre_law_take post_law_take (wCons (wName 1) (wCons (wC (.int 3)) wNil)))) (wCons (wCall pre_law_raised post_law_raised (wCons (wC (.int 10)) (wCons (wCall pre_law_take post_law_take (wCons (wName 1) (wCons (wC (.int 40)) wNil))) wNil))) (wCons (wC (.int 0)) wNil))))))) (wCall pre_law_take post_law_take (wCons (wName 1) (wCons (wC (.int 6)) wNil)))) (wgName 5)) w_law_6
def w_law_4 : WS := wSeq (wIfS (wTest (wBin dGt (wB bAbs (wCons (wCall pre_law_determinant post_law_determinant (wCons (wTup (wCons (wC (.str (Str.ofString "Z"))) wNil)) (wCons (wName 3) wNil))) wNil)) (wName 4))) (wRet (wC (.bool false))) wNext) w_law_5
def w_law_3 : WS := wSeq (wIfS (wOr (wTest (wBin dNe (wName 4) (wCall pre_law_bound post_law_bound (wCons (wBin dIx (wName 3) (wC (.int 2))) (wCons (wC (.int 1)) wNil))))) (wTest (wBin dNe (wCall pre_coefficient_bound post_coefficient_bound (wCons (wName 3) wNil)) (wCall pre_law_bound post_law_bound (wCons (wBin dIx (wName 3) (wC (.int 2))) (wCons (wC (.int 2)) wNil)))))) (wRet (wC (.bool false))) wNext) w_law_4
def w_law_2 : WS := wSeq (wAsg (wCall pre_determinant_bound post_determinant_bound (wCons (wName 3) wNil)) (wgName 4)) w_law_3
def w_law_1 : WS := wSeq (wAsg (wCall pre_law_low post_law_low (wCons (wName 1) (wCons (wName 2) (wCons (wName 2) wNil)))) (wgName 3)) w_law_2
def w_law_0 : WS := wSeq (wAsg (wCall pre_law_take post_law_take (wCons (wName 1) (wCons (wC (.int 5)) wNil))) (wgName 2)) w_law_1
/-! ### the law -/
theorem lN_pl (l : List Nat) : (lN l).plain = true ∧ (lN l).depth ≤ 64 := by
  have h := eqOk_t (xs := l.map fun i => ((i : Nat) : Int)) (ys := l.map fun i => ((i : Nat) : Int))
  have e : (PyData.tuple ((l.map fun i => ((i : Nat) : Int)).map .int)) = .tuple (l.map fun i => .int (i : Nat)) := by rw [List.map_map]; rfl
  rw [e] at h
  refine ⟨?_, ?_⟩
  · have := h.1
    simpa [lN, PyData.plain] using this
  · have := h.2.2.elim id id
    simpa [lN, PyData.depth] using this
theorem law50c (m : Int) (hm : m ≤ 10 ^ 40) (s0 s1 s2 s3 s4 : Slot) : w_law_6 LE [s0, s1, s2, s3, s4, .val (.int m)] := by
  unfold w_law_6
  walk_at "dl"
  refine primes_for_iff m hm fun s hs => ?_
  refine law_primes_iff m hm fun t ht => ?_
  obtain rfl := hs.uniq ht
  have hp := lN_pl (fE s)
  exact dEq_refl' hp.1 hp.2 rfl
theorem lraised_iff {b k : Int} (h1 : -(2 ^ 64) < b) (h2 : b < 2 ^ 64) (h3 : 0 ≤ k) (h4 : k < 2 ^ 62) {Q : D → Prop} (h : Q (.int (b ^ k.toNat))) : (pre_law_raised [.int b, .int k] ∧ ∀ r, post_law_raised [.int b, .int k] r → Q r) := ⟨⟨b, k, rfl, h1, h2, h3, h4⟩, fun r hr => by
  obtain ⟨b', k', e, rfl⟩ := hr
  cases e
  exact h⟩
theorem law50b (n : Nat) (A : Nat → Nat → Int) (hn : n ≤ 4) (hA : ∀ i j, (A i j).natAbs ≤ 40000) (s0 s2 : Slot) : w_law_2 LE [s0, .val (.dict []), s2, .val (MtD .Z n n A), .un, .un] := by
  have h0 : BdOk n A := ⟨by omega, fun i j => Nat.lt_of_le_of_lt (hA i j) (Nat.lt_of_lt_of_le (show 40000 < 2 ^ 20 by decide) (Nat.pow_le_pow_right (by decide) (by decide)))⟩
  have ez : MtD .Z n n A = .tuple [.int n, .int n, .tuple (ZR n A)] := ZR_mt
  unfold w_law_2
  walk_at "dl"
  refine determinant_bound_iff n A h0 ?_
  unfold w_law_3
  rw [ez]
  walk_at "dl"
  refine law_bound_iff n A 1 h0 (by decide) (by decide) ?_
  walk_at "dl"
  rw [if_neg (fun h => h trivial), ← ez]
  refine coefficient_bound_iff n A h0 ?_
  refine law_bound_iff n A 2 h0 (by decide) (by decide) ?_
  walk_at "dl"
  rw [if_neg (fun h => h trivial)]
  unfold w_law_4
  walk_at "dl"
  refine ldeterminant_iff n A (by omega) h0 ?_
  have hb := had_bnd n hn A
  walk_at "dl"
  rw [if_neg (by omega)]
  unfold w_law_5
  walk_at "dl"
  rw [take_iff]
  refine ⟨by decide, fun t1 a1 b1 => ?_⟩
  walk_at "dl"
  refine ⟨mulOk_of (a := 32) (b := 32) (by decide) (by decide) (by decide) (by decide) (by decide), ?_⟩
  rw [take_iff]
  refine ⟨by decide, fun t2 a2 b2 => ?_⟩
  walk_at "dl"
  rw [take_iff]
  refine ⟨by decide, fun t3 a3 b3 => ?_⟩
  refine lraised_iff (by decide) (by decide) a3 (by omega) ?_
  rw [take_iff]
  refine ⟨by decide, fun t4 a4 b4 => ?_⟩
  have h10 : ∀ k : Nat, k < 40 → (10 : Int) ^ k ≤ 10 ^ 40 := by decide
  have big : (40000 : Int) ≤ 10 ^ 40 := by decide
  have big2 : (32771 : Int) * 32779 ≤ 10 ^ 40 := by decide
  have big0 : (0 : Int) ≤ 10 ^ 40 := by decide
  rcases (show t4 = 0 ∨ t4 = 1 ∨ t4 = 2 ∨ t4 = 3 ∨ t4 = 4 ∨ t4 = 5 by omega) with rfl | rfl | rfl | rfl | rfl | rfl
  · exact ⟨_, rfl, law50c _ (by omega) _ _ _ _ _⟩
  · exact ⟨_, rfl, law50c _ (by omega) _ _ _ _ _⟩
  · exact ⟨_, rfl, law50c _ (by omega) _ _ _ _ _⟩
  · exact ⟨_, rfl, law50c _ (by omega) _ _ _ _ _⟩
  · exact ⟨_, rfl, law50c _ (h10 _ (by omega)) _ _ _ _ _⟩
  · exact ⟨_, rfl, law50c _ big0 _ _ _ _ _⟩
theorem body_law : w_law_0 { nx := fun _ => False, rt := fun d => d = .bool true } (put (List.replicate 6 .un) 1 (.val (.dict []))) := by
  unfold w_law_0
  walk_at "dl"
  rw [take_iff]
  refine ⟨by decide, fun n0 n00 n01 => ?_⟩
  obtain ⟨n, rfl⟩ := Int.eq_ofNat_of_zero_le n00
  walk_at "dl"
  unfold w_law_1
  walk_at "dl"
  refine llow_iff n n (by omega) (by omega) fun A hA => ?_
  exact law50b n A (by omega) hA _ _

theorem ok_law {P : Program} {w : World} {K : Fg} {mg : Str → Option Value} {base : Heap} {fa : Nat → Addr} {fdd : Nat → FuncData} (T : Txt K mg fa fdd) : FnOk P w K mg base CX0 8 (fa 44) (fdd 44) ["script"] (spLaw K) := by
  have GS : FnOk P w K mg base CX0 1 (fa 9) (fdd 9) ["script"] (spStart K) := ok_law_start T
  have G11 : FnOk P w K mg base CX0 2 (fa 11) (fdd 11) ["c", "many"] (SpD K pre_law_take post_law_take) := ok_law_take T
  have G35 : FnOk P w K mg base CX0 7 (fa 35) (fdd 35) ["c", "m", "n"] (SpD K pre_law_low post_law_low) := ok_law_low T
  have G6 : FnOk P w K mg base CX0 3 (fa 6) (fdd 6) ["a"] (SpD K pre_determinant_bound post_determinant_bound) := ok_determinant_bound T
  have G8 : FnOk P w K mg base CX0 4 (fa 8) (fdd 8) ["m"] (SpD K pre_primes_for post_primes_for) := ok_primes_for T
  have G43 : FnOk P w K mg base CX0 2 (fa 43) (fdd 43) ["m"] (SpD K pre_law_primes post_law_primes) := ok_law_primes T
  have G41 : FnOk P w K mg base CX0 2 (fa 41) (fdd 41) ["rows", "more"] (SpD K pre_law_bound post_law_bound) := ok_law_bound T
  have G7 : FnOk P w K mg base CX0 3 (fa 7) (fdd 7) ["a"] (SpD K pre_coefficient_bound post_coefficient_bound) := ok_coefficient_bound T
  have G39 : FnOk P w K mg base CX0 5 (fa 39) (fdd 39) ["d", "a"] (SpD K pre_law_determinant post_law_determinant) := ok_law_determinant T
  have G12 : FnOk P w K mg base CX0 1 (fa 12) (fdd 12) ["b", "k"] (SpD K pre_law_raised post_law_raised) := ok_law_raised T
  refine T.F44.ok sc44 (fun vs H Q E h => ?_) (fun cdv A outer s H vs Q E hr h => ?_)
  · obtain ⟨a, ns, rfl, _⟩ := h
    rfl
  · obtain ⟨a, ns, rfl, hS, hlen, q⟩ := h
    have rest : DSs (cxOf CX0 P w K mg base ["script", "c", "n", "a", "bound", "m"] "law" (defScope s44) (fa 44) cdv A outer s H E).nox ((defBody s44).drop 1) _ w_law_0 := (dss_cons (ds_set (i := 2) sc44.nd (de_call G11 (hr.mono (by decide)) (by rfl) T.g11 T.F11.kp T.b11 pass0 (da_cons (de_name 1) (da_cons de_int da_nil))))
      (dss_cons (ds_set (i := 3) sc44.nd (de_call G35 hr (by rfl) T.g35 T.F35.kp T.b35 pass0 (da_cons (de_name 1) (da_cons (de_name 2) (da_cons (de_name 2) da_nil)))))
      (dss_cons (ds_set (i := 4) sc44.nd (de_call G6 (hr.mono (by decide)) (by rfl) T.g6 T.F6.kp T.b6 pass0 (da_cons (de_name 3) da_nil)))
      (dss_cons (ds_if (DW.dt (dw_or (dt_cmp (op_neP hr.units) sn2_ne (de_name 4) (de_call G41 (hr.mono (by decide)) (by rfl) T.g41 T.F41.kp T.b41 pass0 (da_cons (de_ix ix_D sn2_ix (de_name 3) de_int) (da_cons de_int da_nil)))) (dw_or1 (dt_cmp (op_neP hr.units) sn2_ne (de_call G7 (hr.mono (by decide)) (by rfl) T.g7 T.F7.kp T.b7 pass0 (da_cons (de_name 3) da_nil)) (de_call G41 (hr.mono (by decide)) (by rfl) T.g41 T.F41.kp T.b41 pass0 (da_cons (de_ix ix_D sn2_ix (de_name 3) de_int) (da_cons de_int da_nil))))))) (dss_one (ds_ret de_bl)) dss_nil)
      (dss_cons (ds_if (dt_cmp op_gt sn2_gt (de_callB call_abs snc_abs (by rfl) T.m_abs (by decide +kernel) (da_cons (de_call G39 (hr.mono (by decide)) (by rfl) T.g39 T.F39.kp T.b39 pass0 (da_cons (de_tup (da_cons de_str da_nil)) (da_cons (de_name 3) da_nil))) da_nil)) (de_name 4)) (dss_one (ds_ret de_bl)) dss_nil)
      (dss_cons (ds_set (i := 5) sc44.nd (de_ix ix_D sn2_ix (de_lst (da_cons (de_call G11 (hr.mono (by decide)) (by rfl) T.g11 T.F11.kp T.b11 pass0 (da_cons (de_name 1) (da_cons de_int da_nil))) (da_cons de_int (da_cons de_int (da_cons (de_op op_sub sn2_sub (de_op op_mulD sn2_mul de_int de_int) (de_call G11 (hr.mono (by decide)) (by rfl) T.g11 T.F11.kp T.b11 pass0 (da_cons (de_name 1) (da_cons de_int da_nil)))) (da_cons (de_call G12 (hr.mono (by decide)) (by rfl) T.g12 T.F12.kp T.b12 pass0 (da_cons de_int (da_cons (de_call G11 (hr.mono (by decide)) (by rfl) T.g11 T.F11.kp T.b11 pass0 (da_cons (de_name 1) (da_cons de_int da_nil))) da_nil))) (da_cons de_int da_nil))))))) (de_call G11 (hr.mono (by decide)) (by rfl) T.g11 T.F11.kp T.b11 pass0 (da_cons (de_name 1) (da_cons de_int da_nil)))))
      (dss_one (ds_ret (de_cmp (op_eqP hr.units) sn2_eq (de_call G8 (hr.mono (by decide)) (by rfl) T.g8 T.F8.kp T.b8 pass0 (da_cons (de_name 5) da_nil)) (de_call G43 (hr.mono (by decide)) (by rfl) T.g43 T.F43.kp T.b43 pass0 (da_cons (de_name 5) da_nil)))))))))))
    refine ⟨_, pss_cons (ps_set (i := 1) sc44.nd rfl (by first | exact .inl rfl | exact .inr rfl) (pe_call GS (hr.mono (by decide)) (by rfl) T.g9 T.F9.kp T.b9 .nil pass0 (pa_cons (pv 0) pa_nil))) rest.ps, ?_⟩
    refine ⟨.ref a, rfl, a, ns, rfl, hS, hlen, fun H' b p ms _ npb hb hp hl => ?_⟩
    refine rest.sd _ _ H' _ [] [] { nx := fun _ => False, rt := fun d => d = .bool true } _ (at_law (σ := (L2.start ["script", "c", "n", "a", "bound", "m"] [V.ref a]).set 1 (some (.ref b))) rfl npb hb hp hl) body_law ⟨fun _ _ _ _ h => h.elim, fun v d H2 _ _ g e => ?_, fun _ _ _ _ h => h.elim, fun _ _ _ _ h => h.elim⟩
    subst e
    cases g
    exact q H2

theorem all_mk {l : PySem.W.OpenLaw} {w : World} {K : PySem.W.Frag} {h : Heap} {mg : Str → Option Value} {fa f0 f1 f2 f3 f4 f5 f6 f7 f8 f9 f10 f11 f12 f13 f14 f15 f16 f17 f18 f19 f20 f29 f30 f31 f32 f33 f35 f37 f38 f39 f40 f41 f42 f43 f44 : Addr} (X : K.In h) (G : h.Ns mainGlobals mg) (hfa : mg "law" = some (.ref fa))
    {od0 an0 : Option Addr} {sl0 : Array (Option Value)} {oc0 kV0 dc0 pm0 cd0 ct0 : Value}
    {od1 an1 : Option Addr} {sl1 : Array (Option Value)} {oc1 kV1 dc1 pm1 cd1 ct1 : Value}
    {od2 an2 : Option Addr} {sl2 : Array (Option Value)} {oc2 kV2 dc2 pm2 cd2 ct2 : Value}
    {od3 an3 : Option Addr} {sl3 : Array (Option Value)} {oc3 kV3 dc3 pm3 cd3 ct3 : Value}
    {od4 an4 : Option Addr} {sl4 : Array (Option Value)} {oc4 kV4 dc4 pm4 cd4 ct4 : Value}
    {od5 an5 : Option Addr} {sl5 : Array (Option Value)} {oc5 kV5 dc5 pm5 cd5 ct5 : Value}
    {od6 an6 : Option Addr} {sl6 : Array (Option Value)} {oc6 kV6 dc6 pm6 cd6 ct6 : Value}
    {od7 an7 : Option Addr} {sl7 : Array (Option Value)} {oc7 kV7 dc7 pm7 cd7 ct7 : Value}
    {od8 an8 : Option Addr} {sl8 : Array (Option Value)} {oc8 kV8 dc8 pm8 cd8 ct8 : Value}
    {od9 an9 : Option Addr} {sl9 : Array (Option Value)} {oc9 kV9 dc9 pm9 cd9 ct9 : Value}
    {od10 an10 : Option Addr} {sl10 : Array (Option Value)} {oc10 kV10 dc10 pm10 cd10 ct10 : Value}
    {od11 an11 : Option Addr} {sl11 : Array (Option Value)} {oc11 kV11 dc11 pm11 cd11 ct11 : Value}
    {od12 an12 : Option Addr} {sl12 : Array (Option Value)} {oc12 kV12 dc12 pm12 cd12 ct12 : Value}
    {od13 an13 : Option Addr} {sl13 : Array (Option Value)} {oc13 kV13 dc13 pm13 cd13 ct13 : Value}
    {od14 an14 : Option Addr} {sl14 : Array (Option Value)} {oc14 kV14 dc14 pm14 cd14 ct14 : Value}
    {od15 an15 : Option Addr} {sl15 : Array (Option Value)} {oc15 kV15 dc15 pm15 cd15 ct15 : Value}
    {od16 an16 : Option Addr} {sl16 : Array (Option Value)} {oc16 kV16 dc16 pm16 cd16 ct16 : Value}
    {od17 an17 : Option Addr} {sl17 : Array (Option Value)} {oc17 kV17 dc17 pm17 cd17 ct17 : Value}
    {od18 an18 : Option Addr} {sl18 : Array (Option Value)} {oc18 kV18 dc18 pm18 cd18 ct18 : Value}
    {od19 an19 : Option Addr} {sl19 : Array (Option Value)} {oc19 kV19 dc19 pm19 cd19 ct19 : Value}
    {od20 an20 : Option Addr} {sl20 : Array (Option Value)} {oc20 kV20 dc20 pm20 cd20 ct20 : Value}
    {od29 an29 : Option Addr} {sl29 : Array (Option Value)} {oc29 kV29 dc29 pm29 cd29 ct29 : Value}
    {od30 an30 : Option Addr} {sl30 : Array (Option Value)} {oc30 kV30 dc30 pm30 cd30 ct30 : Value}
    {od31 an31 : Option Addr} {sl31 : Array (Option Value)} {oc31 kV31 dc31 pm31 cd31 ct31 : Value}
    {od32 an32 : Option Addr} {sl32 : Array (Option Value)} {oc32 kV32 dc32 pm32 cd32 ct32 : Value}
    {od33 an33 : Option Addr} {sl33 : Array (Option Value)} {oc33 kV33 dc33 pm33 cd33 ct33 : Value}
    {od35 an35 : Option Addr} {sl35 : Array (Option Value)} {oc35 kV35 dc35 pm35 cd35 ct35 : Value}
    {od37 an37 : Option Addr} {sl37 : Array (Option Value)} {oc37 kV37 dc37 pm37 cd37 ct37 : Value}
    {od38 an38 : Option Addr} {sl38 : Array (Option Value)} {oc38 kV38 dc38 pm38 cd38 ct38 : Value}
    {od39 an39 : Option Addr} {sl39 : Array (Option Value)} {oc39 kV39 dc39 pm39 cd39 ct39 : Value}
    {od40 an40 : Option Addr} {sl40 : Array (Option Value)} {oc40 kV40 dc40 pm40 cd40 ct40 : Value}
    {od41 an41 : Option Addr} {sl41 : Array (Option Value)} {oc41 kV41 dc41 pm41 cd41 ct41 : Value}
    {od42 an42 : Option Addr} {sl42 : Array (Option Value)} {oc42 kV42 dc42 pm42 cd42 ct42 : Value}
    {od43 an43 : Option Addr} {sl43 : Array (Option Value)} {oc43 kV43 dc43 pm43 cd43 ct43 : Value}
    {od44 an44 : Option Addr} {sl44 : Array (Option Value)} {oc44 kV44 dc44 pm44 cd44 ct44 : Value}
    (a0 : PySem.W.nsIn K mainGlobals "is_prime" = some (some (.ref f0))) (l0 : K.lookup f0 = some ⟨oc0, od0, .func (PySem.W.fnOf "is_prime" "is_prime" (defArgs s0) (defBody s0) (defScope s0) .none kV0 dc0 pm0 an0 cd0 ct0), sl0⟩) (c0 : PySem.W.codeIn K cd0 "is_prime" = true) (k0 : PySem.W.keepIn K (.ref f0) = true)
    (a1 : PySem.W.nsIn K mainGlobals "next_prime" = some (some (.ref f1))) (l1 : K.lookup f1 = some ⟨oc1, od1, .func (PySem.W.fnOf "next_prime" "next_prime" (defArgs s1) (defBody s1) (defScope s1) .none kV1 dc1 pm1 an1 cd1 ct1), sl1⟩) (c1 : PySem.W.codeIn K cd1 "next_prime" = true) (k1 : PySem.W.keepIn K (.ref f1) = true)
    (a2 : PySem.W.nsIn K mainGlobals "root" = some (some (.ref f2))) (l2 : K.lookup f2 = some ⟨oc2, od2, .func (PySem.W.fnOf "root" "root" (defArgs s2) (defBody s2) (defScope s2) .none kV2 dc2 pm2 an2 cd2 ct2), sl2⟩) (c2 : PySem.W.codeIn K cd2 "root" = true) (k2 : PySem.W.keepIn K (.ref f2) = true)
    (a3 : PySem.W.nsIn K mainGlobals "need_square" = some (some (.ref f3))) (l3 : K.lookup f3 = some ⟨oc3, od3, .func (PySem.W.fnOf "need_square" "need_square" (defArgs s3) (defBody s3) (defScope s3) .none kV3 dc3 pm3 an3 cd3 ct3), sl3⟩) (c3 : PySem.W.codeIn K cd3 "need_square" = true) (k3 : PySem.W.keepIn K (.ref f3) = true)
    (a4 : PySem.W.nsIn K mainGlobals "product_of_rows" = some (some (.ref f4))) (l4 : K.lookup f4 = some ⟨oc4, od4, .func (PySem.W.fnOf "product_of_rows" "product_of_rows" (defArgs s4) (defBody s4) (defScope s4) .none kV4 dc4 pm4 an4 cd4 ct4), sl4⟩) (c4 : PySem.W.codeIn K cd4 "product_of_rows" = true) (k4 : PySem.W.keepIn K (.ref f4) = true)
    (a5 : PySem.W.nsIn K mainGlobals "product_of_roots" = some (some (.ref f5))) (l5 : K.lookup f5 = some ⟨oc5, od5, .func (PySem.W.fnOf "product_of_roots" "product_of_roots" (defArgs s5) (defBody s5) (defScope s5) .none kV5 dc5 pm5 an5 cd5 ct5), sl5⟩) (c5 : PySem.W.codeIn K cd5 "product_of_roots" = true) (k5 : PySem.W.keepIn K (.ref f5) = true)
    (a6 : PySem.W.nsIn K mainGlobals "determinant_bound" = some (some (.ref f6))) (l6 : K.lookup f6 = some ⟨oc6, od6, .func (PySem.W.fnOf "determinant_bound" "determinant_bound" (defArgs s6) (defBody s6) (defScope s6) .none kV6 dc6 pm6 an6 cd6 ct6), sl6⟩) (c6 : PySem.W.codeIn K cd6 "determinant_bound" = true) (k6 : PySem.W.keepIn K (.ref f6) = true)
    (a7 : PySem.W.nsIn K mainGlobals "coefficient_bound" = some (some (.ref f7))) (l7 : K.lookup f7 = some ⟨oc7, od7, .func (PySem.W.fnOf "coefficient_bound" "coefficient_bound" (defArgs s7) (defBody s7) (defScope s7) .none kV7 dc7 pm7 an7 cd7 ct7), sl7⟩) (c7 : PySem.W.codeIn K cd7 "coefficient_bound" = true) (k7 : PySem.W.keepIn K (.ref f7) = true)
    (a8 : PySem.W.nsIn K mainGlobals "primes_for" = some (some (.ref f8))) (l8 : K.lookup f8 = some ⟨oc8, od8, .func (PySem.W.fnOf "primes_for" "primes_for" (defArgs s8) (defBody s8) (defScope s8) .none kV8 dc8 pm8 an8 cd8 ct8), sl8⟩) (c8 : PySem.W.codeIn K cd8 "primes_for" = true) (k8 : PySem.W.keepIn K (.ref f8) = true)
    (a9 : PySem.W.nsIn K mainGlobals "_law_start" = some (some (.ref f9))) (l9 : K.lookup f9 = some ⟨oc9, od9, .func (PySem.W.fnOf "_law_start" "_law_start" (defArgs s9) (defBody s9) (defScope s9) .none kV9 dc9 pm9 an9 cd9 ct9), sl9⟩) (c9 : PySem.W.codeIn K cd9 "_law_start" = true) (k9 : PySem.W.keepIn K (.ref f9) = true)
    (a10 : PySem.W.nsIn K mainGlobals "_law_fill" = some (some (.ref f10))) (l10 : K.lookup f10 = some ⟨oc10, od10, .func (PySem.W.fnOf "_law_fill" "_law_fill" (defArgs s10) (defBody s10) (defScope s10) .none kV10 dc10 pm10 an10 cd10 ct10), sl10⟩) (c10 : PySem.W.codeIn K cd10 "_law_fill" = true) (k10 : PySem.W.keepIn K (.ref f10) = true)
    (a11 : PySem.W.nsIn K mainGlobals "_law_take" = some (some (.ref f11))) (l11 : K.lookup f11 = some ⟨oc11, od11, .func (PySem.W.fnOf "_law_take" "_law_take" (defArgs s11) (defBody s11) (defScope s11) .none kV11 dc11 pm11 an11 cd11 ct11), sl11⟩) (c11 : PySem.W.codeIn K cd11 "_law_take" = true) (k11 : PySem.W.keepIn K (.ref f11) = true)
    (a12 : PySem.W.nsIn K mainGlobals "_law_raised" = some (some (.ref f12))) (l12 : K.lookup f12 = some ⟨oc12, od12, .func (PySem.W.fnOf "_law_raised" "_law_raised" (defArgs s12) (defBody s12) (defScope s12) .none kV12 dc12 pm12 an12 cd12 ct12), sl12⟩) (c12 : PySem.W.codeIn K cd12 "_law_raised" = true) (k12 : PySem.W.keepIn K (.ref f12) = true)
    (a13 : PySem.W.nsIn K mainGlobals "_law_common" = some (some (.ref f13))) (l13 : K.lookup f13 = some ⟨oc13, od13, .func (PySem.W.fnOf "_law_common" "_law_common" (defArgs s13) (defBody s13) (defScope s13) .none kV13 dc13 pm13 an13 cd13 ct13), sl13⟩) (c13 : PySem.W.codeIn K cd13 "_law_common" = true) (k13 : PySem.W.keepIn K (.ref f13) = true)
    (a14 : PySem.W.nsIn K mainGlobals "_law_fraction" = some (some (.ref f14))) (l14 : K.lookup f14 = some ⟨oc14, od14, .func (PySem.W.fnOf "_law_fraction" "_law_fraction" (defArgs s14) (defBody s14) (defScope s14) .none kV14 dc14 pm14 an14 cd14 ct14), sl14⟩) (c14 : PySem.W.codeIn K cd14 "_law_fraction" = true) (k14 : PySem.W.keepIn K (.ref f14) = true)
    (a15 : PySem.W.nsIn K mainGlobals "_law_zero" = some (some (.ref f15))) (l15 : K.lookup f15 = some ⟨oc15, od15, .func (PySem.W.fnOf "_law_zero" "_law_zero" (defArgs s15) (defBody s15) (defScope s15) .none kV15 dc15 pm15 an15 cd15 ct15), sl15⟩) (c15 : PySem.W.codeIn K cd15 "_law_zero" = true) (k15 : PySem.W.keepIn K (.ref f15) = true)
    (a16 : PySem.W.nsIn K mainGlobals "_law_strip" = some (some (.ref f16))) (l16 : K.lookup f16 = some ⟨oc16, od16, .func (PySem.W.fnOf "_law_strip" "_law_strip" (defArgs s16) (defBody s16) (defScope s16) .none kV16 dc16 pm16 an16 cd16 ct16), sl16⟩) (c16 : PySem.W.codeIn K cd16 "_law_strip" = true) (k16 : PySem.W.keepIn K (.ref f16) = true)
    (a17 : PySem.W.nsIn K mainGlobals "_law_number" = some (some (.ref f17))) (l17 : K.lookup f17 = some ⟨oc17, od17, .func (PySem.W.fnOf "_law_number" "_law_number" (defArgs s17) (defBody s17) (defScope s17) .none kV17 dc17 pm17 an17 cd17 ct17), sl17⟩) (c17 : PySem.W.codeIn K cd17 "_law_number" = true) (k17 : PySem.W.keepIn K (.ref f17) = true)
    (a18 : PySem.W.nsIn K mainGlobals "_law_part" = some (some (.ref f18))) (l18 : K.lookup f18 = some ⟨oc18, od18, .func (PySem.W.fnOf "_law_part" "_law_part" (defArgs s18) (defBody s18) (defScope s18) .none kV18 dc18 pm18 an18 cd18 ct18), sl18⟩) (c18 : PySem.W.codeIn K cd18 "_law_part" = true) (k18 : PySem.W.keepIn K (.ref f18) = true)
    (a19 : PySem.W.nsIn K mainGlobals "_law_add" = some (some (.ref f19))) (l19 : K.lookup f19 = some ⟨oc19, od19, .func (PySem.W.fnOf "_law_add" "_law_add" (defArgs s19) (defBody s19) (defScope s19) .none kV19 dc19 pm19 an19 cd19 ct19), sl19⟩) (c19 : PySem.W.codeIn K cd19 "_law_add" = true) (k19 : PySem.W.keepIn K (.ref f19) = true)
    (a20 : PySem.W.nsIn K mainGlobals "_law_multiply" = some (some (.ref f20))) (l20 : K.lookup f20 = some ⟨oc20, od20, .func (PySem.W.fnOf "_law_multiply" "_law_multiply" (defArgs s20) (defBody s20) (defScope s20) .none kV20 dc20 pm20 an20 cd20 ct20), sl20⟩) (c20 : PySem.W.codeIn K cd20 "_law_multiply" = true) (k20 : PySem.W.keepIn K (.ref f20) = true)
    (a29 : PySem.W.nsIn K mainGlobals "_law_small" = some (some (.ref f29))) (l29 : K.lookup f29 = some ⟨oc29, od29, .func (PySem.W.fnOf "_law_small" "_law_small" (defArgs s29) (defBody s29) (defScope s29) .none kV29 dc29 pm29 an29 cd29 ct29), sl29⟩) (c29 : PySem.W.codeIn K cd29 "_law_small" = true) (k29 : PySem.W.keepIn K (.ref f29) = true)
    (a30 : PySem.W.nsIn K mainGlobals "_law_matrix" = some (some (.ref f30))) (l30 : K.lookup f30 = some ⟨oc30, od30, .func (PySem.W.fnOf "_law_matrix" "_law_matrix" (defArgs s30) (defBody s30) (defScope s30) .none kV30 dc30 pm30 an30 cd30 ct30), sl30⟩) (c30 : PySem.W.codeIn K cd30 "_law_matrix" = true) (k30 : PySem.W.keepIn K (.ref f30) = true)
    (a31 : PySem.W.nsIn K mainGlobals "_law_dot" = some (some (.ref f31))) (l31 : K.lookup f31 = some ⟨oc31, od31, .func (PySem.W.fnOf "_law_dot" "_law_dot" (defArgs s31) (defBody s31) (defScope s31) .none kV31 dc31 pm31 an31 cd31 ct31), sl31⟩) (c31 : PySem.W.codeIn K cd31 "_law_dot" = true) (k31 : PySem.W.keepIn K (.ref f31) = true)
    (a32 : PySem.W.nsIn K mainGlobals "_law_column" = some (some (.ref f32))) (l32 : K.lookup f32 = some ⟨oc32, od32, .func (PySem.W.fnOf "_law_column" "_law_column" (defArgs s32) (defBody s32) (defScope s32) .none kV32 dc32 pm32 an32 cd32 ct32), sl32⟩) (c32 : PySem.W.codeIn K cd32 "_law_column" = true) (k32 : PySem.W.keepIn K (.ref f32) = true)
    (a33 : PySem.W.nsIn K mainGlobals "_law_product" = some (some (.ref f33))) (l33 : K.lookup f33 = some ⟨oc33, od33, .func (PySem.W.fnOf "_law_product" "_law_product" (defArgs s33) (defBody s33) (defScope s33) .none kV33 dc33 pm33 an33 cd33 ct33), sl33⟩) (c33 : PySem.W.codeIn K cd33 "_law_product" = true) (k33 : PySem.W.keepIn K (.ref f33) = true)
    (a35 : PySem.W.nsIn K mainGlobals "_law_low" = some (some (.ref f35))) (l35 : K.lookup f35 = some ⟨oc35, od35, .func (PySem.W.fnOf "_law_low" "_law_low" (defArgs s35) (defBody s35) (defScope s35) .none kV35 dc35 pm35 an35 cd35 ct35), sl35⟩) (c35 : PySem.W.codeIn K cd35 "_law_low" = true) (k35 : PySem.W.keepIn K (.ref f35) = true)
    (a37 : PySem.W.nsIn K mainGlobals "_law_orders" = some (some (.ref f37))) (l37 : K.lookup f37 = some ⟨oc37, od37, .func (PySem.W.fnOf "_law_orders" "_law_orders" (defArgs s37) (defBody s37) (defScope s37) .none kV37 dc37 pm37 an37 cd37 ct37), sl37⟩) (c37 : PySem.W.codeIn K cd37 "_law_orders" = true) (k37 : PySem.W.keepIn K (.ref f37) = true)
    (a38 : PySem.W.nsIn K mainGlobals "_law_sign" = some (some (.ref f38))) (l38 : K.lookup f38 = some ⟨oc38, od38, .func (PySem.W.fnOf "_law_sign" "_law_sign" (defArgs s38) (defBody s38) (defScope s38) .none kV38 dc38 pm38 an38 cd38 ct38), sl38⟩) (c38 : PySem.W.codeIn K cd38 "_law_sign" = true) (k38 : PySem.W.keepIn K (.ref f38) = true)
    (a39 : PySem.W.nsIn K mainGlobals "_law_determinant" = some (some (.ref f39))) (l39 : K.lookup f39 = some ⟨oc39, od39, .func (PySem.W.fnOf "_law_determinant" "_law_determinant" (defArgs s39) (defBody s39) (defScope s39) .none kV39 dc39 pm39 an39 cd39 ct39), sl39⟩) (c39 : PySem.W.codeIn K cd39 "_law_determinant" = true) (k39 : PySem.W.keepIn K (.ref f39) = true)
    (a40 : PySem.W.nsIn K mainGlobals "_law_root" = some (some (.ref f40))) (l40 : K.lookup f40 = some ⟨oc40, od40, .func (PySem.W.fnOf "_law_root" "_law_root" (defArgs s40) (defBody s40) (defScope s40) .none kV40 dc40 pm40 an40 cd40 ct40), sl40⟩) (c40 : PySem.W.codeIn K cd40 "_law_root" = true) (k40 : PySem.W.keepIn K (.ref f40) = true)
    (a41 : PySem.W.nsIn K mainGlobals "_law_bound" = some (some (.ref f41))) (l41 : K.lookup f41 = some ⟨oc41, od41, .func (PySem.W.fnOf "_law_bound" "_law_bound" (defArgs s41) (defBody s41) (defScope s41) .none kV41 dc41 pm41 an41 cd41 ct41), sl41⟩) (c41 : PySem.W.codeIn K cd41 "_law_bound" = true) (k41 : PySem.W.keepIn K (.ref f41) = true)
    (a42 : PySem.W.nsIn K mainGlobals "_law_is_prime" = some (some (.ref f42))) (l42 : K.lookup f42 = some ⟨oc42, od42, .func (PySem.W.fnOf "_law_is_prime" "_law_is_prime" (defArgs s42) (defBody s42) (defScope s42) .none kV42 dc42 pm42 an42 cd42 ct42), sl42⟩) (c42 : PySem.W.codeIn K cd42 "_law_is_prime" = true) (k42 : PySem.W.keepIn K (.ref f42) = true)
    (a43 : PySem.W.nsIn K mainGlobals "_law_primes" = some (some (.ref f43))) (l43 : K.lookup f43 = some ⟨oc43, od43, .func (PySem.W.fnOf "_law_primes" "_law_primes" (defArgs s43) (defBody s43) (defScope s43) .none kV43 dc43 pm43 an43 cd43 ct43), sl43⟩) (c43 : PySem.W.codeIn K cd43 "_law_primes" = true) (k43 : PySem.W.keepIn K (.ref f43) = true)
    (a44 : PySem.W.nsIn K mainGlobals "law" = some (some (.ref f44))) (l44 : K.lookup f44 = some ⟨oc44, od44, .func (PySem.W.fnOf "law" "law" (defArgs s44) (defBody s44) (defScope s44) .none kV44 dc44 pm44 an44 cd44 ct44), sl44⟩) (c44 : PySem.W.codeIn K cd44 "law" = true) (k44 : PySem.W.keepIn K (.ref f44) = true)
    (z_abs : PySem.W.nsIn K mainGlobals "abs" = some none)
    (z_int : PySem.W.nsIn K mainGlobals "int" = some none)
    (z_isqrt : PySem.W.nsIn K mainGlobals "isqrt" = some (some (.builtin "math.isqrt")))
    (z_len : PySem.W.nsIn K mainGlobals "len" = some none)
    (z_max : PySem.W.nsIn K mainGlobals "max" = some none)
    (z_min : PySem.W.nsIn K mainGlobals "min" = some none)
    (z_range : PySem.W.nsIn K mainGlobals "range" = some none)
    (z_sum : PySem.W.nsIn K mainGlobals "sum" = some none)
    (z_tuple : PySem.W.nsIn K mainGlobals "tuple" = some none)
    (z_zip : PySem.W.nsIn K mainGlobals "zip" = some none)
    {tk_FIRST : Tok} (z_FIRST : PySem.W.nsIn K mainGlobals "FIRST" = some (some (.int 32768 tk_FIRST))) :
    ∃ fd : FuncData, (∀ (s : Shared) (v : Value), BindsTo s fd ⟨[v], []⟩ [("script", v)]) ∧ ∀ base : Heap, K.In base → base.Ns mainGlobals mg → FnOk l.prog w K mg base CX0 8 fa fd ["script"] (spLaw K) := by
  have e := hfa.symm.trans (PySem.W.mg_of X G a44)
  cases e
  have T : Txt K mg (fun n => match n with | 0 => f0 | 1 => f1 | 2 => f2 | 3 => f3 | 4 => f4 | 5 => f5 | 6 => f6 | 7 => f7 | 8 => f8 | 9 => f9 | 10 => f10 | 11 => f11 | 12 => f12 | 13 => f13 | 14 => f14 | 15 => f15 | 16 => f16 | 17 => f17 | 18 => f18 | 19 => f19 | 20 => f20 | 29 => f29 | 30 => f30 | 31 => f31 | 32 => f32 | 33 => f33 | 35 => f35 | 37 => f37 | 38 => f38 | 39 => f39 | 40 => f40 | 41 => f41 | 42 => f42 | 43 => f43 | _ => fa) (fun n => match n with | 0 => PySem.W.fnOf "is_prime" "is_prime" (defArgs s0) (defBody s0) (defScope s0) .none kV0 dc0 pm0 an0 cd0 ct0 | 1 => PySem.W.fnOf "next_prime" "next_prime" (defArgs s1) (defBody s1) (defScope s1) .none kV1 dc1 pm1 an1 cd1 ct1 | 2 => PySem.W.fnOf "root" "root" (defArgs s2) (defBody s2) (defScope s2) .none kV2 dc2 pm2 an2 cd2 ct2 | 3 => PySem.W.fnOf "need_square" "need_square" (defArgs s3) (defBody s3) (defScope s3) .none kV3 dc3 pm3 an3 cd3 ct3 | 4 => PySem.W.fnOf "product_of_rows" "product_of_rows" (defArgs s4) (defBody s4) (defScope s4) .none kV4 dc4 pm4 an4 cd4 ct4 | 5 => PySem.W.fnOf "product_of_roots" "product_of_roots" (defArgs s5) (defBody s5) (defScope s5) .none kV5 dc5 pm5 an5 cd5 ct5 | 6 => PySem.W.fnOf "determinant_bound" "determinant_bound" (defArgs s6) (defBody s6) (defScope s6) .none kV6 dc6 pm6 an6 cd6 ct6 | 7 => PySem.W.fnOf "coefficient_bound" "coefficient_bound" (defArgs s7) (defBody s7) (defScope s7) .none kV7 dc7 pm7 an7 cd7 ct7 | 8 => PySem.W.fnOf "primes_for" "primes_for" (defArgs s8) (defBody s8) (defScope s8) .none kV8 dc8 pm8 an8 cd8 ct8 | 9 => PySem.W.fnOf "_law_start" "_law_start" (defArgs s9) (defBody s9) (defScope s9) .none kV9 dc9 pm9 an9 cd9 ct9 | 10 => PySem.W.fnOf "_law_fill" "_law_fill" (defArgs s10) (defBody s10) (defScope s10) .none kV10 dc10 pm10 an10 cd10 ct10 | 11 => PySem.W.fnOf "_law_take" "_law_take" (defArgs s11) (defBody s11) (defScope s11) .none kV11 dc11 pm11 an11 cd11 ct11 | 12 => PySem.W.fnOf "_law_raised" "_law_raised" (defArgs s12) (defBody s12) (defScope s12) .none kV12 dc12 pm12 an12 cd12 ct12 | 13 => PySem.W.fnOf "_law_common" "_law_common" (defArgs s13) (defBody s13) (defScope s13) .none kV13 dc13 pm13 an13 cd13 ct13 | 14 => PySem.W.fnOf "_law_fraction" "_law_fraction" (defArgs s14) (defBody s14) (defScope s14) .none kV14 dc14 pm14 an14 cd14 ct14 | 15 => PySem.W.fnOf "_law_zero" "_law_zero" (defArgs s15) (defBody s15) (defScope s15) .none kV15 dc15 pm15 an15 cd15 ct15 | 16 => PySem.W.fnOf "_law_strip" "_law_strip" (defArgs s16) (defBody s16) (defScope s16) .none kV16 dc16 pm16 an16 cd16 ct16 | 17 => PySem.W.fnOf "_law_number" "_law_number" (defArgs s17) (defBody s17) (defScope s17) .none kV17 dc17 pm17 an17 cd17 ct17 | 18 => PySem.W.fnOf "_law_part" "_law_part" (defArgs s18) (defBody s18) (defScope s18) .none kV18 dc18 pm18 an18 cd18 ct18 | 19 => PySem.W.fnOf "_law_add" "_law_add" (defArgs s19) (defBody s19) (defScope s19) .none kV19 dc19 pm19 an19 cd19 ct19 | 20 => PySem.W.fnOf "_law_multiply" "_law_multiply" (defArgs s20) (defBody s20) (defScope s20) .none kV20 dc20 pm20 an20 cd20 ct20 | 29 => PySem.W.fnOf "_law_small" "_law_small" (defArgs s29) (defBody s29) (defScope s29) .none kV29 dc29 pm29 an29 cd29 ct29 | 30 => PySem.W.fnOf "_law_matrix" "_law_matrix" (defArgs s30) (defBody s30) (defScope s30) .none kV30 dc30 pm30 an30 cd30 ct30 | 31 => PySem.W.fnOf "_law_dot" "_law_dot" (defArgs s31) (defBody s31) (defScope s31) .none kV31 dc31 pm31 an31 cd31 ct31 | 32 => PySem.W.fnOf "_law_column" "_law_column" (defArgs s32) (defBody s32) (defScope s32) .none kV32 dc32 pm32 an32 cd32 ct32 | 33 => PySem.W.fnOf "_law_product" "_law_product" (defArgs s33) (defBody s33) (defScope s33) .none kV33 dc33 pm33 an33 cd33 ct33 | 35 => PySem.W.fnOf "_law_low" "_law_low" (defArgs s35) (defBody s35) (defScope s35) .none kV35 dc35 pm35 an35 cd35 ct35 | 37 => PySem.W.fnOf "_law_orders" "_law_orders" (defArgs s37) (defBody s37) (defScope s37) .none kV37 dc37 pm37 an37 cd37 ct37 | 38 => PySem.W.fnOf "_law_sign" "_law_sign" (defArgs s38) (defBody s38) (defScope s38) .none kV38 dc38 pm38 an38 cd38 ct38 | 39 => PySem.W.fnOf "_law_determinant" "_law_determinant" (defArgs s39) (defBody s39) (defScope s39) .none kV39 dc39 pm39 an39 cd39 ct39 | 40 => PySem.W.fnOf "_law_root" "_law_root" (defArgs s40) (defBody s40) (defScope s40) .none kV40 dc40 pm40 an40 cd40 ct40 | 41 => PySem.W.fnOf "_law_bound" "_law_bound" (defArgs s41) (defBody s41) (defScope s41) .none kV41 dc41 pm41 an41 cd41 ct41 | 42 => PySem.W.fnOf "_law_is_prime" "_law_is_prime" (defArgs s42) (defBody s42) (defScope s42) .none kV42 dc42 pm42 an42 cd42 ct42 | 43 => PySem.W.fnOf "_law_primes" "_law_primes" (defArgs s43) (defBody s43) (defScope s43) .none kV43 dc43 pm43 an43 cd43 ct43 | 44 => PySem.W.fnOf "law" "law" (defArgs s44) (defBody s44) (defScope s44) .none kV44 dc44 pm44 an44 cd44 ct44 | _ => PySem.W.fnOf "law" "law" (defArgs s44) (defBody s44) (defScope s44) .none kV44 dc44 pm44 an44 cd44 ct44) := {
    F0 := fun_mk (st := s0) l0 c0 k0
    g0 := PySem.W.mg_of X G a0
    b0 := (fun_mk (st := s0) l0 c0 k0).binds (ps := ["n"]) fun _ _ _ _ _ _ us hl => match us, hl with | [_], _ => rfl
    F1 := fun_mk (st := s1) l1 c1 k1
    g1 := PySem.W.mg_of X G a1
    b1 := (fun_mk (st := s1) l1 c1 k1).binds (ps := ["n"]) fun _ _ _ _ _ _ us hl => match us, hl with | [_], _ => rfl
    F2 := fun_mk (st := s2) l2 c2 k2
    g2 := PySem.W.mg_of X G a2
    b2 := (fun_mk (st := s2) l2 c2 k2).binds (ps := ["n"]) fun _ _ _ _ _ _ us hl => match us, hl with | [_], _ => rfl
    F3 := fun_mk (st := s3) l3 c3 k3
    g3 := PySem.W.mg_of X G a3
    b3 := (fun_mk (st := s3) l3 c3 k3).binds (ps := ["a"]) fun _ _ _ _ _ _ us hl => match us, hl with | [_], _ => rfl
    F4 := fun_mk (st := s4) l4 c4 k4
    g4 := PySem.W.mg_of X G a4
    b4 := (fun_mk (st := s4) l4 c4 k4).binds (ps := ["u", "v"]) fun _ _ _ _ _ _ us hl => match us, hl with | [_, _], _ => rfl
    F5 := fun_mk (st := s5) l5 c5 k5
    g5 := PySem.W.mg_of X G a5
    b5 := (fun_mk (st := s5) l5 c5 k5).binds (ps := ["rows", "more"]) fun _ _ _ _ _ _ us hl => match us, hl with | [_, _], _ => rfl
    F6 := fun_mk (st := s6) l6 c6 k6
    g6 := PySem.W.mg_of X G a6
    b6 := (fun_mk (st := s6) l6 c6 k6).binds (ps := ["a"]) fun _ _ _ _ _ _ us hl => match us, hl with | [_], _ => rfl
    F7 := fun_mk (st := s7) l7 c7 k7
    g7 := PySem.W.mg_of X G a7
    b7 := (fun_mk (st := s7) l7 c7 k7).binds (ps := ["a"]) fun _ _ _ _ _ _ us hl => match us, hl with | [_], _ => rfl
    F8 := fun_mk (st := s8) l8 c8 k8
    g8 := PySem.W.mg_of X G a8
    b8 := (fun_mk (st := s8) l8 c8 k8).binds (ps := ["m"]) fun _ _ _ _ _ _ us hl => match us, hl with | [_], _ => rfl
    F9 := fun_mk (st := s9) l9 c9 k9
    g9 := PySem.W.mg_of X G a9
    b9 := (fun_mk (st := s9) l9 c9 k9).binds (ps := ["script"]) fun _ _ _ _ _ _ us hl => match us, hl with | [_], _ => rfl
    F10 := fun_mk (st := s10) l10 c10 k10
    g10 := PySem.W.mg_of X G a10
    b10 := (fun_mk (st := s10) l10 c10 k10).binds (ps := ["c"]) fun _ _ _ _ _ _ us hl => match us, hl with | [_], _ => rfl
    F11 := fun_mk (st := s11) l11 c11 k11
    g11 := PySem.W.mg_of X G a11
    b11 := (fun_mk (st := s11) l11 c11 k11).binds (ps := ["c", "many"]) fun _ _ _ _ _ _ us hl => match us, hl with | [_, _], _ => rfl
    F12 := fun_mk (st := s12) l12 c12 k12
    g12 := PySem.W.mg_of X G a12
    b12 := (fun_mk (st := s12) l12 c12 k12).binds (ps := ["b", "k"]) fun _ _ _ _ _ _ us hl => match us, hl with | [_, _], _ => rfl
    F13 := fun_mk (st := s13) l13 c13 k13
    g13 := PySem.W.mg_of X G a13
    b13 := (fun_mk (st := s13) l13 c13 k13).binds (ps := ["a", "b"]) fun _ _ _ _ _ _ us hl => match us, hl with | [_, _], _ => rfl
    F14 := fun_mk (st := s14) l14 c14 k14
    g14 := PySem.W.mg_of X G a14
    b14 := (fun_mk (st := s14) l14 c14 k14).binds (ps := ["n", "m"]) fun _ _ _ _ _ _ us hl => match us, hl with | [_, _], _ => rfl
    F15 := fun_mk (st := s15) l15 c15 k15
    g15 := PySem.W.mg_of X G a15
    b15 := (fun_mk (st := s15) l15 c15 k15).binds (ps := ["d"]) fun _ _ _ _ _ _ us hl => match us, hl with | [_], _ => rfl
    F16 := fun_mk (st := s16) l16 c16 k16
    g16 := PySem.W.mg_of X G a16
    b16 := (fun_mk (st := s16) l16 c16 k16).binds (ps := ["f", "parts"]) fun _ _ _ _ _ _ us hl => match us, hl with | [_, _], _ => rfl
    F17 := fun_mk (st := s17) l17 c17 k17
    g17 := PySem.W.mg_of X G a17
    b17 := (fun_mk (st := s17) l17 c17 k17).binds (ps := ["d", "n"]) fun _ _ _ _ _ _ us hl => match us, hl with | [_, _], _ => rfl
    F18 := fun_mk (st := s18) l18 c18 k18
    g18 := PySem.W.mg_of X G a18
    b18 := (fun_mk (st := s18) l18 c18 k18).binds (ps := ["d", "x", "k"]) fun _ _ _ _ _ _ us hl => match us, hl with | [_, _, _], _ => rfl
    F19 := fun_mk (st := s19) l19 c19 k19
    g19 := PySem.W.mg_of X G a19
    b19 := (fun_mk (st := s19) l19 c19 k19).binds (ps := ["d", "x", "y"]) fun _ _ _ _ _ _ us hl => match us, hl with | [_, _, _], _ => rfl
    F20 := fun_mk (st := s20) l20 c20 k20
    g20 := PySem.W.mg_of X G a20
    b20 := (fun_mk (st := s20) l20 c20 k20).binds (ps := ["d", "x", "y"]) fun _ _ _ _ _ _ us hl => match us, hl with | [_, _, _], _ => rfl
    F29 := fun_mk (st := s29) l29 c29 k29
    g29 := PySem.W.mg_of X G a29
    b29 := (fun_mk (st := s29) l29 c29 k29).binds (ps := ["c", "d"]) fun _ _ _ _ _ _ us hl => match us, hl with | [_, _], _ => rfl
    F30 := fun_mk (st := s30) l30 c30 k30
    g30 := PySem.W.mg_of X G a30
    b30 := (fun_mk (st := s30) l30 c30 k30).binds (ps := ["c", "d", "m", "n"]) fun _ _ _ _ _ _ us hl => match us, hl with | [_, _, _, _], _ => rfl
    F31 := fun_mk (st := s31) l31 c31 k31
    g31 := PySem.W.mg_of X G a31
    b31 := (fun_mk (st := s31) l31 c31 k31).binds (ps := ["d", "u", "v"]) fun _ _ _ _ _ _ us hl => match us, hl with | [_, _, _], _ => rfl
    F32 := fun_mk (st := s32) l32 c32 k32
    g32 := PySem.W.mg_of X G a32
    b32 := (fun_mk (st := s32) l32 c32 k32).binds (ps := ["a", "j"]) fun _ _ _ _ _ _ us hl => match us, hl with | [_, _], _ => rfl
    F33 := fun_mk (st := s33) l33 c33 k33
    g33 := PySem.W.mg_of X G a33
    b33 := (fun_mk (st := s33) l33 c33 k33).binds (ps := ["d", "a", "b"]) fun _ _ _ _ _ _ us hl => match us, hl with | [_, _, _], _ => rfl
    F35 := fun_mk (st := s35) l35 c35 k35
    g35 := PySem.W.mg_of X G a35
    b35 := (fun_mk (st := s35) l35 c35 k35).binds (ps := ["c", "m", "n"]) fun _ _ _ _ _ _ us hl => match us, hl with | [_, _, _], _ => rfl
    F37 := fun_mk (st := s37) l37 c37 k37
    g37 := PySem.W.mg_of X G a37
    b37 := (fun_mk (st := s37) l37 c37 k37).binds (ps := ["n"]) fun _ _ _ _ _ _ us hl => match us, hl with | [_], _ => rfl
    F38 := fun_mk (st := s38) l38 c38 k38
    g38 := PySem.W.mg_of X G a38
    b38 := (fun_mk (st := s38) l38 c38 k38).binds (ps := ["order"]) fun _ _ _ _ _ _ us hl => match us, hl with | [_], _ => rfl
    F39 := fun_mk (st := s39) l39 c39 k39
    g39 := PySem.W.mg_of X G a39
    b39 := (fun_mk (st := s39) l39 c39 k39).binds (ps := ["d", "a"]) fun _ _ _ _ _ _ us hl => match us, hl with | [_, _], _ => rfl
    F40 := fun_mk (st := s40) l40 c40 k40
    g40 := PySem.W.mg_of X G a40
    b40 := (fun_mk (st := s40) l40 c40 k40).binds (ps := ["n"]) fun _ _ _ _ _ _ us hl => match us, hl with | [_], _ => rfl
    F41 := fun_mk (st := s41) l41 c41 k41
    g41 := PySem.W.mg_of X G a41
    b41 := (fun_mk (st := s41) l41 c41 k41).binds (ps := ["rows", "more"]) fun _ _ _ _ _ _ us hl => match us, hl with | [_, _], _ => rfl
    F42 := fun_mk (st := s42) l42 c42 k42
    g42 := PySem.W.mg_of X G a42
    b42 := (fun_mk (st := s42) l42 c42 k42).binds (ps := ["n"]) fun _ _ _ _ _ _ us hl => match us, hl with | [_], _ => rfl
    F43 := fun_mk (st := s43) l43 c43 k43
    g43 := PySem.W.mg_of X G a43
    b43 := (fun_mk (st := s43) l43 c43 k43).binds (ps := ["m"]) fun _ _ _ _ _ _ us hl => match us, hl with | [_], _ => rfl
    F44 := fun_mk (st := s44) l44 c44 k44
    g44 := PySem.W.mg_of X G a44
    b44 := (fun_mk (st := s44) l44 c44 k44).binds (ps := ["script"]) fun _ _ _ _ _ _ us hl => match us, hl with | [_], _ => rfl
    m_abs := PySem.W.mg_none_of X G z_abs
    m_int := PySem.W.mg_none_of X G z_int
    m_isqrt := PySem.W.mg_of X G z_isqrt
    m_len := PySem.W.mg_none_of X G z_len
    m_max := PySem.W.mg_none_of X G z_max
    m_min := PySem.W.mg_none_of X G z_min
    m_range := PySem.W.mg_none_of X G z_range
    m_sum := PySem.W.mg_none_of X G z_sum
    m_tuple := PySem.W.mg_none_of X G z_tuple
    m_zip := PySem.W.mg_none_of X G z_zip
    c_FIRST := ⟨_, PySem.W.mg_of X G z_FIRST⟩ }
  exact ⟨PySem.W.fnOf "law" "law" (defArgs s44) (defBody s44) (defScope s44) .none kV44 dc44 pm44 an44 cd44 ct44, fun s v => .of_eq rfl, fun base _ _ => ok_law T⟩

end My
open PySem PySem.W PyProof.Rows
set_option maxHeartbeats 0 in
theorem PySem.Challenge.cw_echelon_k50_bounds_and_primes_holds : PySem.Challenge.rw_echelon_k50_bounds_and_primes.Holds := by
  w_on; o_law; k_head; (case hw => w_witness2)
  k_fill
  refine L2.walk_of (l := PySem.Challenge.rw_echelon_k50_bounds_and_primes) (n := 63) (k := 8) (x := "script") (CX := fun _ => L2.CX0) (sp := fun w => My.spLaw _) rfl (by decide) rfl ⟨rfl, by decide, by decide⟩ (fun w h Y => PySem.W.kIn_of Y) ?F (fun _ _ a ns hl _ hS => ⟨a, ns, rfl, hS, hl, fun _ => rfl⟩) (fun _ _ _ _ _ h => h)
  case F =>
    intro w mg fa h KX G hmg
    refine' My.all_mk KX G hmg ?a0 ?l0 ?c0 ?k0 ?a1 ?l1 ?c1 ?k1 ?a2 ?l2 ?c2 ?k2 ?a3 ?l3 ?c3 ?k3 ?a4 ?l4 ?c4 ?k4 ?a5 ?l5 ?c5 ?k5 ?a6 ?l6 ?c6 ?k6 ?a7 ?l7 ?c7 ?k7 ?a8 ?l8 ?c8 ?k8 ?a9 ?l9 ?c9 ?k9 ?a10 ?l10 ?c10 ?k10 ?a11 ?l11 ?c11 ?k11 ?a12 ?l12 ?c12 ?k12 ?a13 ?l13 ?c13 ?k13 ?a14 ?l14 ?c14 ?k14 ?a15 ?l15 ?c15 ?k15 ?a16 ?l16 ?c16 ?k16 ?a17 ?l17 ?c17 ?k17 ?a18 ?l18 ?c18 ?k18 ?a19 ?l19 ?c19 ?k19 ?a20 ?l20 ?c20 ?k20 ?a29 ?l29 ?c29 ?k29 ?a30 ?l30 ?c30 ?k30 ?a31 ?l31 ?c31 ?k31 ?a32 ?l32 ?c32 ?k32 ?a33 ?l33 ?c33 ?k33 ?a35 ?l35 ?c35 ?k35 ?a37 ?l37 ?c37 ?k37 ?a38 ?l38 ?c38 ?k38 ?a39 ?l39 ?c39 ?k39 ?a40 ?l40 ?c40 ?k40 ?a41 ?l41 ?c41 ?k41 ?a42 ?l42 ?c42 ?k42 ?a43 ?l43 ?c43 ?k43 ?a44 ?l44 ?c44 ?k44 ?z_abs ?z_int ?z_isqrt ?z_len ?z_max ?z_min ?z_range ?z_sum ?z_tuple ?z_zip ?z_FIRST
    (case a0 => k_is); (case l0 => k_is); (case c0 => k_is); (case k0 => k_is); (case a1 => k_is); (case l1 => k_is); (case c1 => k_is); (case k1 => k_is); (case a2 => k_is); (case l2 => k_is); (case c2 => k_is); (case k2 => k_is); (case a3 => k_is); (case l3 => k_is); (case c3 => k_is); (case k3 => k_is); (case a4 => k_is); (case l4 => k_is); (case c4 => k_is); (case k4 => k_is); (case a5 => k_is); (case l5 => k_is); (case c5 => k_is); (case k5 => k_is); (case a6 => k_is); (case l6 => k_is); (case c6 => k_is); (case k6 => k_is); (case a7 => k_is); (case l7 => k_is); (case c7 => k_is); (case k7 => k_is); (case a8 => k_is); (case l8 => k_is); (case c8 => k_is); (case k8 => k_is); (case a9 => k_is); (case l9 => k_is); (case c9 => k_is); (case k9 => k_is); (case a10 => k_is); (case l10 => k_is); (case c10 => k_is); (case k10 => k_is); (case a11 => k_is); (case l11 => k_is); (case c11 => k_is); (case k11 => k_is); (case a12 => k_is); (case l12 => k_is); (case c12 => k_is); (case k12 => k_is); (case a13 => k_is); (case l13 => k_is); (case c13 => k_is); (case k13 => k_is); (case a14 => k_is); (case l14 => k_is); (case c14 => k_is); (case k14 => k_is); (case a15 => k_is); (case l15 => k_is); (case c15 => k_is); (case k15 => k_is); (case a16 => k_is); (case l16 => k_is); (case c16 => k_is); (case k16 => k_is); (case a17 => k_is); (case l17 => k_is); (case c17 => k_is); (case k17 => k_is); (case a18 => k_is); (case l18 => k_is); (case c18 => k_is); (case k18 => k_is); (case a19 => k_is); (case l19 => k_is); (case c19 => k_is); (case k19 => k_is); (case a20 => k_is); (case l20 => k_is); (case c20 => k_is); (case k20 => k_is); (case a29 => k_is); (case l29 => k_is); (case c29 => k_is); (case k29 => k_is); (case a30 => k_is); (case l30 => k_is); (case c30 => k_is); (case k30 => k_is); (case a31 => k_is); (case l31 => k_is); (case c31 => k_is); (case k31 => k_is); (case a32 => k_is); (case l32 => k_is); (case c32 => k_is); (case k32 => k_is); (case a33 => k_is); (case l33 => k_is); (case c33 => k_is); (case k33 => k_is); (case a35 => k_is); (case l35 => k_is); (case c35 => k_is); (case k35 => k_is); (case a37 => k_is); (case l37 => k_is); (case c37 => k_is); (case k37 => k_is); (case a38 => k_is); (case l38 => k_is); (case c38 => k_is); (case k38 => k_is); (case a39 => k_is); (case l39 => k_is); (case c39 => k_is); (case k39 => k_is); (case a40 => k_is); (case l40 => k_is); (case c40 => k_is); (case k40 => k_is); (case a41 => k_is); (case l41 => k_is); (case c41 => k_is); (case k41 => k_is); (case a42 => k_is); (case l42 => k_is); (case c42 => k_is); (case k42 => k_is); (case a43 => k_is); (case l43 => k_is); (case c43 => k_is); (case k43 => k_is); (case a44 => k_is); (case l44 => k_is); (case c44 => k_is); (case k44 => k_is); (case z_abs => k_is); (case z_int => k_is); (case z_isqrt => k_is); (case z_len => k_is); (case z_max => k_is); (case z_min => k_is); (case z_range => k_is); (case z_sum => k_is); (case z_tuple => k_is); (case z_zip => k_is); (case z_FIRST => k_is)
