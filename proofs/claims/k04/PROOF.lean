import PyProof.Rows.All
import Wide.All
import OpenK.AllK
import Wide.FinOn
import HandS.ForMost
import HandS.ForExc
import HandS.Wide
import HandS.Gcd
import HandS.IsInst
import HandS.TupAny
import HandS.Flow
import KE.DataEq
import KE.KMathG
import Flt.RightSqrt
import HandS.RevRange
import HandS.WideBits
import KE.GoesEnumKw
import PySem.Challenge.RW_echelon_k04_primes
set_option Elab.async false
set_option linter.all false
set_option maxRecDepth 100000
set_option maxHeartbeats 4000000
namespace DL
open PySem PySem.Spec PyProof.Rows L2

abbrev D := PyData
abbrev Fg := PySem.W.Frag

/-! ## heaps and data -/
open Classical in
noncomputable def hide (hd : Addr → Prop) (H : Hp) : Hp := fun b => if hd b then none else H b
theorem hide_some {hd : Addr → Prop} {H : Hp} {b : Addr} {o : HO} : hide hd H b = some o ↔ ¬ hd b ∧ H b = some o := by
  unfold hide
  by_cases h : hd b
  · rw [if_pos h]; exact ⟨(fun z => nomatch z), (fun z => absurd h z.1)⟩
  · rw [if_neg h]; exact ⟨fun z => ⟨h, z⟩, fun z => z.2⟩
/-- what is visible stays visible -/
theorem hide_same {hd hd' : Addr → Prop} {H H' : Hp} (h : ∀ b o, ¬ hd b → H b = some o → ¬ hd' b ∧ H' b = some o) : Same (hide hd H) (hide hd' H') := fun b o e =>
  hide_some.mpr (h b o (hide_some.mp e).1 (hide_some.mp e).2)
theorem hide_le {hd : Addr → Prop} {H : Hp} : Same (hide hd H) H := fun _ _ e => (hide_some.mp e).2

mutual
/-- v stands for the data d; the token .dict [] is the law's state at lc -/
inductive Dv (K : Fg) (lc : Option Addr) (H : Hp) : V → D → Prop
  | non : Dv K lc H .non .none
  | bl (b : Bool) : Dv K lc H (.bl b) (.bool b)
  | int (i : Int) : Dv K lc H (.int i) (.int i)
  | str (x : Str) : Dv K lc H (.str x) (.str x)
  | lst {a : Addr} {xs : List V} {ds : List D} : H a = some (.lst xs) → DvAll K lc H xs ds → Dv K lc H (.ref a) (.list ds)
  | tup {a : Addr} {xs : List V} {ds : List D} : SqT K H a xs → DvAll K lc H xs ds → Dv K lc H (.ref a) (.tuple ds)
  | tok {a : Addr} : lc = some a → Dv K lc H (.ref a) (.dict [])
inductive DvAll (K : Fg) (lc : Option Addr) (H : Hp) : List V → List D → Prop
  | nil : DvAll K lc H [] []
  | cons {v : V} {vs : List V} {d : D} {ds : List D} : Dv K lc H v d → DvAll K lc H vs ds → DvAll K lc H (v :: vs) (d :: ds)
end
theorem same_t {K : Fg} {H H' : Hp} {a : Addr} {xs : List V} (e : Same H H') (h : SqT K H a xs) : SqT K H' a xs := by
  rcases h with (h | ⟨o, h⟩) | h
  · exact .inl (.inl (e _ _ h))
  · exact .inl (.inr ⟨o, e _ _ h⟩)
  · exact .inr h
section
variable {K : Fg} {lc : Option Addr} {H H' : Hp}
mutual
theorem Dv.mono (e : Same H H') : ∀ {d : D} {v : V}, Dv K lc H v d → Dv K lc H' v d
  | .none, _, h => by cases h; exact .non
  | .bool b, _, h => by cases h; exact .bl b
  | .int b, _, h => by cases h; exact .int b
  | .str b, _, h => by cases h; exact .str b
  | .list ds, _, h => by
    cases h with
    | lst hs ha => exact .lst (e _ _ hs) (DvAll.mono e ha)
  | .tuple ds, _, h => by
    cases h with
    | tup hs ha => exact .tup (same_t e hs) (DvAll.mono e ha)
  | .dict _, _, h => by
    cases h with
    | tok q => exact .tok q
theorem DvAll.mono (e : Same H H') : ∀ {ds : List D} {vs : List V}, DvAll K lc H vs ds → DvAll K lc H' vs ds
  | [], _, h => by cases h; exact .nil
  | d :: ds, _, h => by
    cases h with
    | cons h1 h2 => exact .cons (Dv.mono e h1) (DvAll.mono e h2)
end
mutual
theorem Dv.dp : ∀ {d : D} {v : V}, d.plain = true → Dv K lc H v d → Dp K H v d
  | .none, _, _, h => by cases h; exact .non
  | .bool b, _, _, h => by cases h; exact .bl b
  | .int b, _, _, h => by cases h; exact .int b
  | .str b, _, _, h => by cases h; exact .str b
  | .list ds, _, p, h => by
    cases h with
    | lst hs ha => exact .lst (.of hs) (DvAll.dp (by simpa [PyData.plain] using p) ha)
  | .tuple ds, _, p, h => by
    cases h with
    | tup hs ha => exact .tup hs (DvAll.dp (by simpa [PyData.plain] using p) ha)
  | .dict _, _, p, h => by simp [PyData.plain] at p
theorem DvAll.dp : ∀ {ds : List D} {vs : List V}, PyData.plainAll ds = true → DvAll K lc H vs ds → DpAll K H vs ds
  | [], _, _, h => by cases h; exact .nil
  | d :: ds, _, p, h => by
    cases h with
    | cons h1 h2 =>
      have q : d.plain = true ∧ PyData.plainAll ds = true := by simpa [PyData.plainAll] using p
      exact .cons (Dv.dp q.1 h1) (DvAll.dp q.2 h2)
end
theorem DvAll.length : ∀ {ds : List D} {vs : List V}, DvAll K lc H vs ds → vs.length = ds.length
  | [], _, h => by cases h; rfl
  | d :: ds, _, h => by
    cases h with
    | cons h1 h2 => rw [List.length_cons, List.length_cons, DvAll.length h2]
theorem DvAll.app : ∀ {ds es : List D} {vs ws : List V}, DvAll K lc H vs ds → DvAll K lc H ws es → DvAll K lc H (vs ++ ws) (ds ++ es)
  | [], _, _, _, h, k => by cases h; exact k
  | d :: ds, _, _, _, h, k => by
    cases h with
    | cons h1 h2 => exact .cons h1 (DvAll.app h2 k)
theorem DvAll.split : ∀ {ds es : List D} {vs ws : List V}, vs.length = ds.length → DvAll K lc H (vs ++ ws) (ds ++ es) → DvAll K lc H vs ds ∧ DvAll K lc H ws es
  | [], _, [], _, _, h => ⟨.nil, h⟩
  | d :: ds, _, v :: vs, _, hl, h => by
    cases h with
    | cons h1 h2 =>
      obtain ⟨q1, q2⟩ := DvAll.split (by simpa using hl) h2
      exact ⟨.cons h1 q1, q2⟩
theorem DvAll.get : ∀ {ds : List D} {vs : List V} {i : Nat} {d : D}, DvAll K lc H vs ds → ds[i]? = some d → ∃ v, vs[i]? = some v ∧ Dv K lc H v d
  | [], _, _, _, _, e => by simp at e
  | c :: ds, _, 0, d, h, e => by
    cases h with
    | cons h1 h2 =>
      have : c = d := by simpa using e
      subst this
      exact ⟨_, rfl, h1⟩
  | c :: ds, _, i + 1, d, h, e => by
    cases h with
    | cons h1 h2 =>
      rw [List.getElem?_cons_succ] at e ⊢
      exact DvAll.get h2 e
theorem DvAll.getv : ∀ {ds : List D} {vs : List V} {i : Nat} {v : V}, DvAll K lc H vs ds → vs[i]? = some v → ∃ d, ds[i]? = some d ∧ Dv K lc H v d
  | [], _, _, _, h, e => by cases h; simp at e
  | c :: ds, _, 0, d, h, e => by
    cases h with
    | cons h1 h2 =>
      have := Option.some.inj e
      subst this
      exact ⟨_, rfl, h1⟩
  | c :: ds, _, i + 1, d, h, e => by
    cases h with
    | cons h1 h2 =>
      rw [List.getElem?_cons_succ] at e ⊢
      exact DvAll.getv h2 e
theorem DvAll.take (n : Nat) : ∀ {ds : List D} {vs : List V}, DvAll K lc H vs ds → DvAll K lc H (vs.take n) (ds.take n) := by
  induction n with
  | zero => intro ds vs _; exact .nil
  | succ n ih =>
    intro ds vs h
    cases h with
    | nil => exact .nil
    | cons h1 h2 => exact .cons h1 (ih h2)
theorem DvAll.drop (n : Nat) : ∀ {ds : List D} {vs : List V}, DvAll K lc H vs ds → DvAll K lc H (vs.drop n) (ds.drop n) := by
  induction n with
  | zero => intro ds vs h; exact h
  | succ n ih =>
    intro ds vs h
    cases h with
    | nil => exact .nil
    | cons h1 h2 => exact ih h2
theorem DvAll.set {v : V} {d : D} (r : Dv K lc H v d) : ∀ {ds : List D} {vs : List V} (i : Nat), DvAll K lc H vs ds → DvAll K lc H (vs.set i v) (ds.set i d)
  | [], _, _, h => by cases h; exact .nil
  | c :: ds, _, 0, h => by
    cases h with
    | cons h1 h2 => exact .cons r h2
  | c :: ds, _, i + 1, h => by
    cases h with
    | cons h1 h2 => exact .cons h1 (DvAll.set r i h2)
theorem DvAll.dropLast : ∀ {ds : List D} {vs : List V}, DvAll K lc H vs ds → DvAll K lc H vs.dropLast ds.dropLast := by
  intro ds vs h
  rw [List.dropLast_eq_take, List.dropLast_eq_take, h.length]
  exact h.take _
theorem DvAll.isEmpty {ds : List D} {vs : List V} (h : DvAll K lc H vs ds) : vs.isEmpty = ds.isEmpty := by
  cases h <;> rfl
end

/-! ## the law's own state: [cells, place, digits, count] at one address -/
def Cst (K : Fg) (hd : Addr → Prop) (H : Hp) (b : Addr) : Prop := ∃ (p : Addr) (ns : List Int) (pos dig cnt : Int), H b = some (.lst [.ref p, .int pos, .int dig, .int cnt]) ∧ SqL K H p (ns.map V.int) ∧ p ≠ b ∧ 0 ≤ pos ∧ ns.length ≤ 63 ∧ hd p
def Evo (lc : Option Addr) (H H' : Hp) : Prop := ∀ b o, lc ≠ some b → H b = some o → H' b = some o
def Cok (K : Fg) (lc : Option Addr) (hd : Addr → Prop) (H : Hp) : Prop := ∀ b, lc = some b → Cst K hd H b ∧ hd b
theorem Evo.refl {lc : Option Addr} (H : Hp) : Evo lc H H := fun _ _ _ h => h
theorem Evo.trans {lc : Option Addr} {H H1 H2 : Hp} (a : Evo lc H H1) (b : Evo lc H1 H2) : Evo lc H H2 := fun c o n h => b c o n (a c o n h)
theorem Evo.of {lc : Option Addr} {H H' : Hp} (e : Same H H') : Evo lc H H' := fun c o _ h => e c o h
theorem Cst.mono {K : Fg} {hd : Addr → Prop} {H H' : Hp} {b : Addr} (e : Same H H') (h : Cst K hd H b) : Cst K hd H' b := by
  obtain ⟨p, ns, pos, dig, cnt, h1, h2, h3⟩ := h
  exact ⟨p, ns, pos, dig, cnt, e _ _ h1, e.seq h2, h3⟩
theorem Cst.more {K : Fg} {hd hd' : Addr → Prop} {H : Hp} {b : Addr} (e : ∀ p, hd p → hd' p) (h : Cst K hd H b) : Cst K hd' H b := by
  obtain ⟨p, ns, pos, dig, cnt, h1, h2, h3, h4, h5, h6⟩ := h
  exact ⟨p, ns, pos, dig, cnt, h1, h2, h3, h4, h5, e _ h6⟩
theorem Cok.mono {K : Fg} {lc : Option Addr} {hd : Addr → Prop} {H H' : Hp} (e : Same H H') (h : Cok K lc hd H) : Cok K lc hd H' := fun b q => ⟨(h b q).1.mono e, (h b q).2⟩

/-! ## what a def promises, by data -/
def SpD (K : Fg) (pre : List D → Prop) (post : List D → D → Prop) : Sp := fun vs H Q _ => ∃ (lc : Option Addr) (hc hd : Addr → Prop) (ds : List D),
  DvAll K lc (hide hd H) vs ds ∧ Cok K lc hc H ∧ (∀ b, hc b → hd b) ∧ (∀ b, hd b → H b ≠ none) ∧ pre ds ∧
    ∀ v d H', Evo lc H H' → Cok K lc hc H' → Dv K lc (hide hd H') v d → post ds d → Q v H'

/-! ## the frame -/
inductive Slot where
  | un
  | val (d : D)
  | own (ds : List D)
abbrev Rho := List Slot
def look : Rho → Nat → Slot
  | [], _ => .un
  | s :: _, 0 => s
  | _ :: r, n + 1 => look r n
def put : Rho → Nat → Slot → Rho
  | [], _, _ => []
  | _ :: r, 0, s => s :: r
  | t :: r, n + 1, s => t :: put r n s
theorem put_length : ∀ (ρ : Rho) (i : Nat) (s : Slot), (put ρ i s).length = ρ.length
  | [], _, _ => rfl
  | _ :: r, 0, _ => rfl
  | _ :: r, n + 1, s => by simp [put, put_length r n s]
theorem look_put : ∀ (ρ : Rho) (i : Nat) (s : Slot), look (put ρ i s) i = s ∨ look (put ρ i s) i = .un
  | [], _, _ => .inr rfl
  | _ :: r, 0, s => .inl rfl
  | _ :: r, n + 1, s => look_put r n s
theorem look_put_ne : ∀ (ρ : Rho) (i j : Nat) (s : Slot), j ≠ i → look (put ρ i s) j = look ρ j
  | [], _, _, _, _ => rfl
  | _ :: r, 0, 0, s, h => absurd rfl h
  | _ :: r, 0, j + 1, s, _ => rfl
  | _ :: r, n + 1, 0, s, _ => rfl
  | _ :: r, n + 1, j + 1, s, h => look_put_ne r n j s (by omega)
theorem look_lt : ∀ (ρ : Rho) (i : Nat), look ρ i ≠ .un → i < ρ.length
  | [], _, h => absurd rfl h
  | _ :: r, 0, _ => by simp
  | _ :: r, n + 1, h => by simpa using look_lt r n h
theorem put_lt : ∀ (ρ : Rho) (i : Nat) (s : Slot), s ≠ .un → look (put ρ i s) i = s → i < ρ.length
  | [], _, _, h, e => absurd e.symm h
  | _ :: r, 0, _, _, _ => by simp
  | _ :: r, n + 1, s, h, e => by simpa using put_lt r n s h e

/-- what stays outside a def's names: the law's state, what is hidden, the heap at the start, lists that are being made -/
structure Amb where
  lc : Option Addr
  hc : Addr → Prop
  hd : Addr → Prop
  H0 : Hp
  gh : List (Addr × List D)
def hdO (M : Amb) (ow : Nat → Option Addr) : Addr → Prop := fun b => M.hd b ∨ (∃ i, ow i = some b) ∨ ∃ ds, (b, ds) ∈ M.gh
structure AtW (K : Fg) (M : Amb) (σ : L2.St) (H : Hp) (ρ : Rho) (ow : Nat → Option Addr) : Prop where
  evo : Evo M.lc M.H0 H
  cok : Cok K M.lc M.hc H
  sub : ∀ b, M.hc b → M.hd b
  all : ∀ b, M.hd b → M.H0 b ≠ none
  len : σ.length = ρ.length
  val : ∀ i d, look ρ i = .val d → ∃ v, σ[i]? = some (some v) ∧ Dv K M.lc (hide (hdO M ow) H) v d
  own : ∀ i ds, look ρ i = .own ds → ∃ p xs, ow i = some p ∧ σ[i]? = some (some (.ref p)) ∧ H p = some (.lst xs) ∧ DvAll K M.lc (hide (hdO M ow) H) xs ds
  fre : ∀ i p, ow i = some p → M.H0 p = none ∧ ∃ xs, H p = some (.lst xs)
  inj : ∀ i j p, ow i = some p → ow j = some p → i = j
  gho : ∀ p ds, (p, ds) ∈ M.gh → M.H0 p = none ∧ (∀ i, ow i ≠ some p) ∧ ∃ xs, H p = some (.lst xs) ∧ DvAll K M.lc (hide (hdO M ow) H) xs ds
  gnd : (M.gh.map (·.1)).Nodup
def At (K : Fg) (M : Amb) (σ : L2.St) (H : Hp) (ρ : Rho) (pv : List V) (pd : List D) : Prop :=
  ∃ ow, AtW K M σ H ρ ow ∧ DvAll K M.lc (hide (hdO M ow) H) pv pd
section
variable {K : Fg} {M : Amb} {H H' : Hp} {σ : L2.St} {ρ : Rho} {pv : List V} {pd : List D} {ow : Nat → Option Addr}
theorem AtW.ne (A : AtW K M σ H ρ ow) {p : Addr} (h : M.H0 p = none) : ¬ M.hd p := fun z => A.all p z h
theorem AtW.nel (A : AtW K M σ H ρ ow) {p : Addr} (h : M.H0 p = none) : M.lc ≠ some p := fun z => A.ne h (A.sub p (A.cok p z).2)
theorem AtW.vis (A : AtW K M σ H ρ ow) (e : Evo M.lc H H') : Same (hide (hdO M ow) H) (hide (hdO M ow) H') := hide_same fun b o n h => ⟨n, e b o (fun z => n (.inl (A.sub b (A.cok b z).2))) h⟩
theorem AtW.step (A : AtW K M σ H ρ ow) (e : Evo M.lc H H') (c : Cok K M.lc M.hc H') : AtW K M σ H' ρ ow where
  evo := A.evo.trans e
  cok := c
  sub := A.sub
  all := A.all
  len := A.len
  val := fun i d h => by
    obtain ⟨v, h1, h2⟩ := A.val i d h
    exact ⟨v, h1, h2.mono (A.vis e)⟩
  own := fun i ds h => by
    obtain ⟨p, xs, h1, h2, h3, h4⟩ := A.own i ds h
    exact ⟨p, xs, h1, h2, e p _ (A.nel (A.fre i p h1).1) h3, h4.mono (A.vis e)⟩
  fre := fun i p h => by
    obtain ⟨h1, xs, h2⟩ := A.fre i p h
    exact ⟨h1, xs, e p _ (A.nel h1) h2⟩
  inj := A.inj
  gho := fun p ds h => by
    obtain ⟨h1, h2, xs, h3, h4⟩ := A.gho p ds h
    exact ⟨h1, h2, xs, e p _ (A.nel h1) h3, h4.mono (A.vis e)⟩
  gnd := A.gnd
/-- what is hidden is there -/
theorem AtW.hall (A : AtW K M σ H ρ ow) (b : Addr) (z : hdO M ow b) : H b ≠ none := by
  rcases z with z | ⟨i, z⟩ | ⟨ds, z⟩
  · intro w
    cases q0 : M.H0 b with
    | none => exact A.all b z q0
    | some o =>
      by_cases hl : M.lc = some b
      · obtain ⟨⟨_, _, _, _, _, g, _⟩, _⟩ := A.cok b hl
        rw [w] at g; cases g
      · rw [A.evo b o hl q0] at w; cases w
  · obtain ⟨_, xs, h⟩ := A.fre i b z
    rw [h]
    exact fun z => nomatch z
  · obtain ⟨_, _, xs, h, _⟩ := A.gho b ds z
    rw [h]
    exact fun z => nomatch z
theorem At.step (A : At K M σ H ρ pv pd) (e : Evo M.lc H H') (c : Cok K M.lc M.hc H') : At K M σ H' ρ pv pd := by
  obtain ⟨ow, A, h⟩ := A
  exact ⟨ow, A.step e c, h.mono (A.vis e)⟩
/-- something is made -/
theorem At.same (A : At K M σ H ρ pv pd) (e : Same H H') : At K M σ H' ρ pv pd := by
  obtain ⟨ow, B, h⟩ := A
  exact At.step ⟨ow, B, h⟩ (.of e) (B.cok.mono e)
theorem At.pop {v : V} {d : D} (A : At K M σ H ρ (v :: pv) (d :: pd)) : At K M σ H ρ pv pd := by
  obtain ⟨ow, A, h⟩ := A
  cases h with
  | cons h1 h2 => exact ⟨ow, A, h2⟩
theorem At.popA {vs : List V} {ds : List D} (A : At K M σ H ρ (vs ++ pv) (ds ++ pd)) (hl : vs.length = ds.length) : At K M σ H ρ pv pd := by
  obtain ⟨ow, A, h⟩ := A
  exact ⟨ow, A, (DvAll.split hl h).2⟩
/-- the list of slot i, if it has one, is let go -/
def owOff (ow : Nat → Option Addr) (i : Nat) : Nat → Option Addr := fun j => if j = i then none else ow j
theorem owOff_same (ow : Nat → Option Addr) (i : Nat) : owOff ow i i = none := by simp [owOff]
theorem owOff_ne (ow : Nat → Option Addr) {i j : Nat} (h : j ≠ i) : owOff ow i j = ow j := by simp [owOff, h]
theorem owOff_some {ow : Nat → Option Addr} {i j : Nat} {p : Addr} (h : owOff ow i j = some p) : j ≠ i ∧ ow j = some p := by
  by_cases e : j = i
  · subst e; rw [owOff_same] at h; cases h
  · rw [owOff_ne ow e] at h; exact ⟨e, h⟩
theorem hdO_off {i : Nat} {b : Addr} (h : hdO M (owOff ow i) b) : hdO M ow b := by
  rcases h with h | ⟨j, h⟩ | h
  · exact .inl h
  · exact .inr (.inl ⟨j, (owOff_some h).2⟩)
  · exact .inr (.inr h)
theorem vis_off (ow : Nat → Option Addr) (i : Nat) (H : Hp) : Same (hide (hdO M ow) H) (hide (hdO M (owOff ow i)) H) := hide_same fun b o n h => ⟨fun z => n (hdO_off z), h⟩
/-- a slot's store: what it owned is let go -/
theorem AtW.put (A : AtW K M σ H ρ ow) (i : Nat) {v : V} {d : D} (g : Dv K M.lc (hide (hdO M (owOff ow i)) H) v d) : AtW K M (σ.set i (some v)) H (put ρ i (.val d)) (owOff ow i) where
  evo := A.evo
  cok := A.cok
  sub := A.sub
  all := A.all
  len := by rw [List.length_set, put_length]; exact A.len
  val := fun j e hj => by
    by_cases hji : j = i
    · subst hji
      have hlt : j < σ.length := by
        rw [A.len]
        have := look_lt _ j (show look (DL.put ρ j (.val d)) j ≠ .un by rw [hj]; exact fun z => nomatch z)
        rwa [put_length] at this
      rcases look_put ρ j (.val d) with z | z
      · rw [z] at hj
        cases hj
        exact ⟨v, List.getElem?_set_self hlt, g⟩
      · rw [z] at hj; cases hj
    · rw [look_put_ne _ _ _ _ hji] at hj
      obtain ⟨u, g1, g2⟩ := A.val j e hj
      exact ⟨u, by rw [List.getElem?_set_ne (fun z => hji z.symm)]; exact g1, g2.mono (vis_off ow i H)⟩
  own := fun j es hj => by
    by_cases hji : j = i
    · subst hji
      rcases look_put ρ j (.val d) with z | z <;> (rw [z] at hj; cases hj)
    · rw [look_put_ne _ _ _ _ hji] at hj
      obtain ⟨p', xs', g1, g2, g3, g4⟩ := A.own j es hj
      exact ⟨p', xs', by rw [owOff_ne ow hji]; exact g1, by rw [List.getElem?_set_ne (fun z => hji z.symm)]; exact g2, g3, g4.mono (vis_off ow i H)⟩
  fre := fun j p hj => A.fre j p (owOff_some hj).2
  inj := fun j k p hj hk => A.inj j k p (owOff_some hj).2 (owOff_some hk).2
  gho := fun p ds h => by
    obtain ⟨h1, h2, xs, h3, h4⟩ := A.gho p ds h
    exact ⟨h1, fun j hj => h2 j (owOff_some hj).2, xs, h3, h4.mono (vis_off ow i H)⟩
  gnd := A.gnd
theorem At.put (A : At K M σ H ρ pv pd) (i : Nat) {v : V} {d : D} {pv' : List V} {pd' : List D} (e1 : pv = v :: pv') (e2 : pd = d :: pd') : At K M (σ.set i (some v)) H (put ρ i (.val d)) pv' pd' := by
  subst e1 e2
  obtain ⟨ow, A, h⟩ := A
  cases h with
  | cons h1 h2 => exact ⟨_, A.put i (h1.mono (vis_off ow i H)), h2.mono (vis_off ow i H)⟩
end
theorem same_new {H : Hp} {p : Addr} {o : HO} (h : H p = none) : Same H (upd H p o) := fun b x e => by
  rw [upd_ne (ne_of_none e h)]
  exact e
end DL

namespace DL
open PySem PySem.Spec PyProof.Rows L2

/-! ## expressions -/
abbrev WE := Rho → (D → Rho → Prop) → Prop
abbrev WA := Rho → (List D → Rho → Prop) → Prop
abbrev WT := Rho → (Bool → Rho → Prop) → Prop
def Snd (K : Fg) (t : TE) (w : WE) : Prop := ∀ (M : Amb) (σ : L2.St) (H : Hp) (ρ : Rho) (pv : List V) (pd : List D) (P : D → Rho → Prop) (Q : VK),
  At K M σ H ρ pv pd → w ρ P → (∀ v d H' ρ', At K M σ H' ρ' (v :: pv) (d :: pd) → P d ρ' → Q v H') → t σ H Q
def SndA (K : Fg) (t : TA) (w : WA) : Prop := ∀ (M : Amb) (σ : L2.St) (H : Hp) (ρ : Rho) (pv : List V) (pd : List D) (P : List D → Rho → Prop) (Q : List V → Hp → Prop),
  At K M σ H ρ pv pd → w ρ P → (∀ vs ds H' ρ', vs.length = ds.length → At K M σ H' ρ' (vs ++ pv) (ds ++ pd) → P ds ρ' → Q vs H') → t σ H Q
def SndT (K : Fg) (t : TT) (w : WT) : Prop := ∀ (M : Amb) (σ : L2.St) (H : Hp) (ρ : Rho) (pv : List V) (pd : List D) (P : Bool → Rho → Prop) (Q : Bool → Hp → Prop),
  At K M σ H ρ pv pd → w ρ P → (∀ b H' ρ', At K M σ H' ρ' pv pd → P b ρ' → Q b H') → t σ H Q
structure DE (X : Cx) (e : Expr) (t : TE) (w : WE) : Prop where
  pe : PE X e t
  sd : Snd X.K t w
structure DA (X : Cx) (es : List Expr) (t : TA) (w : WA) : Prop where
  pa : PA X es t
  sd : SndA X.K t w
structure DT (X : Cx) (e : Expr) (t : TT) (w : WT) : Prop where
  pt : PT X e t
  sd : SndT X.K t w
/-- a test whatever its whole is -/
structure DW (X : Cx) (e : Expr) (t : TT) (w : WT) : Prop where
  pw : PW X e t
  sd : SndT X.K t w

/-- operations by values -/
def Sn2 (K : Fg) (r : R2) (w : D → D → (D → Prop) → Prop) : Prop := ∀ (lc : Option Addr) (hd : Addr → Prop) (H : Hp) (x y : V) (a b : D) (P : D → Prop) (Q : VK),
  (∀ p, hd p → H p ≠ none) → Dv K lc (hide hd H) x a → Dv K lc (hide hd H) y b → w a b P → (∀ v d H', Same H H' → Dv K lc (hide hd H') v d → P d → Q v H') → r x y H Q
def Sn1 (K : Fg) (r : V → Hp → VK → Prop) (w : D → (D → Prop) → Prop) : Prop := ∀ (lc : Option Addr) (hd : Addr → Prop) (H : Hp) (x : V) (a : D) (P : D → Prop) (Q : VK),
  (∀ p, hd p → H p ≠ none) → Dv K lc (hide hd H) x a → w a P → (∀ v d H', Same H H' → Dv K lc (hide hd H') v d → P d → Q v H') → r x H Q
def SnC (K : Fg) (r : List V → Hp → VK → Prop) (w : List D → (D → Prop) → Prop) : Prop := ∀ (lc : Option Addr) (hd : Addr → Prop) (H : Hp) (xs : List V) (as : List D) (P : D → Prop) (Q : VK),
  (∀ p, hd p → H p ≠ none) → DvAll K lc (hide hd H) xs as → w as P → (∀ v d H', Same H H' → Dv K lc (hide hd H') v d → P d → Q v H') → r xs H Q

/-! ### what they are worth -/
def wName (i : Nat) : WE := fun ρ P => match look ρ i with
  | .val d => P d ρ
  | .own ds => P (.list ds) (put ρ i (.val (.list ds)))
  | .un => False
def wC (d : D) : WE := fun ρ P => P d ρ
def wBin (w2 : D → D → (D → Prop) → Prop) (wa wb : WE) : WE := fun ρ P => wa ρ fun x ρ1 => wb ρ1 fun y ρ2 => w2 x y fun z => P z ρ2
def wUn (w1 : D → (D → Prop) → Prop) (wa : WE) : WE := fun ρ P => wa ρ fun x ρ1 => w1 x fun z => P z ρ1
def wNil : WA := fun ρ P => P [] ρ
def wCons (wa : WE) (wr : WA) : WA := fun ρ P => wa ρ fun x ρ1 => wr ρ1 fun xs ρ2 => P (x :: xs) ρ2
def wTup (wa : WA) : WE := fun ρ P => wa ρ fun ds ρ1 => ds.length ≤ 100000 ∧ P (.tuple ds) ρ1
def wLst (wa : WA) : WE := fun ρ P => wa ρ fun ds ρ1 => ds.length ≤ 100000 ∧ P (.list ds) ρ1
def wCall (pre : List D → Prop) (post : List D → D → Prop) (wa : WA) : WE := fun ρ P => wa ρ fun ds ρ1 => pre ds ∧ ∀ d, post ds d → P d ρ1
def wB (wc : List D → (D → Prop) → Prop) (wa : WA) : WE := fun ρ P => wa ρ fun ds ρ1 => wc ds fun d => P d ρ1
def wTest (wa : WE) : WT := fun ρ P => wa ρ fun x ρ1 => match x with
  | .bool b => P b ρ1
  | _ => False
def truD : D → Option Bool
  | .none => some false
  | .bool b => some b
  | .int i => some (i != 0)
  | .list ds => some (!ds.isEmpty)
  | .tuple ds => some (!ds.isEmpty)
  | _ => none
def wTruT (wa : WE) : WT := fun ρ P => wa ρ fun x ρ1 => match truD x with
  | some b => P b ρ1
  | none => False
def wAnd (wa wb : WT) : WT := fun ρ P => wa ρ fun b ρ1 => if b = true then wb ρ1 P else P false ρ1
def wOr (wa wb : WT) : WT := fun ρ P => wa ρ fun b ρ1 => if b = true then P true ρ1 else wb ρ1 P
def wNotT (wa : WT) : WT := fun ρ P => wa ρ fun b ρ1 => P (!b) ρ1
def wAndV (wa wb : WE) : WE := fun ρ P => wa ρ fun x ρ1 => match truD x with
  | some true => wb ρ1 P
  | some false => P x ρ1
  | none => False
def wOrV (wa wb : WE) : WE := fun ρ P => wa ρ fun x ρ1 => match truD x with
  | some true => P x ρ1
  | some false => wb ρ1 P
  | none => False
def wNotV (wa : WE) : WE := fun ρ P => wa ρ fun x ρ1 => match truD x with
  | some b => P (.bool (!b)) ρ1
  | none => False
def wIf (wt : WT) (wa wb : WE) : WE := fun ρ P => wt ρ fun b ρ1 => if b = true then wa ρ1 P else wb ρ1 P
def wChain (w1 w2 : D → D → (D → Prop) → Prop) (wa wb wc : WE) : WE := fun ρ P => wa ρ fun x ρ1 => wb ρ1 fun y ρ2 => w1 x y fun z => match z with
  | .bool true => wc ρ2 fun u ρ3 => w2 y u fun v => P v ρ3
  | .bool false => P (.bool false) ρ2
  | _ => False

/-! ### ints -/
def dAdd : D → D → (D → Prop) → Prop
  | .int i, .int j, P => P (.int (i + j))
  | .tuple a, .tuple b, P => a.length + b.length ≤ 100000 ∧ P (.tuple (a ++ b))
  | .list a, .list b, P => a.length + b.length ≤ 100000 ∧ P (.list (a ++ b))
  | _, _, _ => False
def dSub : D → D → (D → Prop) → Prop
  | .int i, .int j, P => P (.int (i - j))
  | _, _, _ => False
/-- a factor below 2 ^ 64, or both below 2 ^ 400000 -/
def mulOk (i j : Int) : Prop := CMul i j ∨ CMulW i j
def dMul : D → D → (D → Prop) → Prop
  | .int i, .int j, P => mulOk i j ∧ P (.int (i * j))
  | .list a, .int k, P => -(2 ^ 63) ≤ k ∧ k < 2 ^ 63 ∧ a.length * k.toNat ≤ 100000 ∧ P (.list (List.replicate k.toNat a).flatten)
  | _, _, _ => False
def divOk (j : Int) : Prop := j ≠ 0 ∧ j.natAbs.log2 < 9000
def dDiv : D → D → (D → Prop) → Prop
  | .int i, .int j, P => divOk j ∧ P (.int (i.fdiv j))
  | _, _, _ => False
def dMod : D → D → (D → Prop) → Prop
  | .int i, .int j, P => j ≠ 0 ∧ P (.int (i.fmod j))
  | _, _, _ => False
def dPow : D → D → (D → Prop) → Prop
  | .int i, .int j, P => CPow i j ∧ P (.int (i ^ j.toNat))
  | _, _, _ => False
def dNeg : D → (D → Prop) → Prop
  | .int i, P => P (.int (-i))
  | _, _ => False
def dLt : D → D → (D → Prop) → Prop
  | .int i, .int j, P => P (.bool (decide (i < j)))
  | _, _, _ => False
def dLe : D → D → (D → Prop) → Prop
  | .int i, .int j, P => P (.bool (decide (i ≤ j)))
  | _, _, _ => False
def dGt : D → D → (D → Prop) → Prop
  | .int i, .int j, P => P (.bool (decide (j < i)))
  | _, _, _ => False
def dGe : D → D → (D → Prop) → Prop
  | .int i, .int j, P => P (.bool (decide (j ≤ i)))
  | _, _, _ => False
def eqOk (x y : D) : Prop := x.plain = true ∧ y.plain = true ∧ (x.depth ≤ 64 ∨ y.depth ≤ 64)
def dEq : D → D → (D → Prop) → Prop := fun x y P => eqOk x y ∧ P (.bool (PyData.eqv x y))
def dNe : D → D → (D → Prop) → Prop := fun x y P => eqOk x y ∧ P (.bool (!PyData.eqv x y))
def dIsN : D → D → (D → Prop) → Prop := fun x y P => match y with
  | .none => P (.bool (match x with | .none => true | _ => false))
  | _ => False
def dIsNN : D → D → (D → Prop) → Prop := fun x y P => match y with
  | .none => P (.bool (match x with | .none => false | _ => true))
  | _ => False
def dIx : D → D → (D → Prop) → Prop
  | .tuple ds, .int i, P => ∃ d, atI ds i = some d ∧ P d
  | .list ds, .int i, P => ∃ d, atI ds i = some d ∧ P d
  | _, _, _ => False

section
variable {X : Cx} {K : Fg} {a b c e : Expr} {es : List Expr} {ta tb tc : TE} {wa wb wc : WE} {pos p : Pos}

theorem de_name (i : Nat) {x : Str} (hN : X.N[i]? = some x := by rfl) (hv : Vis X.env.scope x := by first | exact Or.inl rfl | exact Or.inr (Or.inl rfl) | exact Or.inr (Or.inr rfl)) (hd : (x == ("__debug__" : Str)) = false := by decide)
    (hcd : (x == ("__classdict__" : Str)) = false := by decide) : DE X (.Name x pos) (tVar i) (wName i) := ⟨pe_var hN hv hd hcd, fun M σ H ρ pv pd P Q A h q => by
  obtain ⟨ow, A, hp⟩ := A
  unfold wName at h
  split at h
  · next d e =>
    obtain ⟨v, h1, h2⟩ := A.val i d e
    exact ⟨v, h1, q v d H ρ ⟨ow, A, .cons h2 hp⟩ h⟩
  · next ds e =>
    obtain ⟨p, xs, h1, h2, h3, h4⟩ := A.own i ds e
    have np : ¬ hdO M (owOff ow i) p := fun z => by
      rcases z with z | ⟨j, z⟩ | ⟨es, z⟩
      · exact A.ne (A.fre i p h1).1 z
      · exact (owOff_some z).1 (A.inj j i p (owOff_some z).2 h1)
      · exact (A.gho p es z).2.1 i h1
    have dv : Dv X.K M.lc (hide (hdO M (owOff ow i)) H) (.ref p) (.list ds) := .lst (hide_some.mpr ⟨np, h3⟩) (h4.mono (vis_off ow i H))
    have A0 : AtW X.K M σ H (put ρ i (.val (.list ds))) (owOff ow i) := by
      have B := A.put i dv
      have e0 : σ.set i (some (.ref p)) = σ := by
        obtain ⟨hlt, he⟩ := List.getElem?_eq_some_iff.mp h2
        rw [← he]
        exact List.set_getElem_self hlt
      rw [e0] at B
      exact B
    exact ⟨.ref p, h2, q _ _ H (put ρ i (.val (.list ds))) ⟨_, A0, .cons dv (hp.mono (vis_off ow i H))⟩ h⟩
  · exact h.elim⟩
theorem snd_c {v : V} {d : D} (h : ∀ lc H, Dv K lc H v d) : Snd K (tC v) (wC d) := fun M σ H ρ pv pd P Q A hw q => by
  obtain ⟨ow, A, hp⟩ := A
  exact q v d H ρ ⟨ow, A, .cons (h _ _) hp⟩ hw
theorem de_int {i : Int} {j} : DE X (.Constant (.int i) j pos) (tC (.int i)) (wC (.int i)) := ⟨pe_int, snd_c fun _ _ => .int i⟩
theorem de_bl {i : Bool} {j} : DE X (.Constant (.bool i) j pos) (tC (.bl i)) (wC (.bool i)) := ⟨pe_bl, snd_c fun _ _ => .bl i⟩
theorem de_non {j} : DE X (.Constant .none j pos) (tC .non) (wC .none) := ⟨pe_non, snd_c fun _ _ => .non⟩
theorem de_str {x : Str} {j} : DE X (.Constant (.str x) j pos) (tC (.str x)) (wC (.str x)) := ⟨pe_str, snd_c fun _ _ => .str x⟩
/-- a module's int -/
theorem de_gint {x : Str} {i : Int} {u : Value} (hg : Gl X x) (hm : X.mg x = some u) (r : RelV (.int i) u) (hd : (x == ("__debug__" : Str)) = false := by decide) : DE X (.Name x pos) (tC (.int i)) (wC (.int i)) := ⟨pe_glob hg hm r hd, snd_c fun _ _ => .int i⟩

theorem snd_op {r : R2} {w2 : D → D → (D → Prop) → Prop} (h2 : Sn2 K r w2) (ha : Snd K ta wa) (hb : Snd K tb wb) : Snd K (tOp r ta tb) (wBin w2 wa wb) := fun M σ H ρ pv pd P Q A h q => by
  refine ha M σ H ρ pv pd _ _ A h fun x dx H1 ρ1 A1 h1 => ?_
  refine hb M σ H1 ρ1 _ _ _ _ A1 h1 fun y dy H2 ρ2 A2 h2' => ?_
  obtain ⟨ow, B, hp⟩ := A2
  cases hp with
  | cons gy hp =>
    cases hp with
    | cons gx hp =>
      refine h2 M.lc (hdO M ow) H2 x y dx dy _ _ B.hall gx gy h2' fun v d H' e g p => ?_
      exact q v d H' ρ2 ⟨ow, B.step (.of e) (B.cok.mono e), .cons g (hp.mono (B.vis (.of e)))⟩ p
theorem de_op {op : Operator} {r : R2} {w2 : D → D → (D → Prop) → Prop} (ho : OpR X (binaryOp op) r) (h2 : Sn2 X.K r w2) (ha : DE X a ta wa) (hb : DE X b tb wb) : DE X (.BinOp a op b pos) (tOp r ta tb) (wBin w2 wa wb) := ⟨pe_op ho ha.pe hb.pe, snd_op h2 ha.sd hb.sd⟩
theorem de_cmp {op : CmpOp} {r : R2} {w2 : D → D → (D → Prop) → Prop} (ho : OpR X (compareOp op) r) (h2 : Sn2 X.K r w2) (ha : DE X a ta wa) (hb : DE X b tb wb) (hm : behindInMarks op b = false := by first | exact nomark _ | rfl) : DE X (.Compare a [op] [b] pos) (tOp r ta tb) (wBin w2 wa wb) := ⟨pe_cmpR ho ha.pe hb.pe hm, snd_op h2 ha.sd hb.sd⟩
theorem de_ix {r : R2} {w2 : D → D → (D → Prop) → Prop} (ho : IxR X r) (h2 : Sn2 X.K r w2) (ha : DE X a ta wa) (hb : DE X b tb wb) (hs : PlainIx b := by exact fun _ _ => rfl) : DE X (.Subscript a b pos) (tOp r ta tb) (wBin w2 wa wb) := ⟨pe_ix ho ha.pe hb.pe hs, snd_op h2 ha.sd hb.sd⟩
theorem snd_un {r : V → Hp → VK → Prop} {w1 : D → (D → Prop) → Prop} (h1 : Sn1 K r w1) (ha : Snd K ta wa) : Snd K (tUn r ta) (wUn w1 wa) := fun M σ H ρ pv pd P Q A h q => by
  refine ha M σ H ρ pv pd _ _ A h fun x dx H1 ρ1 A1 h1' => ?_
  obtain ⟨ow, B, hp⟩ := A1
  cases hp with
  | cons gx hp =>
    refine h1 M.lc (hdO M ow) H1 x dx _ _ B.hall gx h1' fun v d H' e g p => ?_
    exact q v d H' ρ1 ⟨ow, B.step (.of e) (B.cok.mono e), .cons g (hp.mono (B.vis (.of e)))⟩ p
theorem de_un {op : UnaryOp} {r : V → Hp → VK → Prop} {w1 : D → (D → Prop) → Prop} (ho : UnR X (unaryOp op) r) (h1 : Sn1 X.K r w1) (ha : DE X a ta wa) : DE X (.UnaryOp op a pos) (tUn r ta) (wUn w1 wa) := ⟨pe_un ho ha.pe, snd_un h1 ha.sd⟩

/-! ### arguments, tuples, lists, calls -/
variable {t u : TA} {wr ws : WA}
theorem da_nil : DA X [] tNil wNil := ⟨pa_nil, fun M σ H ρ pv pd P Q A h q => q [] [] H ρ rfl A h⟩
theorem da_cons (ha : DE X e ta wa) (hr : DA X es t wr) (hs : starEach (e :: es) X.env = (false, eval e X.env) :: starEach es X.env := by rfl) : DA X (e :: es) (tCons ta t) (wCons wa wr) := ⟨pa_cons ha.pe hr.pa hs, fun M σ H ρ pv pd P Q A h q => by
  refine ha.sd M σ H ρ pv pd _ _ A h fun x dx H1 ρ1 A1 h1 => ?_
  refine hr.sd M σ H1 ρ1 _ _ _ _ A1 h1 fun vs ds H2 ρ2 hl A2 h2 => ?_
  obtain ⟨ow, B, hp⟩ := A2
  obtain ⟨g1, g2⟩ := DvAll.split hl hp
  cases g2 with
  | cons g2 g3 => exact q (x :: vs) (dx :: ds) H2 ρ2 (by simp [hl]) ⟨ow, B, .cons g2 (g1.app g3)⟩ h2⟩
theorem size_ok {n : Nat} (h : n ≤ 100000) : n ≤ sizeLine := Nat.le_trans h (by decide)
theorem size_lt {n : Nat} (h : n < 100000) : n < sizeLine := Nat.lt_of_lt_of_le h (by decide)
theorem not_hid {hd : Addr → Prop} {H : Hp} (h : ∀ p, hd p → H p ≠ none) {p : Addr} (hp : H p = none) : ¬ hd p := fun z => h p z hp
/-- a new object is seen -/
theorem new_vis {hd : Addr → Prop} {H : Hp} {p : Addr} {o : HO} (h : ∀ p, hd p → H p ≠ none) (hp : H p = none) : hide hd (upd H p o) p = some o := hide_some.mpr ⟨not_hid h hp, upd_same⟩
theorem vis_new {hd : Addr → Prop} {H : Hp} {p : Addr} {o : HO} (hp : H p = none) : Same (hide hd H) (hide hd (upd H p o)) := hide_same fun b x n e => ⟨n, same_new hp b x e⟩
theorem vis_of {hd : Addr → Prop} {H H' : Hp} (e : Same H H') : Same (hide hd H) (hide hd H') := hide_same fun b x n q => ⟨n, e b x q⟩
theorem de_tup {x1} (h : DA X es t wr) : DE X (.Tuple es x1 pos) (tTup t) (wTup wr) := ⟨pe_tup h.pa, fun M σ H ρ pv pd P Q A hw q => by
  refine h.sd M σ H ρ pv pd _ _ A hw fun vs ds H1 ρ1 hl A1 h1 => ⟨by rw [hl]; exact size_ok h1.1, fun p hp => ?_⟩
  obtain ⟨ow, B, hp'⟩ := A1
  obtain ⟨g1, g2⟩ := DvAll.split hl hp'
  have e : Same H1 (upd H1 p (.tup vs)) := same_new hp
  exact q _ (.tuple ds) _ ρ1 ⟨ow, B.step (.of e) (B.cok.mono e), .cons (.tup (.of (new_vis B.hall hp)) (g1.mono (vis_of e))) (g2.mono (vis_of e))⟩ h1.2⟩
theorem de_lst (h : DA X es t wr) : DE X (.List es pos) (tLst t) (wLst wr) := ⟨pe_lst h.pa, fun M σ H ρ pv pd P Q A hw q => by
  refine h.sd M σ H ρ pv pd _ _ A hw fun vs ds H1 ρ1 hl A1 h1 => ⟨by rw [hl]; exact size_ok h1.1, fun p hp => ?_⟩
  obtain ⟨ow, B, hp'⟩ := A1
  obtain ⟨g1, g2⟩ := DvAll.split hl hp'
  have e : Same H1 (upd H1 p (.lst vs)) := same_new hp
  exact q _ (.list ds) _ ρ1 ⟨ow, B.step (.of e) (B.cok.mono e), .cons (.lst (new_vis B.hall hp) (g1.mono (vis_of e))) (g2.mono (vis_of e))⟩ h1.2⟩
theorem snd_call {pre : List D → Prop} {post : List D → D → Prop} {E : XK} (h : SndA K t wr) : Snd K (tCall (SpD K pre post) [] E t) (wCall pre post wr) := fun M σ H ρ pv pd P Q A hw q => by
  refine h M σ H ρ pv pd _ _ A hw fun vs ds H1 ρ1 hl A1 h1 => ?_
  obtain ⟨ow, B, hp⟩ := A1
  obtain ⟨g1, g2⟩ := DvAll.split hl hp
  show SpD K pre post (vs ++ []) H1 Q E
  rw [List.append_nil]
  refine ⟨M.lc, M.hc, hdO M ow, ds, g1, B.cok, fun b z => .inl (B.sub b z), B.hall, h1.1, fun v d H' e c g p => ?_⟩
  exact q v d H' ρ1 ⟨ow, B.step e c, .cons g (g2.mono (B.vis e))⟩ (h1.2 d p)
theorem de_call {CX : CXT} {k : Nat} {f : Addr} {fd : FuncData} {ps : List Str} {pre : List D → Prop} {post : List D → D → Prop} {E : XK} {x : Str} {K' : Fg} (F : FnOk X.prog X.w X.K X.mg X.base CX k f fd ps (SpD K' pre post)) (hr : Room k X.A) (hg : Gl X x) (hm : X.mg x = some (.ref f))
    (hk : PySem.W.keepIn X.K (.ref f) = true) (hb : Binds X.K fd ps []) (hx : Passes CX X E) (ha : DA X (e :: es) t wr) (hK : X.K = K' := by rfl) (hdb : (x == ("__debug__" : Str)) = false := by decide) (he : starEach (e :: es) X.env = (false, eval e X.env) :: starEach es X.env := by rfl)
    (hpl : (backTo pos (starEach es X.env)).any (·.1) = false := by rfl) : DE X (.Call (.Name x p) (e :: es) [] pos) (tCall (SpD K' pre post) [] E t) (wCall pre post wr) :=
  ⟨pe_call F hr hg hm hk hb .nil hx ha.pa hdb he hpl, by subst hK; exact snd_call ha.sd⟩
theorem de_call0 {CX : CXT} {k : Nat} {f : Addr} {fd : FuncData} {ps : List Str} {pre : List D → Prop} {post : List D → D → Prop} {E : XK} {x : Str} {K' : Fg} (F : FnOk X.prog X.w X.K X.mg X.base CX k f fd ps (SpD K' pre post)) (hr : Room k X.A) (hg : Gl X x) (hm : X.mg x = some (.ref f))
    (hk : PySem.W.keepIn X.K (.ref f) = true) (hb : Binds X.K fd ps []) (hx : Passes CX X E) (hK : X.K = K' := by rfl) (hdb : (x == ("__debug__" : Str)) = false := by decide) : DE X (.Call (.Name x p) [] [] pos) (tCall (SpD K' pre post) [] E tNil) (wCall pre post wNil) :=
  ⟨pe_call0 F hr hg hm hk hb .nil hx hdb, by subst hK; exact snd_call da_nil.sd⟩
theorem snd_b {r : List V → Hp → VK → Prop} {wc : List D → (D → Prop) → Prop} (hsn : SnC K r wc) (h : SndA K t wr) : Snd K (tCB r t) (wB wc wr) := fun M σ H ρ pv pd P Q A hw q => by
  refine h M σ H ρ pv pd _ _ A hw fun vs ds H1 ρ1 hl A1 h1 => ?_
  obtain ⟨ow, B, hp⟩ := A1
  obtain ⟨g1, g2⟩ := DvAll.split hl hp
  refine hsn M.lc (hdO M ow) H1 vs ds _ _ B.hall g1 h1 fun v d H' e g p => ?_
  exact q v d H' ρ1 ⟨ow, B.step (.of e) (B.cok.mono e), .cons g (g2.mono (vis_of e))⟩ p
theorem de_callB {id : String} {x : Str} {r : List V → Hp → VK → Prop} {wc : List D → (D → Prop) → Prop} (hc : CallR X (.builtin id) r) (hs : SnC X.K r wc) (hg : Gl X x) (hm : X.mg x = none) (hv : bootBuiltins x = some (.builtin id)) (ha : DA X (e :: es) t wr) (hn : x ≠ "__name__" := by decide)
    (hdb : (x == ("__debug__" : Str)) = false := by decide) (he : starEach (e :: es) X.env = (false, eval e X.env) :: starEach es X.env := by rfl) (hpl : (backTo pos (starEach es X.env)).any (·.1) = false := by rfl) : DE X (.Call (.Name x p) (e :: es) [] pos) (tCB r t) (wB wc wr) :=
  ⟨pe_callB hc hg hm hv ha.pa hn hdb he hpl, snd_b hs ha.sd⟩
theorem de_callTy {T : String} {x : Str} {r : List V → Hp → VK → Prop} {wc : List D → (D → Prop) → Prop} (hc : CallR X (.type T) r) (hs : SnC X.K r wc) (hg : Gl X x) (hm : X.mg x = none) (hv : bootBuiltins x = some (.type T)) (ha : DA X (e :: es) t wr) (hn : x ≠ "__name__" := by decide)
    (hdb : (x == ("__debug__" : Str)) = false := by decide) (he : starEach (e :: es) X.env = (false, eval e X.env) :: starEach es X.env := by rfl) (hpl : (backTo pos (starEach es X.env)).any (·.1) = false := by rfl) : DE X (.Call (.Name x p) (e :: es) [] pos) (tCB r t) (wB wc wr) :=
  ⟨pe_callTy hc hg hm hv ha.pa hn hdb he hpl, snd_b hs ha.sd⟩
/-- math.gcd and the like, by the name that the module has for it -/
theorem de_callM {id : String} {x : Str} {r : List V → Hp → VK → Prop} {wc : List D → (D → Prop) → Prop} (hc : CallR X (.builtin id) r) (hs : SnC X.K r wc) (hg : Gl X x) (hm : X.mg x = some (.builtin id)) (ha : DA X (e :: es) t wr)
    (hdb : (x == ("__debug__" : Str)) = false := by decide) (he : starEach (e :: es) X.env = (false, eval e X.env) :: starEach es X.env := by rfl) (hpl : (backTo pos (starEach es X.env)).any (·.1) = false := by rfl) : DE X (.Call (.Name x p) (e :: es) [] pos) (tCB r t) (wB wc wr) :=
  ⟨pe_callBfun hc hg hm ha.pa hdb he hpl, snd_b hs ha.sd⟩
end
end DL

namespace DL
open PySem PySem.Spec PyProof.Rows L2

/-! ## operators by values -/
/-- + : ints, tuples, lists -/
def rAddD (K : Fg) : R2 := fun x y H Q => rI0 (fun i j => .int (i + j)) x y H Q ∨ (rCatA K x y H Q ∨ rCat x y H Q)
/-- * : ints, a list and an int -/
def rMulD : R2 := fun x y H Q => rI CMul (fun i j => .int (i * j)) x y H Q ∨ (rI CMulW (fun i j => .int (i * j)) x y H Q ∨ rRep x y H Q)
/-- xs[i] of a list or a tuple -/
def rIxD (K : Fg) : R2 := fun x y H Q => rIxL K x y H Q ∨ rIxT K x y H Q
mutual
theorem dpm {K : Fg} {H H' : Hp} (e : Same H H') : ∀ {d : D} {v : V}, Dp K H v d → Dp K H' v d
  | .none, _, h => by cases h; exact .non
  | .bool b, _, h => by cases h; exact .bl b
  | .int b, _, h => by cases h; exact .int b
  | .str b, _, h => by cases h; exact .str b
  | .list ds, _, h => by
    cases h with
    | lst hs ha => exact .lst (e.seq hs) (dpmA e ha)
  | .tuple ds, _, h => by
    cases h with
    | tup hs ha => exact .tup (same_t e hs) (dpmA e ha)
  | .dict _, _, h => by cases h
theorem dpmA {K : Fg} {H H' : Hp} (e : Same H H') : ∀ {ds : List D} {vs : List V}, DpAll K H vs ds → DpAll K H' vs ds
  | [], _, h => by cases h; exact .nil
  | d :: ds, _, h => by
    cases h with
    | cons h1 h2 => exact .cons (dpm e h1) (dpmA e h2)
end
section
variable {X : Cx}
def rEqP (K : Fg) : R2 := fun x y H Q => ∃ d e, Dp K H x d ∧ Dp K H y e ∧ eqOk d e ∧ Q (.bl (PyData.eqv d e)) H
def rNeP (K : Fg) : R2 := fun x y H Q => ∃ d e, Dp K H x d ∧ Dp K H y e ∧ eqOk d e ∧ Q (.bl (!PyData.eqv d e)) H
theorem min64 {A : Around} {d e : D} (h : eqOk d e) (hu : A.units + 64 < cLine) : A.units + min d.depth e.depth < cLine := by
  have h1 : min d.depth e.depth ≤ d.depth := Nat.min_le_left _ _
  have h2 : min d.depth e.depth ≤ e.depth := Nat.min_le_right _ _
  rcases h.2.2 with q | q <;> omega
theorem op_eqP (hu : X.A.units + 64 < cLine) : OpR X (compareOp .Eq) (rEqP X.K) := by
  intro pins s σ H x y v u Q I rx ry h
  obtain ⟨d, e, hd, he, ok, q⟩ := h
  obtain ⟨as, r1⟩ := Dp.reads I d x v hd rx
  obtain ⟨bs, r2⟩ := Dp.reads I e y u he ry
  exact SeqAt.eq_plain r1 r2 ok.1 ok.2.1 (min64 ok hu) ⟨.bl _, H, I, rfl, q⟩
theorem op_neP (hu : X.A.units + 64 < cLine) : OpR X (compareOp .NotEq) (rNeP X.K) := by
  intro pins s σ H x y v u Q I rx ry h
  obtain ⟨d, e, hd, he, ok, q⟩ := h
  obtain ⟨as, r1⟩ := Dp.reads I d x v hd rx
  obtain ⟨bs, r2⟩ := Dp.reads I e y u he ry
  exact SeqAt.ne_plain r1 r2 ok.1 ok.2.1 (min64 ok hu) ⟨.bl _, H, I, rfl, q⟩
theorem op_divB : OpR X (binaryOp .FloorDiv) (rI (fun _ j => divOk j) fun i j => .int (i.fdiv j)) := opI fun i j _ _ _ _ _ hc q => floordiv_int hc.1 q (.inl (PyProof.noPylong_of_log2 hc.2))
theorem op_addD : OpR X (binaryOp .Add) (rAddD X.K) := op_add.or (op_catA.or op_cat)
theorem op_mulD : OpR X (binaryOp .Mult) rMulD := op_mul.or (op_mulW.or op_rep)
theorem ix_D : IxR X (rIxD X.K) := ix_list.or ix_tup
end
section
variable {K : Fg}
theorem sn2_I0 {g : Int → Int → Int} {w : D → D → (D → Prop) → Prop} (hw : ∀ a b P, w a b P → ∃ i j, a = .int i ∧ b = .int j ∧ P (.int (g i j))) : Sn2 K (rI0 fun i j => .int (g i j)) w := fun lc hd H x y a b P Q _ hx hy h q => by
  obtain ⟨i, j, rfl, rfl, p⟩ := hw a b P h
  cases hx
  cases hy
  exact ⟨i, j, rfl, rfl, q _ _ H (Same.refl H) (.int _) p⟩
theorem sn2_I {C : Int → Int → Prop} {g : Int → Int → Int} {w : D → D → (D → Prop) → Prop} (hw : ∀ a b P, w a b P → ∃ i j, a = .int i ∧ b = .int j ∧ C i j ∧ P (.int (g i j))) : Sn2 K (rI C fun i j => .int (g i j)) w := fun lc hd H x y a b P Q _ hx hy h q => by
  obtain ⟨i, j, rfl, rfl, c, p⟩ := hw a b P h
  cases hx
  cases hy
  exact ⟨i, j, rfl, rfl, c, q _ _ H (Same.refl H) (.int _) p⟩
theorem sn2_B0 {g : Int → Int → Bool} {w : D → D → (D → Prop) → Prop} (hw : ∀ a b P, w a b P → ∃ i j, a = .int i ∧ b = .int j ∧ P (.bool (g i j))) : Sn2 K (rI0 fun i j => .bl (g i j)) w := fun lc hd H x y a b P Q _ hx hy h q => by
  obtain ⟨i, j, rfl, rfl, p⟩ := hw a b P h
  cases hx
  cases hy
  exact ⟨i, j, rfl, rfl, q _ _ H (Same.refl H) (.bl _) p⟩
theorem sn2_lt : Sn2 K (rI0 fun i j => .bl (decide (i < j))) dLt := sn2_B0 fun a b P h => by
  cases a <;> cases b <;> first | exact ⟨_, _, rfl, rfl, h⟩ | exact h.elim
theorem sn2_le : Sn2 K (rI0 fun i j => .bl (decide (i ≤ j))) dLe := sn2_B0 fun a b P h => by
  cases a <;> cases b <;> first | exact ⟨_, _, rfl, rfl, h⟩ | exact h.elim
theorem sn2_gt : Sn2 K (rI0 fun i j => .bl (decide (j < i))) dGt := sn2_B0 fun a b P h => by
  cases a <;> cases b <;> first | exact ⟨_, _, rfl, rfl, h⟩ | exact h.elim
theorem sn2_ge : Sn2 K (rI0 fun i j => .bl (decide (j ≤ i))) dGe := sn2_B0 fun a b P h => by
  cases a <;> cases b <;> first | exact ⟨_, _, rfl, rfl, h⟩ | exact h.elim
theorem sn2_sub : Sn2 K (rI0 fun i j => .int (i - j)) dSub := sn2_I0 fun a b P h => by
  cases a <;> cases b <;> first | exact ⟨_, _, rfl, rfl, h⟩ | exact h.elim
theorem sn2_mod : Sn2 K (rI (fun _ j => j ≠ 0) fun i j => .int (i.fmod j)) dMod := sn2_I fun a b P h => by
  cases a <;> cases b <;> first | exact ⟨_, _, rfl, rfl, h.1, h.2⟩ | exact h.elim
theorem sn2_pow : Sn2 K (rI CPow fun i j => .int (i ^ j.toNat)) dPow := sn2_I fun a b P h => by
  cases a <;> cases b <;> first | exact ⟨_, _, rfl, rfl, h.1, h.2⟩ | exact h.elim
theorem sn1_neg : Sn1 K (rU fun i => .int (-i)) dNeg := fun lc hd H x a P Q _ hx h q => by
  cases a <;> first | exact h.elim | skip
  cases hx
  exact ⟨_, rfl, q _ _ H (Same.refl H) (.int _) h⟩
theorem sn2_div : Sn2 K (rI (fun _ j => divOk j) fun i j => .int (i.fdiv j)) dDiv := sn2_I fun a b P h => by
  cases a <;> cases b <;> first | exact ⟨_, _, rfl, rfl, h.1, h.2⟩ | exact h.elim
theorem sn2_add : Sn2 K (rAddD K) dAdd := fun lc hd H x y a b P Q al hx hy h q => by
  cases a <;> cases b <;> first | exact h.elim | skip
  · cases hx
    cases hy
    exact .inl ⟨_, _, rfl, rfl, q _ _ H (Same.refl H) (.int _) h⟩
  · cases hx with
    | lst g1 g2 =>
      cases hy with
      | lst g3 g4 =>
        refine .inr (.inr ⟨_, _, _, _, rfl, rfl, hide_le _ _ g1, hide_le _ _ g3, ?_, fun p hp => ?_⟩)
        · rw [g2.length, g4.length]; exact size_ok h.1
        · exact q _ _ _ (same_new hp) (.lst (new_vis al hp) ((g2.app g4).mono (vis_new hp))) h.2
  · cases hx with
    | tup g1 g2 =>
      cases hy with
      | tup g3 g4 =>
        refine .inr (.inl ⟨_, _, _, _, rfl, rfl, same_t hide_le g1, same_t hide_le g3, ?_, ?_⟩)
        · rw [g2.length, g4.length]; exact size_ok h.1
        · have e1 : Dv K lc (hide hd H) (V.ref _) (.tuple _) := .tup g1 g2
          have e3 : Dv K lc (hide hd H) (V.ref _) (.tuple _) := .tup g3 g4
          refine ⟨fun z => ?_, fun z z2 => ?_, fun z z2 p hp => ?_⟩
          · subst z
            cases g2
            exact q _ _ H (Same.refl H) e3 (by simpa using h.2)
          · subst z2
            cases g4
            exact q _ _ H (Same.refl H) e1 (by simpa using h.2)
          · exact q _ _ _ (same_new hp) (.tup (.of (new_vis al hp)) ((g2.app g4).mono (vis_new hp))) h.2
theorem Vrep {lc : Option Addr} {H : Hp} {ds : List D} {vs : List V} (h : DvAll K lc H vs ds) : ∀ k : Nat, DvAll K lc H (List.replicate k vs).flatten (List.replicate k ds).flatten
  | 0 => .nil
  | k + 1 => by
    rw [List.replicate_succ, List.replicate_succ, List.flatten_cons, List.flatten_cons]
    exact h.app (Vrep h k)
theorem sn2_mul : Sn2 K rMulD dMul := fun lc hd H x y a b P Q al hx hy h q => by
  cases a <;> cases b <;> first | exact h.elim | skip
  · cases hx
    cases hy
    rcases h.1 with c | c
    · exact .inl ⟨_, _, rfl, rfl, c, q _ _ H (Same.refl H) (.int _) h.2⟩
    · exact .inr (.inl ⟨_, _, rfl, rfl, c, q _ _ H (Same.refl H) (.int _) h.2⟩)
  · cases hy
    cases hx with
    | lst g1 g2 =>
      refine .inr (.inr ⟨_, _, _, rfl, rfl, hide_le _ _ g1, h.1, h.2.1, ?_, fun p hp => ?_⟩)
      · rw [g2.length]; exact size_ok h.2.2.1
      · exact q _ _ _ (same_new hp) (.lst (new_vis al hp) ((Vrep g2 _).mono (vis_new hp))) h.2.2.2
theorem sn2_eq : Sn2 K (rEqP K) dEq := fun lc hd H x y a b P Q al hx hy h q =>
  ⟨a, b, dpm hide_le (hx.dp h.1.1), dpm hide_le (hy.dp h.1.2.1), h.1, q _ _ H (Same.refl H) (.bl _) h.2⟩
theorem sn2_ne : Sn2 K (rNeP K) dNe := fun lc hd H x y a b P Q al hx hy h q =>
  ⟨a, b, dpm hide_le (hx.dp h.1.1), dpm hide_le (hy.dp h.1.2.1), h.1, q _ _ H (Same.refl H) (.bl _) h.2⟩
def rIsNV : R2 := fun x y H Q => y = .non ∧ Q (.bl (decide (x = .non))) H
def rNotNV : R2 := fun x y H Q => y = .non ∧ Q (.bl (!decide (x = .non))) H
def isNonD : D → Bool
  | .none => true
  | _ => false
theorem dv_non {lc : Option Addr} {H : Hp} {x : V} {a : D} (h : Dv K lc H x a) : decide (x = .non) = isNonD a := by
  cases h <;> simp [isNonD]
theorem sn2_isN : Sn2 K rIsNV dIsN := fun lc hd H x y a b P Q al hx hy h q => by
  cases b <;> first | exact h.elim | skip
  cases hy
  refine ⟨rfl, q _ _ H (Same.refl H) (.bl _) ?_⟩
  rw [dv_non hx]
  cases a <;> exact h
theorem sn2_isNN : Sn2 K rNotNV dIsNN := fun lc hd H x y a b P Q al hx hy h q => by
  cases b <;> first | exact h.elim | skip
  cases hy
  refine ⟨rfl, q _ _ H (Same.refl H) (.bl _) ?_⟩
  rw [dv_non hx]
  cases a <;> exact h
theorem atI_dv {lc : Option Addr} {H : Hp} {ds : List D} {vs : List V} {i : Int} {d : D} (h : DvAll K lc H vs ds) (e : atI ds i = some d) : ∃ v, atI vs i = some v ∧ Dv K lc H v d := by
  unfold atI at *
  rw [h.length]
  cases q : ixN ds.length i with
  | none => rw [q] at e; cases e
  | some j =>
    rw [q] at e
    exact h.get e
theorem sn2_ix : Sn2 K (rIxD K) dIx := fun lc hd H x y a b P Q al hx hy h q => by
  cases a <;> cases b <;> first | exact h.elim | skip
  · cases hy
    obtain ⟨d, e, p⟩ := h
    cases hx with
    | lst g1 g2 =>
      obtain ⟨v, e', g⟩ := atI_dv g2 e
      exact .inl ⟨_, _, _, v, rfl, rfl, .of (hide_le _ _ g1), e', q _ _ H (Same.refl H) g p⟩
  · cases hy
    obtain ⟨d, e, p⟩ := h
    cases hx with
    | tup g1 g2 =>
      obtain ⟨v, e', g⟩ := atI_dv g2 e
      exact .inr ⟨_, _, _, v, rfl, rfl, same_t hide_le g1, e', q _ _ H (Same.refl H) g p⟩
end

/-! ## built-in functions by values -/
def bAbs : List D → (D → Prop) → Prop
  | [.int i], P => P (.int (if i < 0 then -i else i))
  | _, _ => False
def bInt : List D → (D → Prop) → Prop
  | [.int i], P => P (.int i)
  | _, _ => False
def bMax : List D → (D → Prop) → Prop
  | [.int i, .int j], P => P (.int (if j > i then j else i))
  | _, _ => False
def bMin : List D → (D → Prop) → Prop
  | [.int i, .int j], P => P (.int (if j < i then j else i))
  | _, _ => False
def bGcd : List D → (D → Prop) → Prop
  | [.int i, .int j], P => P (.int (Nat.gcd i.natAbs j.natAbs : Nat))
  | _, _ => False
def bLen : List D → (D → Prop) → Prop
  | [.tuple ds], P => P (.int ds.length)
  | [.list ds], P => P (.int ds.length)
  | _, _ => False
def bTuple : List D → (D → Prop) → Prop
  | [.tuple ds], P => P (.tuple ds)
  | [.list ds], P => P (.tuple ds)
  | _, _ => False
def bList : List D → (D → Prop) → Prop
  | [.tuple ds], P => P (.list ds)
  | [.list ds], P => P (.list ds)
  | _, _ => False
def bools : List D → Option (List Bool)
  | [] => some []
  | .bool b :: r => (bools r).map (b :: ·)
  | _ => none
def bAll : List D → (D → Prop) → Prop
  | [.list ds], P => ∃ bs, bools ds = some bs ∧ P (.bool (bs.all id))
  | _, _ => False
def bAny : List D → (D → Prop) → Prop
  | [.list ds], P => ∃ bs, bools ds = some bs ∧ P (.bool (bs.any id))
  | _, _ => False
section
variable {K : Fg}
abbrev rAbsV : List V → Hp → VK → Prop := fun xs H Q => ∃ i, xs = [.int i] ∧ Q (.int (if i < 0 then -i else i)) H
abbrev rIntV : List V → Hp → VK → Prop := fun xs H Q => (∃ i, xs = [.int i] ∧ Q (.int i) H) ∨ ∃ k, xs = [.bl k] ∧ Q (.int (if k then 1 else 0)) H
abbrev rMaxV : List V → Hp → VK → Prop := fun xs H Q => ∃ i j, xs = [.int i, .int j] ∧ Q (.int (if j > i then j else i)) H
abbrev rMinV : List V → Hp → VK → Prop := fun xs H Q => ∃ i j, xs = [.int i, .int j] ∧ Q (.int (if j < i then j else i)) H
theorem da1 {lc : Option Addr} {H : Hp} {xs : List V} {a : D} (h : DvAll K lc H xs [a]) : ∃ x, xs = [x] ∧ Dv K lc H x a := by
  cases h with
  | cons h1 h2 => cases h2; exact ⟨_, rfl, h1⟩
theorem da2 {lc : Option Addr} {H : Hp} {xs : List V} {a b : D} (h : DvAll K lc H xs [a, b]) : ∃ x y, xs = [x, y] ∧ Dv K lc H x a ∧ Dv K lc H y b := by
  cases h with
  | cons h1 h2 =>
    obtain ⟨y, rfl, h3⟩ := da1 h2
    exact ⟨_, _, rfl, h1, h3⟩
theorem snc_abs : SnC K rAbsV bAbs := fun lc hd H xs as P Q al hx h q => by
  unfold bAbs at h
  split at h
  · obtain ⟨x, rfl, g⟩ := da1 hx
    cases g
    exact ⟨_, rfl, q _ _ H (Same.refl H) (.int _) h⟩
  · exact h.elim
theorem snc_int : SnC K rIntV bInt := fun lc hd H xs as P Q al hx h q => by
  unfold bInt at h
  split at h
  · obtain ⟨x, rfl, g⟩ := da1 hx
    cases g
    exact .inl ⟨_, rfl, q _ _ H (Same.refl H) (.int _) h⟩
  · exact h.elim
theorem snc_max : SnC K rMaxV bMax := fun lc hd H xs as P Q al hx h q => by
  unfold bMax at h
  split at h
  · obtain ⟨x, y, rfl, g, g'⟩ := da2 hx
    cases g
    cases g'
    exact ⟨_, _, rfl, q _ _ H (Same.refl H) (.int _) h⟩
  · exact h.elim
theorem snc_min : SnC K rMinV bMin := fun lc hd H xs as P Q al hx h q => by
  unfold bMin at h
  split at h
  · obtain ⟨x, y, rfl, g, g'⟩ := da2 hx
    cases g
    cases g'
    exact ⟨_, _, rfl, q _ _ H (Same.refl H) (.int _) h⟩
  · exact h.elim
theorem snc_gcd : SnC K rGcd bGcd := fun lc hd H xs as P Q al hx h q => by
  unfold bGcd at h
  split at h
  · obtain ⟨x, y, rfl, g, g'⟩ := da2 hx
    cases g
    cases g'
    exact ⟨_, _, rfl, q _ _ H (Same.refl H) (.int _) h⟩
  · exact h.elim
abbrev rLenV (K : Fg) : List V → Hp → VK → Prop := fun xs H Q => ∃ p ys, xs = [.ref p] ∧ (SqL K H p ys ∨ SqT K H p ys) ∧ Q (.int ys.length) H
theorem snc_len : SnC K (rLenV K) bLen := fun lc hd H xs as P Q al hx h q => by
  unfold bLen at h
  split at h
  · obtain ⟨x, rfl, g⟩ := da1 hx
    cases g with
    | tup g1 g2 => exact ⟨_, _, rfl, .inr (same_t hide_le g1), q _ _ H (Same.refl H) (.int _) (by rw [g2.length]; exact h)⟩
  · obtain ⟨x, rfl, g⟩ := da1 hx
    cases g with
    | lst g1 g2 => exact ⟨_, _, rfl, .inl (.of (hide_le _ _ g1)), q _ _ H (Same.refl H) (.int _) (by rw [g2.length]; exact h)⟩
  · exact h.elim
abbrev rTupleV (K : Fg) : List V → Hp → VK → Prop := fun xs H Q => ∃ p ys, xs = [.ref p] ∧ ((SqL K H p ys ∧ ∀ l, H l = none → Q (.ref l) (upd H l (.tup ys))) ∨ (SqT K H p ys ∧ Q (.ref p) H))
theorem snc_tuple : SnC K (rTupleV K) bTuple := fun lc hd H xs as P Q al hx h q => by
  unfold bTuple at h
  split at h
  · obtain ⟨x, rfl, g⟩ := da1 hx
    cases g with
    | tup g1 g2 => exact ⟨_, _, rfl, .inr ⟨same_t hide_le g1, q _ _ H (Same.refl H) (.tup g1 g2) h⟩⟩
  · obtain ⟨x, rfl, g⟩ := da1 hx
    cases g with
    | lst g1 g2 => exact ⟨_, _, rfl, .inl ⟨.of (hide_le _ _ g1), fun l hl => q _ _ _ (same_new hl) (.tup (.of (new_vis al hl)) (g2.mono (vis_new hl))) h⟩⟩
  · exact h.elim
abbrev rListV (K : Fg) : List V → Hp → VK → Prop := fun xs H Q => ∃ p ys, xs = [.ref p] ∧ (SqL K H p ys ∨ SqT K H p ys) ∧ ∀ l, H l = none → Q (.ref l) (upd H l (.lst ys))
theorem snc_list : SnC K (rListV K) bList := fun lc hd H xs as P Q al hx h q => by
  unfold bList at h
  split at h
  · obtain ⟨x, rfl, g⟩ := da1 hx
    cases g with
    | tup g1 g2 => exact ⟨_, _, rfl, .inr (same_t hide_le g1), fun l hl => q _ _ _ (same_new hl) (.lst (new_vis al hl) (g2.mono (vis_new hl))) h⟩
  · obtain ⟨x, rfl, g⟩ := da1 hx
    cases g with
    | lst g1 g2 => exact ⟨_, _, rfl, .inl (.of (hide_le _ _ g1)), fun l hl => q _ _ _ (same_new hl) (.lst (new_vis al hl) (g2.mono (vis_new hl))) h⟩
  · exact h.elim
theorem bools_v {lc : Option Addr} {H : Hp} : ∀ {ds : List D} {vs : List V} {bs : List Bool}, bools ds = some bs → DvAll K lc H vs ds → vs = bs.map V.bl
  | [], _, bs, e, h => by
    cases h
    cases (Option.some.inj e)
    rfl
  | .bool b :: r, _, bs, e, h => by
    cases h with
    | cons h1 h2 =>
      cases h1
      unfold bools at e
      cases q : bools r with
      | none => rw [q] at e; cases e
      | some cs =>
        rw [q] at e
        cases (Option.some.inj e)
        rw [bools_v q h2]
        rfl
  | .none :: _, _, _, e, _ => nomatch e
  | .int _ :: _, _, _, e, _ => nomatch e
  | .str _ :: _, _, _, e, _ => nomatch e
  | .list _ :: _, _, _, e, _ => nomatch e
  | .tuple _ :: _, _, _, e, _ => nomatch e
  | .dict _ :: _, _, _, e, _ => nomatch e
theorem snc_all : SnC K (rAll K) bAll := fun lc hd H xs as P Q al hx h q => by
  unfold bAll at h
  split at h
  · obtain ⟨bs, e, p⟩ := h
    obtain ⟨x, rfl, g⟩ := da1 hx
    cases g with
    | lst g1 g2 => exact ⟨_, bs, rfl, by rw [← bools_v e g2]; exact .of (hide_le _ _ g1), q _ _ H (Same.refl H) (.bl _) p⟩
  · exact h.elim
theorem snc_any : SnC K (rAny K) bAny := fun lc hd H xs as P Q al hx h q => by
  unfold bAny at h
  split at h
  · obtain ⟨bs, e, p⟩ := h
    obtain ⟨x, rfl, g⟩ := da1 hx
    cases g with
    | lst g1 g2 => exact ⟨_, bs, rfl, by rw [← bools_v e g2]; exact .of (hide_le _ _ g1), q _ _ H (Same.refl H) (.bl _) p⟩
  · exact h.elim
end

/-! ### isinstance(e, T), T a built-in type by its name -/
def tyD : D → Option String
  | .none => some "NoneType"
  | .bool _ => some "bool"
  | .int _ => some "int"
  | .str _ => some "str"
  | .list _ => some "list"
  | .tuple _ => some "tuple"
  | .dict _ => none
def isiD (T : String) (d : D) : Option Bool := (tyD d).bind fun s => kitB s T
def wIsi (T : String) (wa : WE) : WE := fun ρ P => wa ρ fun x ρ1 => match isiD T x with
  | some b => P (.bool b) ρ1
  | none => False
def tIsi (K : Fg) (T : String) (ta : TE) : TE := tCB (rIsi K) (tCons ta (tCons (tC (.ty T)) tNil))
section
variable {X : Cx} {K : Fg} {a b c e : Expr} {es : List Expr} {ta tb tc : TE} {wa wb wc : WE} {pos p p2 : Pos}
theorem tyx_of {lc : Option Addr} {H : Hp} {x : V} {d : D} {s : String} (hs : tyD d = some s) (h : Dv K lc H x d) : TyX K H x (.type s) := by
  cases h with
  | non => cases hs; exact .base .non
  | bl b => cases hs; exact .base (.bl b)
  | int i => cases hs; exact .base (.int i)
  | str s => cases hs; exact .base (.str s)
  | lst h _ => cases hs; exact .base (.lst h)
  | tup h _ =>
    cases hs
    rcases h with (h | ⟨o, h⟩) | ⟨o, its, n, h, c, _⟩
    · exact .base (.tup h)
    · exact .fTuple h
    · exact .kTuple h c
  | tok q => cases hs
theorem tyx_mono {H H' : Hp} {x : V} {s : String} (e : Same H H') (h : TyX K H x (.type s)) : TyX K H' x (.type s) := by
  cases h with
  | base h =>
    cases h with
    | non => exact .base .non
    | bl b => exact .base (.bl b)
    | int i => exact .base (.int i)
    | str s => exact .base (.str s)
    | flt s => exact .base (.flt s)
    | lst h => exact .base (.lst (e _ _ h))
    | frz h => exact .base (.frz (e _ _ h))
    | tup h => exact .base (.tup (e _ _ h))
    | dK h => exact .base (.dK (e _ _ h))
    | dT h => exact .base (.dT (e _ _ h))
  | byt b => exact .byt b
  | set h => exact .set (e _ _ h)
  | kList h c => exact .kList h c
  | kTuple h c => exact .kTuple h c
  | kDict h c => exact .kDict h c
  | fTuple h => exact .fTuple (e _ _ h)
  | fDict h => exact .fDict (e _ _ h)
theorem snd_isi {T : String} (ha : Snd K ta wa) : Snd K (tIsi K T ta) (wIsi T wa) := fun M σ H ρ pv pd P Q A h q => by
  refine ha M σ H ρ pv pd _ _ A h fun x dx H1 ρ1 A1 h1 => ?_
  show rIsi K [x, .ty T] H1 Q
  have A2 := A1.pop
  obtain ⟨ow, B, hp⟩ := A1
  cases hp with
  | cons gx hp =>
    unfold isiD at h1
    cases hs : tyD dx with
    | none => rw [hs] at h1; exact h1.elim
    | some s =>
      rw [hs] at h1
      cases hk : kitB s T with
      | none =>
        simp only [Option.bind, hk] at h1
      | some b =>
        simp only [Option.bind, hk] at h1
        refine ⟨x, .ty T, .type s, .type T, b, rfl, .ty T, tyx_mono hide_le (tyx_of hs gx), kit_ty hk, ?_⟩
        obtain ⟨ow, B, hp⟩ := A2
        exact q (.bl b) (.bool b) H1 ρ1 ⟨ow, B, .cons (.bl b) hp⟩ h1
theorem de_isi {y : Str} {Tn : String} (hg : Gl X "isinstance") (hm : X.mg "isinstance" = none) (ha : DE X a ta wa) (hgT : Gl X y) (hmT : X.mg y = none) (hvT : bootBuiltins y = some (.type Tn)) (hnT : y ≠ "__name__" := by decide) (hdT : (y == ("__debug__" : Str)) = false := by decide)
    (hs : starEach (a :: [.Name y p2]) X.env = (false, eval a X.env) :: starEach [.Name y p2] X.env := by rfl) (hs2 : starEach [.Name y p2] X.env = (false, eval (.Name y p2) X.env) :: starEach [] X.env := by rfl)
    (hpl : (backTo pos (starEach [.Name y p2] X.env)).any (·.1) = false := by rfl) : DE X (.Call (.Name "isinstance" p) [a, .Name y p2] [] pos) (tIsi X.K Tn ta) (wIsi Tn wa) :=
  ⟨pe_callB call_isi hg hm (by decide +kernel) (pa_cons ha.pe (pa_cons (pe_bltn hgT hmT hvT (show RelV (.ty Tn) _ from rfl) hnT hdT) pa_nil hs2) hs) (by decide) (by decide) hs hpl, snd_isi ha.sd⟩
end
end DL

namespace DL
open PySem PySem.Spec PyProof.Rows L2

/-! ## tests -/
section
variable {X : Cx} {K : Fg} {a b c e : Expr} {es rest : List Expr} {ta tb tc : TE} {wa wb wc : WE} {pos p p2 : Pos} {tt tu : TT} {wt wu : WT}
theorem snd_test (ha : Snd K ta wa) : SndT K (tTest ta) (wTest wa) := fun M σ H ρ pv pd P Q A h q => by
  refine ha M σ H ρ pv pd _ _ A h fun x dx H1 ρ1 A1 h1 => ?_
  have A2 := A1.pop
  obtain ⟨ow, B, hp⟩ := A1
  cases hp with
  | cons gx hp =>
    cases gx with
    | bl b => exact ⟨b, rfl, q b H1 ρ1 A2 h1⟩
    | _ => exact h1.elim
theorem dt_cmp {op : CmpOp} {r : R2} {w2 : D → D → (D → Prop) → Prop} (ho : OpR X (compareOp op) r) (h2 : Sn2 X.K r w2) (ha : DE X a ta wa) (hb : DE X b tb wb) (hm : behindInMarks op b = false := by first | exact nomark _ | rfl) :
    DT X (.Compare a [op] [b] pos) (tTest (tOp r ta tb)) (wTest (wBin w2 wa wb)) := ⟨pt_cmpR ho ha.pe hb.pe hm, snd_test (snd_op h2 ha.sd hb.sd)⟩
theorem tru_of {lc : Option Addr} {hd : Addr → Prop} {H : Hp} {x : V} {d : D} {b : Bool} (e : truD d = some b) (h : Dv K lc (hide hd H) x d) : TruV K x H b := by
  cases h with
  | non => cases e; rfl
  | bl b => cases e; rfl
  | int i => cases e; rfl
  | str s => cases e
  | lst h ha => cases e; exact .inl ⟨_, .of (hide_le _ _ h), by rw [ha.isEmpty]⟩
  | tup h ha => cases e; exact .inr (.inl ⟨_, same_t hide_le h, by rw [ha.isEmpty]⟩)
  | tok q => cases e
theorem snd_tru (ha : Snd K ta wa) : SndT K (fun σ H Q => ta σ H fun x H' => ∃ k, TruV K x H' k ∧ Q k H') (wTruT wa) := fun M σ H ρ pv pd P Q A h q => by
  refine ha M σ H ρ pv pd _ _ A h fun x dx H1 ρ1 A1 h1 => ?_
  have A2 := A1.pop
  obtain ⟨ow, B, hp⟩ := A1
  cases hp with
  | cons gx hp =>
    cases e : truD dx with
    | none => rw [e] at h1; exact h1.elim
    | some b =>
      rw [e] at h1
      exact ⟨b, tru_of e gx, q b H1 ρ1 A2 h1⟩
theorem dt_tru (ha : DE X a ta wa) (he : ∀ whole, isTrue a X.env whole = (do let v ← whole; standAt a.pos; holding [v] (truthy v)) := by intro _; rfl) :
    DT X a (fun σ H Q => ta σ H fun x H' => ∃ k, TruV X.K x H' k ∧ Q k H') (wTruT wa) := ⟨pt_truth ha.pe he, snd_tru ha.sd⟩
theorem snd_and (ha : SndT K tt wt) (hb : SndT K tu wu) : SndT K (tAnd tt tu) (wAnd wt wu) := fun M σ H ρ pv pd P Q A h q => by
  refine ha M σ H ρ pv pd _ _ A h fun b H1 ρ1 A1 h1 => ?_
  cases b with
  | true =>
    rw [if_pos rfl] at h1 ⊢
    exact hb M σ H1 ρ1 pv pd _ _ A1 h1 q
  | false =>
    rw [if_neg Bool.false_ne_true] at h1 ⊢
    exact q _ _ _ A1 h1
theorem snd_or (ha : SndT K tt wt) (hb : SndT K tu wu) : SndT K (tOr tt tu) (wOr wt wu) := fun M σ H ρ pv pd P Q A h q => by
  refine ha M σ H ρ pv pd _ _ A h fun b H1 ρ1 A1 h1 => ?_
  cases b with
  | true =>
    rw [if_pos rfl] at h1 ⊢
    exact q _ _ _ A1 h1
  | false =>
    rw [if_neg Bool.false_ne_true] at h1 ⊢
    exact hb M σ H1 ρ1 pv pd _ _ A1 h1 q
theorem dw_and1 (ha : DT X a tt wt) : DW X (.BoolOp .And [a] pos) tt wt := ⟨pw_and1 ha.pt, ha.sd⟩
theorem dw_or1 (ha : DT X a tt wt) : DW X (.BoolOp .Or [a] pos) tt wt := ⟨pw_or1 ha.pt, ha.sd⟩
theorem dw_and (ha : DT X a tt wt) (hb : DW X (.BoolOp .And (b :: rest) pos) tu wu) : DW X (.BoolOp .And (a :: b :: rest) pos) (tAnd tt tu) (wAnd wt wu) := ⟨pw_and ha.pt hb.pw, snd_and ha.sd hb.sd⟩
theorem dw_or (ha : DT X a tt wt) (hb : DW X (.BoolOp .Or (b :: rest) pos) tu wu) : DW X (.BoolOp .Or (a :: b :: rest) pos) (tOr tt tu) (wOr wt wu) := ⟨pw_or ha.pt hb.pw, snd_or ha.sd hb.sd⟩
theorem DW.dt (h : DW X e tt wt) : DT X e tt wt := ⟨h.pw.pt, h.sd⟩
theorem dt_not (ha : DT X a tt wt) : DT X (.UnaryOp .Not a pos) (tNot tt) (wNotT wt) := ⟨pt_not ha.pt, fun M σ H ρ pv pd P Q A h q => ha.sd M σ H ρ pv pd _ _ A h fun b H1 ρ1 A1 h1 => q _ _ _ A1 h1⟩
theorem de_if (hc : DT X c tt wt) (ha : DE X a ta wa) (hb : DE X b tb wb) : DE X (.IfExp c a b pos) (tIf tt ta tb) (wIf wt wa wb) := ⟨pe_ifExp hc.pt ha.pe hb.pe, fun M σ H ρ pv pd P Q A h q => by
  refine hc.sd M σ H ρ pv pd _ _ A h fun b H1 ρ1 A1 h1 => ?_
  cases b with
  | true =>
    rw [if_pos rfl] at h1 ⊢
    exact ha.sd M σ H1 ρ1 pv pd _ _ A1 h1 q
  | false =>
    rw [if_neg Bool.false_ne_true] at h1 ⊢
    exact hb.sd M σ H1 ρ1 pv pd _ _ A1 h1 q⟩
/-! ### and, or, not as values -/
theorem de_one {op} (ha : DE X a ta wa) : DE X (.BoolOp op [a] pos) ta wa := ⟨pe_one ha.pe, ha.sd⟩
theorem de_and (ha : DE X a ta wa) (hb : DE X (.BoolOp .And (b :: rest) pos) tb wb) : DE X (.BoolOp .And (a :: b :: rest) pos) (tAndT X.K ta tb) (wAndV wa wb) := ⟨pe_andT ha.pe hb.pe, fun M σ H ρ pv pd P Q A h q => by
  refine ha.sd M σ H ρ pv pd _ _ A h fun x dx H1 ρ1 A1 h1 => ?_
  have A2 := A1.pop
  obtain ⟨ow, B, hp⟩ := A1
  cases hp with
  | cons gx hp =>
    cases e : truD dx with
    | none => simp only [e] at h1
    | some k =>
      refine ⟨k, tru_of e gx, ?_⟩
      cases k with
      | true =>
        simp only [e] at h1
        rw [if_pos rfl]
        exact hb.sd M σ H1 ρ1 pv pd _ _ A2 h1 q
      | false =>
        simp only [e] at h1
        rw [if_neg Bool.false_ne_true]
        exact q _ _ _ _ ⟨ow, B, .cons gx hp⟩ h1⟩
theorem de_or (ha : DE X a ta wa) (hb : DE X (.BoolOp .Or (b :: rest) pos) tb wb) : DE X (.BoolOp .Or (a :: b :: rest) pos) (tOrT X.K ta tb) (wOrV wa wb) := ⟨pe_orT ha.pe hb.pe, fun M σ H ρ pv pd P Q A h q => by
  refine ha.sd M σ H ρ pv pd _ _ A h fun x dx H1 ρ1 A1 h1 => ?_
  have A2 := A1.pop
  obtain ⟨ow, B, hp⟩ := A1
  cases hp with
  | cons gx hp =>
    cases e : truD dx with
    | none => simp only [e] at h1
    | some k =>
      refine ⟨k, tru_of e gx, ?_⟩
      cases k with
      | true =>
        simp only [e] at h1
        rw [if_pos rfl]
        exact q _ _ _ _ ⟨ow, B, .cons gx hp⟩ h1
      | false =>
        simp only [e] at h1
        rw [if_neg Bool.false_ne_true]
        exact hb.sd M σ H1 ρ1 pv pd _ _ A2 h1 q⟩
theorem de_not (ha : DE X a ta wa) : DE X (.UnaryOp .Not a pos) (tNotT X.K ta) (wNotV wa) := ⟨pe_notT ha.pe, fun M σ H ρ pv pd P Q A h q => by
  refine ha.sd M σ H ρ pv pd _ _ A h fun x dx H1 ρ1 A1 h1 => ?_
  have A2 := A1.pop
  obtain ⟨ow, B, hp⟩ := A1
  cases hp with
  | cons gx hp =>
    cases e : truD dx with
    | none => simp only [e] at h1
    | some k =>
      simp only [e] at h1
      obtain ⟨ow, B, hp⟩ := A2
      exact ⟨k, tru_of e gx, q _ _ _ _ ⟨ow, B, .cons (.bl _) hp⟩ h1⟩⟩
theorem snd_chain {r r' : R2} {w1 w2 : D → D → (D → Prop) → Prop} (h1 : Sn2 K r w1) (h2 : Sn2 K r' w2) (ha : Snd K ta wa) (hb : Snd K tb wb) (hc : Snd K tc wc) : Snd K (tChain r r' ta tb tc) (wChain w1 w2 wa wb wc) := fun M σ H ρ pv pd P Q A h q => by
  refine ha M σ H ρ pv pd _ _ A h fun x dx H1 ρ1 A1 q1 => ?_
  refine hb M σ H1 ρ1 _ _ _ _ A1 q1 fun y dy H2 ρ2 A2 q2 => ?_
  obtain ⟨ow, B, hp⟩ := A2
  cases hp with
  | cons gy hp =>
    cases hp with
    | cons gx hp =>
      refine h1 M.lc (hdO M ow) H2 x y dx dy _ _ B.hall gx gy q2 fun z dz H3 e gz p => ?_
      have A3 : At K M σ H3 ρ2 (y :: pv) (dy :: pd) := ⟨ow, B.step (.of e) (B.cok.mono e), (DvAll.cons gy hp).mono (B.vis (.of e))⟩
      cases gz with
      | bl k =>
        refine ⟨k, rfl, ?_⟩
        cases k with
        | true =>
          rw [if_pos rfl]
          refine hc M σ H3 ρ2 _ _ _ _ A3 p fun u du H4 ρ3 A4 q4 => ?_
          obtain ⟨ow4, B4, hp4⟩ := A4
          cases hp4 with
          | cons gu hp4 =>
            cases hp4 with
            | cons gy4 hp4 =>
              refine h2 M.lc (hdO M ow4) H4 y u dy du _ _ B4.hall gy4 gu q4 fun v d H' e g p => ?_
              exact q v d H' ρ3 ⟨ow4, B4.step (.of e) (B4.cok.mono e), .cons g (hp4.mono (B4.vis (.of e)))⟩ p
        | false =>
          rw [if_neg Bool.false_ne_true]
          obtain ⟨ow3, B3, hp3⟩ := A3.pop
          exact q _ _ _ _ ⟨ow3, B3, .cons (.bl _) hp3⟩ p
      | _ => exact p.elim
theorem de_chain {op op' : CmpOp} {r r' : R2} {w1 w2 : D → D → (D → Prop) → Prop} (ho : OpR X (compareOp op) r) (h1 : Sn2 X.K r w1) (ho' : OpR X (compareOp op') r') (h2 : Sn2 X.K r' w2) (ha : DE X a ta wa) (hb : DE X b tb wb) (hc : DE X c tc wc)
    (hm : lastMarks [op, op'] [b, c] = false := by with_unfolding_all rfl) : DE X (.Compare a [op, op'] [b, c] pos) (tChain r r' ta tb tc) (wChain w1 w2 wa wb wc) := ⟨pe_chain ho ho' ha.pe hb.pe hc.pe hm, snd_chain h1 h2 ha.sd hb.sd hc.sd⟩
theorem dt_chain {op op' : CmpOp} {r r' : R2} {w1 w2 : D → D → (D → Prop) → Prop} (ho : OpR X (compareOp op) r) (h1 : Sn2 X.K r w1) (ho' : OpR X (compareOp op') r') (h2 : Sn2 X.K r' w2) (ha : DE X a ta wa) (hb : DE X b tb wb) (hc : DE X c tc wc)
    (hm : lastMarks [op, op'] [b, c] = false := by with_unfolding_all rfl) : DT X (.Compare a [op, op'] [b, c] pos) (tTest (tChain r r' ta tb tc)) (wTest (wChain w1 w2 wa wb wc)) := ⟨pt_chain ho ho' ha.pe hb.pe hc.pe hm, snd_test (snd_chain h1 h2 ha.sd hb.sd hc.sd)⟩
end

/-! ## lists that are made -/
def Amb.plus (M : Amb) (p : Addr) (ds : List D) : Amb := { M with gh := (p, ds) :: M.gh }
abbrev WF := Rho → (List D → Rho → Prop) → Prop
/-- a new list that nobody else holds -/
def SndF (K : Fg) (t : TE) (w : WF) : Prop := ∀ (M : Amb) (σ : L2.St) (H : Hp) (ρ : Rho) (pv : List V) (pd : List D) (P : List D → Rho → Prop) (Q : VK),
  At K M σ H ρ pv pd → w ρ P → (∀ p ds H' ρ', At K (M.plus p ds) σ H' ρ' pv pd → P ds ρ' → Q (.ref p) H') → t σ H Q
structure DF (X : Cx) (e : Expr) (t : TE) (w : WF) : Prop where
  pe : PE X e t
  sd : SndF X.K t w
section
variable {X : Cx} {K : Fg} {M : Amb} {H H' : Hp} {σ : L2.St} {ρ : Rho} {pv : List V} {pd : List D} {ow : Nat → Option Addr} {p : Addr} {ds : List D}
theorem hdO_plus {b : Addr} (h : hdO M ow b) : hdO (M.plus p ds) ow b := by
  rcases h with h | h | ⟨es, h⟩
  · exact .inl h
  · exact .inr (.inl h)
  · exact .inr (.inr ⟨es, List.mem_cons_of_mem _ h⟩)
theorem hdO_minus {b : Addr} (h : hdO (M.plus p ds) ow b) : hdO M ow b ∨ b = p := by
  rcases h with h | h | ⟨es, h⟩
  · exact .inl (.inl h)
  · exact .inl (.inr (.inl h))
  · rcases List.mem_cons.mp h with e | h
    · cases e; exact .inr rfl
    · exact .inl (.inr (.inr ⟨es, h⟩))
theorem vis_minus : Same (hide (hdO (M.plus p ds) ow) H) (hide (hdO M ow) H) := hide_same fun b o n h => ⟨fun z => n (hdO_plus z), h⟩
/-- a list that is made is seen from now on -/
theorem AtW.minus (A : AtW K (M.plus p ds) σ H ρ ow) : AtW K M σ H ρ ow where
  evo := A.evo
  cok := A.cok
  sub := A.sub
  all := A.all
  len := A.len
  val := fun i d h => by
    obtain ⟨v, h1, h2⟩ := A.val i d h
    exact ⟨v, h1, h2.mono vis_minus⟩
  own := fun i ds h => by
    obtain ⟨p, xs, h1, h2, h3, h4⟩ := A.own i ds h
    exact ⟨p, xs, h1, h2, h3, h4.mono vis_minus⟩
  fre := A.fre
  inj := A.inj
  gho := fun q es h => by
    obtain ⟨h1, h2, xs, h3, h4⟩ := A.gho q es (List.mem_cons_of_mem _ h)
    exact ⟨h1, h2, xs, h3, h4.mono vis_minus⟩
  gnd := by
    have := A.gnd
    exact (List.nodup_cons.mp this).2
theorem At.free (A : At K (M.plus p ds) σ H ρ pv pd) : At K M σ H ρ (.ref p :: pv) (.list ds :: pd) := by
  obtain ⟨ow, A, h⟩ := A
  obtain ⟨h1, h2, xs, h3, h4⟩ := A.gho p ds (List.mem_cons_self ..)
  have np : ¬ hdO M ow p := fun z => by
    rcases z with z | ⟨i, z⟩ | ⟨es, z⟩
    · exact A.ne h1 z
    · exact h2 i z
    · have := (List.nodup_cons.mp A.gnd).1
      exact this (List.mem_map_of_mem (f := (·.1)) z)
  exact ⟨ow, A.minus, .cons (.lst (hide_some.mpr ⟨np, h3⟩) (h4.mono vis_minus)) (h.mono vis_minus)⟩
theorem AtW.plus {xs : List V} (A : AtW K M σ H ρ ow) (hp : H p = none) (h0 : M.H0 p = none) (g : DvAll K M.lc (hide (hdO M ow) H) xs ds) : AtW K (M.plus p ds) σ (upd H p (.lst xs)) ρ ow := by
  have e : Same H (upd H p (.lst xs)) := same_new hp
  have vis : Same (hide (hdO M ow) H) (hide (hdO (M.plus p ds) ow) (upd H p (.lst xs))) := hide_same fun b o n h => ⟨fun z => by
    rcases hdO_minus z with z | z
    · exact n z
    · subst z
      exact absurd h (by rw [hp]; exact fun z => nomatch z), e b o h⟩
  exact {
    evo := A.evo.trans (.of e)
    cok := A.cok.mono e
    sub := A.sub
    all := A.all
    len := A.len
    val := fun i d h => by
      obtain ⟨v, h1, h2⟩ := A.val i d h
      exact ⟨v, h1, h2.mono vis⟩
    own := fun i ds h => by
      obtain ⟨p, xs, h1, h2, h3, h4⟩ := A.own i ds h
      exact ⟨p, xs, h1, h2, e _ _ h3, h4.mono vis⟩
    fre := fun i q h => by
      obtain ⟨h1, xs, h2⟩ := A.fre i q h
      exact ⟨h1, xs, e q _ h2⟩
    inj := A.inj
    gho := fun q es h => by
      rcases List.mem_cons.mp h with z | z
      · cases z
        exact ⟨h0, (fun i hi => by
          obtain ⟨_, ys, h⟩ := A.fre i p hi
          rw [hp] at h
          exact nomatch h), xs, upd_same, g.mono vis⟩
      · obtain ⟨h1, h2, xs, h3, h4⟩ := A.gho q es z
        exact ⟨h1, h2, xs, e _ _ h3, h4.mono vis⟩
    gnd := List.nodup_cons.mpr ⟨fun z => by
      obtain ⟨⟨q, es⟩, h1, h2⟩ := List.mem_map.mp z
      cases h2
      obtain ⟨_, _, xs, h3, _⟩ := A.gho p es h1
      exact absurd h3 (by rw [hp]; exact fun z => nomatch z), A.gnd⟩ }
theorem AtW.none0 (A : AtW K M σ H ρ ow) (hp : H p = none) : M.H0 p = none := by
  cases q : M.H0 p with
  | none => rfl
  | some o =>
    by_cases hl : M.lc = some p
    · obtain ⟨⟨_, _, _, _, _, g, _⟩, _⟩ := A.cok p hl
      rw [hp] at g; cases g
    · rw [A.evo p o hl q] at hp; cases hp
theorem At.plus {vs : List V} (A : At K M σ H ρ (vs ++ pv) (ds ++ pd)) (hl : vs.length = ds.length) (hp : H p = none) : At K (M.plus p ds) σ (upd H p (.lst vs)) ρ pv pd := by
  obtain ⟨ow, A, h⟩ := A
  obtain ⟨g1, g2⟩ := DvAll.split hl h
  refine ⟨ow, A.plus hp (A.none0 hp) g1, g2.mono (hide_same fun b o n h => ⟨fun z => ?_, same_new hp b o h⟩)⟩
  rcases hdO_minus z with z | z
  · exact n z
  · subst z
    rw [hp] at h; cases h
theorem DF.de {e : Expr} {t : TE} {w : WF} (h : DF X e t w) : DE X e t (fun ρ P => w ρ fun ds ρ1 => P (.list ds) ρ1) := ⟨h.pe, fun M σ H ρ pv pd P Q A hw q => h.sd M σ H ρ pv pd _ _ A hw fun p ds H' ρ' A' hP => q _ _ _ _ A'.free hP⟩
def owOn (ow : Nat → Option Addr) (i : Nat) (p : Addr) : Nat → Option Addr := fun j => if j = i then some p else ow j
theorem owOn_same {ow : Nat → Option Addr} {i : Nat} {p : Addr} : owOn ow i p i = some p := by simp [owOn]
theorem owOn_ne {ow : Nat → Option Addr} {i j : Nat} {p : Addr} (h : j ≠ i) : owOn ow i p j = ow j := by simp [owOn, h]
/-- the list that is made goes to slot i -/
theorem AtW.keep (A : AtW K (M.plus p ds) σ H ρ ow) (i : Nat) : AtW K M (σ.set i (some (.ref p))) H (DL.put ρ i (.own ds)) (owOn ow i p) := by
  obtain ⟨h1, h2, xs, h3, h4⟩ := A.gho p ds (List.mem_cons_self ..)
  have ne1 : ∀ j, j ≠ i → (owOn ow i p) j = ow j := fun j hj => owOn_ne hj
  have eq1 : (owOn ow i p) i = some p := owOn_same
  have vis : Same (hide (hdO (M.plus p ds) ow) H) (hide (hdO M (owOn ow i p)) H) := hide_same fun b o n h => ⟨fun z => by
    rcases z with z | ⟨j, z⟩ | ⟨es, z⟩
    · exact n (.inl z)
    · by_cases hj : j = i
      · subst hj
        rw [owOn_same] at z
        cases z
        exact n (.inr (.inr ⟨ds, List.mem_cons_self ..⟩))
      · rw [owOn_ne hj] at z
        exact n (.inr (.inl ⟨j, z⟩))
    · exact n (.inr (.inr ⟨es, List.mem_cons_of_mem _ z⟩)), h⟩
  exact {
    evo := A.evo
    cok := A.cok
    sub := A.sub
    all := A.all
    len := by rw [List.length_set, put_length]; exact A.len
    val := fun j d hj => by
      by_cases hji : j = i
      · subst hji
        rcases look_put ρ j (.own ds) with z | z <;> (rw [z] at hj; cases hj)
      · rw [look_put_ne _ _ _ _ hji] at hj
        obtain ⟨u, g1, g2⟩ := A.val j d hj
        exact ⟨u, by rw [List.getElem?_set_ne (fun z => hji z.symm)]; exact g1, g2.mono vis⟩
    own := fun j es hj => by
      by_cases hji : j = i
      · subst hji
        have hlt : j < σ.length := by
          rw [A.len]
          have := look_lt _ j (show look (DL.put ρ j (.own ds)) j ≠ .un by rw [hj]; exact fun z => nomatch z)
          rwa [put_length] at this
        rcases look_put ρ j (.own ds) with z | z
        · rw [z] at hj
          cases hj
          exact ⟨p, xs, eq1, List.getElem?_set_self hlt, h3, h4.mono vis⟩
        · rw [z] at hj; cases hj
      · rw [look_put_ne _ _ _ _ hji] at hj
        obtain ⟨p', xs', g1, g2, g3, g4⟩ := A.own j es hj
        exact ⟨p', xs', by rw [ne1 j hji]; exact g1, by rw [List.getElem?_set_ne (fun z => hji z.symm)]; exact g2, g3, g4.mono vis⟩
    fre := fun j q hj => by
      by_cases hji : j = i
      · subst hji
        rw [owOn_same] at hj
        cases hj
        exact ⟨h1, xs, h3⟩
      · rw [ne1 j hji] at hj
        exact A.fre j q hj
    inj := fun j k q hj hk => by
      by_cases hji : j = i
      · subst hji
        rw [owOn_same] at hj
        cases hj
        by_cases hki : k = j
        · exact hki.symm
        · rw [ne1 k hki] at hk
          exact absurd hk (h2 k)
      · rw [ne1 j hji] at hj
        by_cases hki : k = i
        · subst hki
          rw [owOn_same] at hk
          cases hk
          exact absurd hj (h2 j)
        · rw [ne1 k hki] at hk
          exact A.inj j k q hj hk
    gho := fun q es h => by
      obtain ⟨g1, g2, ys, g3, g4⟩ := A.gho q es (List.mem_cons_of_mem _ h)
      refine ⟨g1, fun j hj => ?_, ys, g3, g4.mono vis⟩
      by_cases hji : j = i
      · subst hji
        rw [owOn_same] at hj
        cases hj
        exact (List.nodup_cons.mp A.gnd).1 (List.mem_map_of_mem (f := (·.1)) h)
      · rw [ne1 j hji] at hj
        exact g2 j hj
    gnd := (List.nodup_cons.mp A.gnd).2 }
theorem At.keep (A : At K (M.plus p ds) σ H ρ pv pd) (i : Nat) : At K M (σ.set i (some (.ref p))) H (DL.put ρ i (.own ds)) pv pd := by
  obtain ⟨ow, A, h⟩ := A
  refine ⟨_, A.keep i, h.mono (hide_same fun b o n h => ⟨fun z => ?_, h⟩)⟩
  rcases z with z | ⟨j, z⟩ | ⟨es, z⟩
  · exact n (.inl z)
  · by_cases hj : j = i
    · subst hj
      rw [owOn_same] at z
      cases z
      exact n (.inr (.inr ⟨ds, List.mem_cons_self ..⟩))
    · rw [owOn_ne hj] at z
      exact n (.inr (.inl ⟨j, z⟩))
  · exact n (.inr (.inr ⟨es, List.mem_cons_of_mem _ z⟩))
end
section
variable {X : Cx} {K : Fg} {a b c e : Expr} {es : List Expr} {ta tb : TE} {wa wb : WE} {t : TA} {wr : WA} {pos p p2 : Pos}
def wFLst (wa : WA) : WF := fun ρ P => wa ρ fun ds ρ1 => ds.length ≤ 100000 ∧ P ds ρ1
theorem df_lst (h : DA X es t wr) : DF X (.List es pos) (tLst t) (wFLst wr) := ⟨pe_lst h.pa, fun M σ H ρ pv pd P Q A hw q => by
  refine h.sd M σ H ρ pv pd _ _ A hw fun vs ds H1 ρ1 hl A1 h1 => ⟨by rw [hl]; exact size_ok h1.1, fun p hp => ?_⟩
  exact q p ds _ ρ1 (A1.plus hl hp) h1.2⟩
/-- an operation whose answer is a new list -/
def SnF2 (K : Fg) (r : R2) (w : D → D → (List D → Prop) → Prop) : Prop := ∀ (lc : Option Addr) (hd : Addr → Prop) (H : Hp) (x y : V) (a b : D) (P : List D → Prop) (Q : VK),
  (∀ p, hd p → H p ≠ none) → Dv K lc (hide hd H) x a → Dv K lc (hide hd H) y b → w a b P → (∀ xs ds p, DvAll K lc (hide hd H) xs ds → H p = none → P ds → Q (.ref p) (upd H p (.lst xs))) → r x y H Q
def SnFC (K : Fg) (r : List V → Hp → VK → Prop) (w : List D → (List D → Prop) → Prop) : Prop := ∀ (lc : Option Addr) (hd : Addr → Prop) (H : Hp) (xs : List V) (as : List D) (P : List D → Prop) (Q : VK),
  (∀ p, hd p → H p ≠ none) → DvAll K lc (hide hd H) xs as → w as P → (∀ ys ds p, DvAll K lc (hide hd H) ys ds → H p = none → P ds → Q (.ref p) (upd H p (.lst ys))) → r xs H Q
def wFBin (w2 : D → D → (List D → Prop) → Prop) (wa wb : WE) : WF := fun ρ P => wa ρ fun x ρ1 => wb ρ1 fun y ρ2 => w2 x y fun ds => P ds ρ2
def wFB (wc : List D → (List D → Prop) → Prop) (wa : WA) : WF := fun ρ P => wa ρ fun ds ρ1 => wc ds fun es => P es ρ1
theorem sndF_op {r : R2} {w2 : D → D → (List D → Prop) → Prop} (h2 : SnF2 K r w2) (ha : Snd K ta wa) (hb : Snd K tb wb) : SndF K (tOp r ta tb) (wFBin w2 wa wb) := fun M σ H ρ pv pd P Q A h q => by
  refine ha M σ H ρ pv pd _ _ A h fun x dx H1 ρ1 A1 h1 => ?_
  refine hb M σ H1 ρ1 _ _ _ _ A1 h1 fun y dy H2 ρ2 A2 h2' => ?_
  obtain ⟨ow, B, hp⟩ := A2
  cases hp with
  | cons gy hp =>
    cases hp with
    | cons gx hp =>
      refine h2 M.lc (hdO M ow) H2 x y dx dy _ _ B.hall gx gy h2' fun xs ds p g hn pp => ?_
      exact q p ds _ ρ2 (At.plus ⟨ow, B, g.app hp⟩ g.length hn) pp
theorem sndF_b {r : List V → Hp → VK → Prop} {wc : List D → (List D → Prop) → Prop} (hsn : SnFC K r wc) (h : SndA K t wr) : SndF K (tCB r t) (wFB wc wr) := fun M σ H ρ pv pd P Q A hw q => by
  refine h M σ H ρ pv pd _ _ A hw fun vs ds H1 ρ1 hl A1 h1 => ?_
  obtain ⟨ow, B, hp⟩ := A1
  obtain ⟨g1, g2⟩ := DvAll.split hl hp
  refine hsn M.lc (hdO M ow) H1 vs ds _ _ B.hall g1 h1 fun ys es p g hn pp => ?_
  exact q p es _ ρ1 (At.plus ⟨ow, B, g.app g2⟩ g.length hn) pp
def fRep : D → D → (List D → Prop) → Prop
  | .list a, .int k, P => -(2 ^ 63) ≤ k ∧ k < 2 ^ 63 ∧ a.length * k.toNat ≤ 100000 ∧ P (List.replicate k.toNat a).flatten
  | _, _, _ => False
theorem snf_rep : SnF2 K rRep fRep := fun lc hd H x y a b P Q al hx hy h q => by
  unfold fRep at h
  split at h
  · cases hy
    cases hx with
    | lst g1 g2 => exact ⟨_, _, _, rfl, rfl, hide_le _ _ g1, h.1, h.2.1, by rw [g2.length]; exact size_ok h.2.2.1, fun p hp => q _ _ p (Vrep g2 _) hp h.2.2.2⟩
  · exact h.elim
theorem df_rep (ha : DE X a ta wa) (hb : DE X b tb wb) : DF X (.BinOp a .Mult b pos) (tOp rRep ta tb) (wFBin fRep wa wb) := ⟨pe_op op_rep ha.pe hb.pe, sndF_op snf_rep ha.sd hb.sd⟩
def fList : List D → (List D → Prop) → Prop
  | [.tuple ds], P => P ds
  | [.list ds], P => P ds
  | _, _ => False
theorem snf_list : SnFC K (rListV K) fList := fun lc hd H xs as P Q al hx h q => by
  unfold fList at h
  split at h
  · obtain ⟨x, rfl, g⟩ := da1 hx
    cases g with
    | tup g1 g2 => exact ⟨_, _, rfl, .inr (same_t hide_le g1), fun l hl => q _ _ l g2 hl h⟩
  · obtain ⟨x, rfl, g⟩ := da1 hx
    cases g with
    | lst g1 g2 => exact ⟨_, _, rfl, .inl (.of (hide_le _ _ g1)), fun l hl => q _ _ l g2 hl h⟩
  · exact h.elim
theorem df_list (hg : Gl X "list") (hm : X.mg "list" = none) (ha : DA X (e :: es) t wr) (he : starEach (e :: es) X.env = (false, eval e X.env) :: starEach es X.env := by rfl) (hpl : (backTo pos (starEach es X.env)).any (·.1) = false := by rfl) :
    DF X (.Call (.Name "list" p) (e :: es) [] pos) (tCB (rListV X.K) t) (wFB fList wr) := ⟨pe_callTy call_list_of hg hm (by decide +kernel) ha.pa (by decide) (by decide) he hpl, sndF_b snf_list ha.sd⟩
end
end DL

namespace DL
open PySem PySem.Spec PyProof.Rows L2

/-! ## targets -/
abbrev WG := D → Rho → (Rho → Prop) → Prop
abbrev WGs := List D → Rho → (Rho → Prop) → Prop
def SndG (K : Fg) (g : TG) (w : WG) : Prop := ∀ (M : Amb) (σ : L2.St) (H : Hp) (ρ : Rho) (pv : List V) (pd : List D) (v : V) (d : D) (P : Rho → Prop) (Q : L2.St → Hp → Prop),
  At K M σ H ρ (v :: pv) (d :: pd) → w d ρ P → (∀ σ' H' ρ', At K M σ' H' ρ' pv pd → P ρ' → Q σ' H') → g v σ H Q
def SndGs (K : Fg) (g : TGs) (w : WGs) : Prop := ∀ (M : Amb) (σ : L2.St) (H : Hp) (ρ : Rho) (pv : List V) (pd : List D) (vs : List V) (ds : List D) (P : Rho → Prop) (Q : L2.St → Hp → Prop),
  vs.length = ds.length → At K M σ H ρ (vs ++ pv) (ds ++ pd) → w ds ρ P → (∀ σ' H' ρ', At K M σ' H' ρ' pv pd → P ρ' → Q σ' H') → g vs σ H Q
structure DG (X : Cx) (e : Expr) (g : TG) (w : WG) : Prop where
  pg : PG X e g
  sd : SndG X.K g w
structure DGs (X : Cx) (es : List Expr) (g : TGs) (w : WGs) : Prop where
  pg : PGs X es g
  sd : SndGs X.K g w
def wgName (i : Nat) : WG := fun d ρ P => P (put ρ i (.val d))
def wgNil : WGs := fun ds ρ P => ds = [] ∧ P ρ
def wgCons (w : WG) (u : WGs) : WGs := fun ds ρ P => match ds with
  | d :: r => w d ρ fun ρ1 => u r ρ1 P
  | [] => False
def wgTup (n : Nat) (u : WGs) : WG := fun d ρ P => match d with
  | .tuple ds => ds.length = n ∧ u ds ρ P
  | _ => False
section
variable {X : Cx} {K : Fg} {e : Expr} {es : List Expr} {pos : Pos} {g : TG} {gs : TGs} {w : WG} {u : WGs}
theorem sndg_name (i : Nat) : SndG K (gName i) (wgName i) := fun M σ H ρ pv pd v d P Q A h q => q _ _ _ (A.put i rfl rfl) h
theorem dg_name {i : Nat} {x : Str} (hN : X.N.Nodup) (hi : X.N[i]? = some x := by rfl) (hx : Loc X.env.scope x := by first | exact .inl rfl | exact .inr rfl) (hf : X.fn x = true ∨ X.env.scope.names.lookup x = some .local := by first | exact .inl rfl | exact .inr rfl | assumption) : DG X (.Name x pos) (gName i) (wgName i) := ⟨pg_name hN hi hx hf, sndg_name i⟩
theorem dgs_nil : DGs X [] gNil wgNil := ⟨pgs_nil, fun M σ H ρ pv pd vs ds P Q hl A h q => by
  obtain ⟨rfl, h⟩ := h
  have : vs = [] := List.eq_nil_of_length_eq_zero hl
  subst this
  exact ⟨rfl, q _ _ _ A h⟩⟩
theorem dgs_cons (h1 : DG X e g w) (h2 : DGs X es gs u) (hc : (assignEach (e :: es) X.env).map (·.2) = assign e X.env :: (assignEach es X.env).map (·.2) := by rfl) : DGs X (e :: es) (gCons g gs) (wgCons w u) := ⟨pgs_cons h1.pg h2.pg hc, fun M σ H ρ pv pd vs ds P Q hl A h q => by
  cases ds with
  | nil => exact h.elim
  | cons d ds =>
    cases vs with
    | nil => cases hl
    | cons v vs =>
      refine ⟨v, vs, rfl, h1.sd M σ H ρ (vs ++ pv) (ds ++ pd) v d _ _ A h fun σ' H' ρ' A' h' => ?_⟩
      exact h2.sd M σ' H' ρ' pv pd vs ds _ _ (by simpa using hl) A' h' q⟩
theorem dg_tup {n k : Nat} (hc : X.calm = true) (h : DGs X es gs u) (hn : (assignEach es X.env).length = n := by rfl) (hst : (assignEach es X.env).findIdx? (·.1) = none := by rfl) : DG X (.Tuple es k pos) (gTup X.K n gs) (wgTup n u) := ⟨pg_tup hc h.pg hn hst, fun M σ H ρ pv pd v d P Q A hw q => by
  cases d <;> first | exact hw.elim | skip
  obtain ⟨ow, B, hp⟩ := A
  cases hp with
  | cons g1 hp =>
    cases g1 with
    | tup g1 g2 =>
      exact ⟨_, _, rfl, same_t hide_le g1, by rw [g2.length]; exact hw.1, h.sd M σ H ρ pv pd _ _ _ _ g2.length ⟨ow, B, g2.app hp⟩ hw.2 q⟩⟩
end

/-! ## statements -/
structure DEnds where
  nx : Rho → Prop
  rt : D → Prop
  bk : Rho → Prop := fun _ => False
  ct : Rho → Prop := fun _ => False
abbrev WS := DEnds → Rho → Prop
structure Fin (K : Fg) (M : Amb) (pv : List V) (pd : List D) (DD : DEnds) (HD : Ends) : Prop where
  nx : ∀ σ H ρ, At K M σ H ρ pv pd → DD.nx ρ → HD.nx σ H
  rt : ∀ v d H, Evo M.lc M.H0 H → Cok K M.lc M.hc H → Dv K M.lc (hide M.hd H) v d → DD.rt d → HD.rt v H
  bk : ∀ σ H ρ, At K M σ H ρ pv pd → DD.bk ρ → HD.bk σ H
  ct : ∀ σ H ρ, At K M σ H ρ pv pd → DD.ct ρ → HD.ct σ H
def SndS (K : Fg) (t : TS) (w : WS) : Prop := ∀ (M : Amb) (σ : L2.St) (H : Hp) (ρ : Rho) (pv : List V) (pd : List D) (DD : DEnds) (HD : Ends),
  At K M σ H ρ pv pd → w DD ρ → Fin K M pv pd DD HD → t HD σ H
structure DS (X : Cx) (st : Stmt) (t : TS) (w : WS) : Prop where
  ps : PS X st t
  sd : SndS X.K t w
structure DSs (X : Cx) (sts : List Stmt) (t : TS) (w : WS) : Prop where
  ps : PSs X sts t
  sd : SndS X.K t w
def wNext : WS := fun DD ρ => DD.nx ρ
def wSeq (w u : WS) : WS := fun DD ρ => w { DD with nx := u DD } ρ
def wAsg (wa : WE) (wg : WG) : WS := fun DD ρ => wa ρ fun d ρ1 => wg d ρ1 DD.nx
def wKeep (i : Nat) (wf : WF) : WS := fun DD ρ => wf ρ fun ds ρ1 => DD.nx (put ρ1 i (.own ds))
def wDrop (wa : WE) : WS := fun DD ρ => wa ρ fun _ ρ1 => DD.nx ρ1
def wRet (wa : WE) : WS := fun DD ρ => wa ρ fun d _ => DD.rt d
def wRetN : WS := fun DD _ => DD.rt .none
def wIfS (wt : WT) (w u : WS) : WS := fun DD ρ => wt ρ fun b ρ1 => if b = true then w DD ρ1 else u DD ρ1
def wBreak : WS := fun DD ρ => DD.bk ρ
def wCont : WS := fun DD ρ => DD.ct ρ
def wNever : WS := fun _ _ => False
def wPar (i j : Nat) (wa : WA) : WS := fun DD ρ => wa ρ fun ds ρ1 => match ds with
  | [a, b] => DD.nx (put (put ρ1 i (.val a)) j (.val b))
  | _ => False
def wAug (i : Nat) (w2 : D → D → (D → Prop) → Prop) (wa : WE) : WS := fun DD ρ => match look ρ i with
  | .val x => wa ρ fun y ρ1 => w2 x y fun z => DD.nx (put ρ1 i (.val z))
  | _ => False
def wWhile (wt : WT) (wb : WS) : WS := fun DD ρ => ∃ (I : Rho → Prop) (μ : Rho → Nat), I ρ ∧ ∀ ρ, I ρ → wt ρ fun b ρ1 => if b = true then
  wb { DD with nx := fun ρ' => I ρ' ∧ μ ρ' < μ ρ, ct := fun ρ' => I ρ' ∧ μ ρ' < μ ρ, bk := DD.nx } ρ1 else DD.nx ρ1
/-- a loop over the items of a list or a tuple -/
def wForD (ds : List D) (wg : WG) (wb : WS) : WS := fun DD ρ => ∃ I : Nat → Rho → Prop, I 0 ρ ∧ (∀ i x ρ, ds[i]? = some x → I i ρ → wg x ρ fun ρ1 => wb { DD with nx := I (i + 1), ct := I (i + 1), bk := DD.nx } ρ1) ∧ ∀ ρ, I ds.length ρ → DD.nx ρ
def wFor (wI : Rho → (List D → Rho → Prop) → Prop) (wg : WG) (wb : WS) : WS := fun DD ρ => wI ρ fun ds ρ1 => wForD ds wg wb DD ρ1
def SrcOk (K : Fg) (J : It) (v : V) (d : D) (ds : List D) : Prop := ∀ (M : Amb) (σ : L2.St) (H : Hp) (ρ : Rho) (pv : List V) (pd : List D), At K M σ H ρ (v :: pv) (d :: pd) →
  (∀ i (hi : i < ds.length), J.go i H ∧ ∀ x H', J.yld i H x H' → At K M σ H' ρ (x :: v :: pv) (ds[i] :: d :: pd)) ∧ J.stop ds.length H
abbrev WI := Rho → (List D → Rho → Prop) → Prop
def SndI (K : Fg) (wi : TI) (w : WI) : Prop := ∀ (M : Amb) (σ : L2.St) (H : Hp) (ρ : Rho) (pv : List V) (pd : List D) (P : List D → Rho → Prop) (R : It → Hp → Prop),
  At K M σ H ρ pv pd → w ρ P → (∀ J H1 ρ1 v d ds, At K M σ H1 ρ1 (v :: pv) (d :: pd) → SrcOk K J v d ds → P ds ρ1 → R J H1) → wi σ H R
structure DI (X : Cx) (tg iter : Expr) (wi : TI) (w : WI) : Prop where
  pi : PI X tg iter wi
  sd : SndI X.K wi w
def wiTup (wa : WE) : WI := fun ρ P => wa ρ fun d ρ1 => match d with
  | .tuple ds => P ds ρ1
  | _ => False
def wiLst (wa : WE) : WI := fun ρ P => wa ρ fun d ρ1 => match d with
  | .list ds => P ds ρ1
  | _ => False
def rngOk (j : Int) : Prop := -(2 ^ 62) ≤ j ∧ j < 2 ^ 62
def rngD (lo : Int) (n : Nat) : List D := (List.range n).map fun k => .int (lo + (k : Nat))
theorem rngD_len (lo : Int) (n : Nat) : (rngD lo n).length = n := by simp [rngD]
theorem rngD_get {lo : Int} {n i : Nat} {x : D} (h : (rngD lo n)[i]? = some x) : i < n ∧ x = .int (lo + (i : Nat)) := by
  unfold rngD at h
  rw [List.getElem?_map] at h
  cases q : (List.range n)[i]? with
  | none => rw [q] at h; cases h
  | some k =>
    rw [q] at h
    obtain ⟨h1, h2⟩ := List.getElem?_eq_some_iff.mp q
    simp at h1 h2
    cases h
    exact ⟨h1, by rw [h2]⟩
def wiR1 (wa : WA) : WI := fun ρ P => wa ρ fun ds ρ1 => match ds with
  | [.int j] => rngOk j ∧ P (rngD 0 j.toNat) ρ1
  | _ => False
def wiR2 (wa : WA) : WI := fun ρ P => wa ρ fun ds ρ1 => match ds with
  | [.int i, .int j] => rngOk i ∧ rngOk j ∧ P (rngD i (j - i).toNat) ρ1
  | _ => False
section
variable {X : Cx} {K : Fg} {a b e tg : Expr} {ta : TE} {wa : WE} {t : TA} {wr : WA} {p p2 : Pos}
theorem src_tup {l : Addr} {ds : List D} : SrcOk K (Itt K l) (.ref l) (.tuple ds) ds := fun M σ H ρ pv pd A => by
  obtain ⟨ow, B, hp⟩ := A
  cases hp with
  | cons g3 hp =>
    cases g3 with
    | @tup _ ys _ g3 g4 =>
      have hS : SqT K H l ys := same_t hide_le g3
      refine ⟨fun i hi => ?_, ⟨ys, hS, by rw [g4.length]; omega⟩⟩
      obtain ⟨y, gy, gyd⟩ := g4.get (List.getElem?_eq_getElem hi)
      refine ⟨⟨ys, y, hS, gy⟩, fun x H' hy => ?_⟩
      obtain ⟨rfl, fv⟩ := hy
      have ex : x = y := Option.some.inj ((fv _ hS).symm.trans gy)
      subst ex
      exact ⟨ow, B, .cons gyd (.cons (.tup g3 g4) hp)⟩
theorem src_lst {l : Addr} {ds : List D} : SrcOk K (Itl K l) (.ref l) (.list ds) ds := fun M σ H ρ pv pd A => by
  obtain ⟨ow, B, hp⟩ := A
  cases hp with
  | cons g3 hp =>
    cases g3 with
    | @lst _ ys _ g3 g4 =>
      have hS : SqL K H l ys := .of (hide_le _ _ g3)
      refine ⟨fun i hi => ?_, ⟨ys, hS, by rw [g4.length]; omega⟩⟩
      obtain ⟨y, gy, gyd⟩ := g4.get (List.getElem?_eq_getElem hi)
      refine ⟨⟨ys, y, hS, gy⟩, fun x H' hy => ?_⟩
      obtain ⟨rfl, fv⟩ := hy
      have ex : x = y := Option.some.inj ((fv _ hS).symm.trans gy)
      subst ex
      exact ⟨ow, B, .cons gyd (.cons (.lst g3 g4) hp)⟩
theorem src_rng {lo : Int} {n : Nat} {v : V} {d : D} : SrcOk K (Itr lo n) v d (rngD lo n) := fun M σ H ρ pv pd A => by
  refine ⟨fun i hi => ?_, by rw [rngD_len]; exact Nat.le_refl n⟩
  have hi' : i < n := by rwa [rngD_len] at hi
  refine ⟨hi', fun x H' hy => ?_⟩
  obtain ⟨rfl, rfl⟩ := hy
  obtain ⟨ow, B, hp⟩ := A
  have e : (rngD lo n)[i] = .int (lo + (i : Nat)) := (rngD_get (List.getElem?_eq_getElem hi)).2
  rw [e]
  exact ⟨ow, B, .cons (.int _) hp⟩
theorem At.dum {M : Amb} {σ : L2.St} {H : Hp} {ρ : Rho} {pv : List V} {pd : List D} (A : At K M σ H ρ pv pd) : At K M σ H ρ (.non :: pv) (.none :: pd) := by
  obtain ⟨ow, B, hp⟩ := A
  exact ⟨ow, B, .cons .non hp⟩
theorem di_tup (hi : DE X e ta wa) : DI X tg e (iTup X.K ta) (wiTup wa) := ⟨pi_tup hi.pe, fun M σ H ρ pv pd P R A h q => by
  refine hi.sd M σ H ρ pv pd _ _ A h fun v d H1 ρ1 A1 h1 => ?_
  obtain ⟨ds, rfl⟩ : ∃ ds, d = .tuple ds := by cases d <;> first | exact ⟨_, rfl⟩ | exact h1.elim
  have A2 := A1
  obtain ⟨ow, B, hp⟩ := A1
  cases hp with
  | cons g1 hp =>
    cases g1 with
    | @tup l xs _ g1 g2 => exact ⟨l, rfl, ⟨xs, same_t hide_le g1⟩, q _ _ _ _ _ _ A2 src_tup h1⟩⟩
theorem di_lst (hi : DE X e ta wa) : DI X tg e (iList X.K ta) (wiLst wa) := ⟨pi_list hi.pe, fun M σ H ρ pv pd P R A h q => by
  refine hi.sd M σ H ρ pv pd _ _ A h fun v d H1 ρ1 A1 h1 => ?_
  obtain ⟨ds, rfl⟩ : ∃ ds, d = .list ds := by cases d <;> first | exact ⟨_, rfl⟩ | exact h1.elim
  have A2 := A1
  obtain ⟨ow, B, hp⟩ := A1
  cases hp with
  | cons g1 hp =>
    cases g1 with
    | @lst l xs _ g1 g2 => exact ⟨l, rfl, ⟨xs, .of (hide_le _ _ g1)⟩, q _ _ _ _ _ _ A2 src_lst h1⟩⟩
theorem di_rng1 (hgl : Gl X "range") (hm : X.mg "range" = none) (ha : DA X [a] t wr) (hs : starEach [a] X.env = [(false, eval a X.env)] := by rfl) : DI X tg (.Call (.Name "range" p) [a] [] p2) (iRng1 t) (wiR1 wr) := ⟨pi_range1 hgl hm ha.pa hs, fun M σ H ρ pv pd P R A h q => by
  refine ha.sd M σ H ρ pv pd _ _ A h fun vs ds H1 ρ1 hl A1 h1 => ?_
  split at h1
  · next j =>
    have A2 := (At.popA A1 hl).dum
    obtain ⟨ow, B, hp⟩ := A1
    obtain ⟨v, rfl, gv⟩ := da1 (DvAll.split hl hp).1
    cases gv
    exact ⟨j, rfl, h1.1.1, h1.1.2, q _ _ _ _ _ _ A2 src_rng h1.2⟩
  · exact h1.elim⟩
theorem di_rng2 (hgl : Gl X "range") (hm : X.mg "range" = none) (ha : DA X [a, b] t wr) (hs : starEach [a, b] X.env = [(false, eval a X.env), (false, eval b X.env)] := by rfl) (hs2 : starEach [b] X.env = [(false, eval b X.env)] := by rfl) : DI X tg (.Call (.Name "range" p) [a, b] [] p2) (iRng2 t) (wiR2 wr) := ⟨pi_range2 hgl hm ha.pa hs hs2, fun M σ H ρ pv pd P R A h q => by
  refine ha.sd M σ H ρ pv pd _ _ A h fun vs ds H1 ρ1 hl A1 h1 => ?_
  split at h1
  · next i j =>
    have A2 := (At.popA A1 hl).dum
    obtain ⟨ow, B, hp⟩ := A1
    obtain ⟨v, v', rfl, gv, gv'⟩ := da2 (DvAll.split hl hp).1
    cases gv
    cases gv'
    exact ⟨i, j, rfl, ⟨h1.1.1, h1.1.2, h1.2.1.1, h1.2.1.2⟩, q _ _ _ _ _ _ A2 src_rng h1.2.2⟩
  · exact h1.elim⟩
end
section
variable {X : Cx} {K : Fg} {a b c e : Expr} {es : List Expr} {ta tb : TE} {wa wb : WE} {tt : TT} {wt : WT} {t : TA} {wr : WA} {pos p p2 : Pos} {g : TG} {wg : WG} {st : Stmt} {sts sts2 : List Stmt} {ts tu : TS} {w u : WS}
theorem dss_nil : DSs X [] tNext wNext := ⟨pss_nil, fun M σ H ρ pv pd DD HD A h F => F.nx σ H ρ A h⟩
theorem snds_seq (h1 : SndS K ts w) (h2 : SndS K tu u) : SndS K (tSeq ts tu) (wSeq w u) := fun M σ H ρ pv pd DD HD A h F =>
  h1 M σ H ρ pv pd _ { HD with nx := tu HD } A h ⟨fun σ' H' ρ' A' h' => h2 M σ' H' ρ' pv pd _ _ A' h' F, F.rt, F.bk, F.ct⟩
theorem dss_cons (h1 : DS X st ts w) (h2 : DSs X sts tu u) : DSs X (st :: sts) (tSeq ts tu) (wSeq w u) := ⟨pss_cons h1.ps h2.ps, snds_seq h1.sd h2.sd⟩
theorem dss_one (h1 : DS X st ts w) : DSs X [st] ts w := ⟨pss_one h1.ps, h1.sd⟩
theorem ds_pass : DS X (.Pass pos) tNext wNext := ⟨ps_pass, fun M σ H ρ pv pd DD HD A h F => F.nx σ H ρ A h⟩
theorem ds_break : DS X (.Break pos) tBreak wBreak := ⟨ps_break, fun M σ H ρ pv pd DD HD A h F => F.bk σ H ρ A h⟩
theorem ds_cont : DS X (.Continue pos) tCont wCont := ⟨ps_continue, fun M σ H ρ pv pd DD HD A h F => F.ct σ H ρ A h⟩
theorem ds_never : DS X st tNever wNever := ⟨ps_never, fun M σ H ρ pv pd DD HD A h F => h.elim⟩
theorem dss_never : DSs X sts tNever wNever := ⟨pss_never, fun M σ H ρ pv pd DD HD A h F => h.elim⟩
theorem ds_doc {x : Str} {j pos'} : DS X (.Expr (.Constant (.str x) j pos) pos') tNext wNext := ⟨ps_doc, fun M σ H ρ pv pd DD HD A h F => F.nx σ H ρ A h⟩
theorem snds_asg (ha : Snd K ta wa) (hg : SndG K g wg) : SndS K (tAsg ta g) (wAsg wa wg) := fun M σ H ρ pv pd DD HD A h F =>
  ha M σ H ρ pv pd _ _ A h fun v d H1 ρ1 A1 h1 => hg M σ H1 ρ1 pv pd v d _ _ A1 h1 fun σ' H' ρ' A' h' => F.nx σ' H' ρ' A' h'
theorem ds_set {i : Nat} {x : Str} {pos' : Pos} (hN : X.N.Nodup) (he : DE X e ta wa) (hi : X.N[i]? = some x := by rfl) (hx : Loc X.env.scope x := by first | exact .inl rfl | exact .inr rfl) (hs : swapsWith e (some (.Name x pos')) pos.line X.env = pure false := by rfl)
    (hf : X.fn x = true ∨ X.env.scope.names.lookup x = some .local := by first | exact .inl rfl | exact .inr rfl | assumption) : DS X (.Assign [.Name x pos'] e pos) (tAsg ta (gName i)) (wAsg wa (wgName i)) := ⟨ps_set hN hi hx he.pe hs hf, snds_asg he.sd (sndg_name i)⟩
theorem ds_asg {tg : Expr} (he : DE X e ta wa) (hg : DG X tg g wg) (hs : swapsWithSole [tg] e pos.line X.env = pure false := by rfl) (hw : swappedStores [tg] e X.env = pure none := by rfl) (h1 : (assignEach [tg] X.env).map (·.2) = [assign tg X.env] := by rfl) : DS X (.Assign [tg] e pos) (tAsg ta g) (wAsg wa wg) := ⟨ps_asg he.pe hg.pg hs hw h1, snds_asg he.sd hg.sd⟩
theorem ds_keep {i : Nat} {x : Str} {pos' : Pos} {wf : WF} (hN : X.N.Nodup) (he : DF X e ta wf) (hi : X.N[i]? = some x := by rfl) (hx : Loc X.env.scope x := by first | exact .inl rfl | exact .inr rfl) (hs : swapsWith e (some (.Name x pos')) pos.line X.env = pure false := by rfl)
    (hf : X.fn x = true ∨ X.env.scope.names.lookup x = some .local := by first | exact .inl rfl | exact .inr rfl | assumption) : DS X (.Assign [.Name x pos'] e pos) (tAsg ta (gName i)) (wKeep i wf) := ⟨ps_set hN hi hx he.pe hs hf, fun M σ H ρ pv pd DD HD A h F =>
  he.sd M σ H ρ pv pd _ _ A h fun p ds H' ρ' A' h' => F.nx _ _ _ (A'.keep i) h'⟩
theorem ds_expr (he : DE X e ta wa) (hs : swapsWith e none pos.line X.env = pure false := by rfl) : DS X (.Expr e pos) (tDrop ta) (wDrop wa) := ⟨ps_expr he.pe hs, fun M σ H ρ pv pd DD HD A h F => he.sd M σ H ρ pv pd _ _ A h fun v d H' ρ' A' h' => F.nx _ _ _ A'.pop h'⟩
theorem ds_ret (he : DE X e ta wa) : DS X (.Return (some e) pos) (tRet ta) (wRet wa) := ⟨ps_ret he.pe, fun M σ H ρ pv pd DD HD A h F => he.sd M σ H ρ pv pd _ _ A h fun v d H' ρ' A' h' => by
  obtain ⟨ow, B, hp⟩ := A'
  cases hp with
  | cons g1 g2 => exact F.rt v d H' B.evo B.cok (g1.mono (hide_same fun b o n h => ⟨fun z => n (.inl z), h⟩)) h'⟩
theorem ds_retN : DS X (.Return none pos) tRetN wRetN := ⟨ps_retN, fun M σ H ρ pv pd DD HD A h F => by
  obtain ⟨ow, B, hp⟩ := A
  exact F.rt _ _ H B.evo B.cok .non h⟩
theorem ds_if {c : Expr} (hc : DT X c tt wt) (ha : DSs X sts ts w) (hb : DSs X sts2 tu u) : DS X (.If c sts sts2 pos) (tIfS tt ts tu) (wIfS wt w u) := ⟨ps_if hc.pt ha.ps hb.ps, fun M σ H ρ pv pd DD HD A h F => by
  refine hc.sd M σ H ρ pv pd _ _ A h fun b H1 ρ1 A1 h1 => ?_
  cases b with
  | true =>
    rw [if_pos rfl] at h1 ⊢
    exact ha.sd M σ H1 ρ1 pv pd _ _ A1 h1 F
  | false =>
    rw [if_neg Bool.false_ne_true] at h1 ⊢
    exact hb.sd M σ H1 ρ1 pv pd _ _ A1 h1 F⟩
theorem ds_par {i j : Nat} {x y : Str} {px py pt : Pos} {kt k2 pt2} (hc : X.calm = true) (hN : X.N.Nodup) (ha : DA X [a, b] t wr) (hi : X.N[i]? = some x := by rfl) (hj : X.N[j]? = some y := by rfl) (hij : i ≠ j := by decide)
    (hx : X.env.scope.names.lookup x = some .local := by rfl) (hy : X.env.scope.names.lookup y = some .local := by rfl)
    (hw : swappedStores [.Tuple [.Name x px, .Name y py] kt pt] (.Tuple [a, b] k2 pt2) X.env = pure (some [x, y]) := by rfl)
    (hs : swapsWithSole [.Tuple [.Name x px, .Name y py] kt pt] (.Tuple [a, b] k2 pt2) pos.line X.env = pure false := by rfl) :
    DS X (.Assign [.Tuple [.Name x px, .Name y py] kt pt] (.Tuple [a, b] k2 pt2) pos) (tPar i j t) (wPar i j wr) := ⟨ps_par hc hN hi hj hij hx hy ha.pa hw hs, fun M σ H ρ pv pd DD HD A h F => by
  refine ha.sd M σ H ρ pv pd _ _ A h fun vs ds H1 ρ1 hl A1 h1 => ?_
  match ds, vs, hl, A1, h1 with
  | [d1, d2], [v1, v2], _, A1, h1 =>
    refine ⟨v1, v2, rfl, F.nx _ _ _ (At.put (At.put A1 i rfl rfl) j rfl rfl) h1⟩⟩
theorem snds_aug {i : Nat} {r : TIp} {w2 : D → D → (D → Prop) → Prop} (h2 : Sn2 K r w2) (ha : Snd K ta wa) : SndS K (tAug i ta r) (wAug i w2 wa) := fun M σ H ρ pv pd DD HD A h F => by
  unfold wAug at h
  split at h
  · next x e =>
    obtain ⟨ow, B, hp⟩ := A
    obtain ⟨v, h1, g1⟩ := B.val i x e
    refine ⟨v, h1, ?_⟩
    refine ha M σ H ρ (v :: pv) (x :: pd) _ _ ⟨ow, B, .cons g1 hp⟩ h fun y dy H1 ρ1 A1 h1 => ?_
    obtain ⟨ow1, B1, hp1⟩ := A1
    cases hp1 with
    | cons gy hp1 =>
      cases hp1 with
      | cons gx hp1 =>
        refine h2 M.lc (hdO M ow1) H1 v y x dy _ _ B1.hall gx gy h1 fun z d H' e g pp => ?_
        refine F.nx _ _ _ (At.put (v := z) (d := d) ⟨ow1, B1.step (.of e) (B1.cok.mono e), .cons g (hp1.mono (B1.vis (.of e)))⟩ i rfl rfl) pp
  · exact h.elim
theorem ds_aug {i : Nat} {x : Str} {op : Operator} {r : TIp} {w2 : D → D → (D → Prop) → Prop} {pos' : Pos} (hN : X.N.Nodup) (ho : PIp X op r) (h2 : Sn2 X.K r w2) (he : DE X e ta wa) (hi : X.N[i]? = some x := by rfl) (hx : Loc X.env.scope x := by first | exact .inl rfl | exact .inr rfl)
    (hf : X.fn x = true ∨ X.env.scope.names.lookup x = some .local := by first | exact .inl rfl | exact .inr rfl | assumption) : DS X (.AugAssign (.Name x pos') op e pos) (tAug i ta r) (wAug i w2 wa) := ⟨ps_aug hN hi hx he.pe ho hf, snds_aug h2 he.sd⟩
theorem ds_while {c : Expr} (hp : PassesOwn (model X.prog X.w) X.A X.env X.xe) (hc : DT X c tt wt) (hb : DSs X sts ts w) : DS X (.While c sts [] pos) (tWhile tt ts) (wWhile wt w) := ⟨ps_while hp hc.pt hb.ps, fun M σ H ρ pv pd DD HD A h F => by
  obtain ⟨I, μ, h0, hs⟩ := h
  refine ⟨fun m σ' H' => ∃ ρ', At X.K M σ' H' ρ' pv pd ∧ I ρ' ∧ μ ρ' = m, ⟨_, ρ, A, h0, rfl⟩, ?_⟩
  rintro m σ1 H1 ⟨ρ1, A1, i1, rfl⟩
  refine hc.sd M σ1 H1 ρ1 pv pd _ _ A1 (hs ρ1 i1) fun b H2 ρ2 A2 h2 => ?_
  cases b with
  | true =>
    rw [if_pos rfl] at h2 ⊢
    refine ⟨fun σ' H' => ∃ ρ', At X.K M σ' H' ρ' pv pd ∧ I ρ' ∧ μ ρ' < μ ρ1, fun σ' H' ⟨ρ', A', i', l⟩ => ⟨_, l, ρ', A', i', rfl⟩, ?_⟩
    exact hb.sd M σ1 H2 ρ2 pv pd _ _ A2 h2 ⟨fun σ' H' ρ' A' h' => ⟨ρ', A', h'⟩, F.rt, F.nx, fun σ' H' ρ' A' h' => ⟨ρ', A', h'⟩⟩
  | false =>
    rw [if_neg Bool.false_ne_true] at h2 ⊢
    exact F.nx _ _ _ A2 h2⟩
/-- what a loop or a comprehension walks: the items as data -/
theorem ds_for {iter : Expr} {wi : TI} {wI : Rho → (List D → Rho → Prop) → Prop} (hN : PassesOwn (model X.prog X.w) X.A X.env X.xe) (hc : X.calm = true) (hi : DI X a iter wi wI) (hg : DG X a g wg) (hb : DSs X sts ts w) (hfs : ∀ x, foldedSetIterable iter X.env x = pure x := by intro _; rfl) :
    DS X (.For a iter sts [] pos) (tFor wi g ts) (wFor wI wg w) := ⟨ps_for hN hc hi.pi hg.pg hb.ps hfs, fun M σ H ρ pv pd DD HD A h F => by
  refine hi.sd M σ H ρ pv pd _ _ A h fun J H1 ρ1 v d ds A1 sk h1 => ?_
  obtain ⟨I, h0, hs, hd⟩ := h1
  refine ⟨fun i m σ' H' => ∃ ρ', At X.K M σ' H' ρ' (v :: pv) (d :: pd) ∧ I i ρ' ∧ i + m = ds.length, ⟨ds.length, ρ1, A1, h0, by omega⟩, ?_⟩
  rintro i m σ2 H2 ⟨ρ2, A2, i2, em⟩
  by_cases hi : i < ds.length
  · obtain ⟨g1, g2⟩ := (sk M σ2 H2 ρ2 pv pd A2).1 i hi
    refine .inr ⟨g1, fun σ' H' => ∃ ρ', At X.K M σ' H' ρ' (v :: pv) (d :: pd) ∧ I (i + 1) ρ', fun σ' H' ⟨ρ', A', i'⟩ => ⟨m - 1, by omega, ρ', A', i', by omega⟩, fun x H' hy => ?_⟩
    refine hg.sd M σ2 _ ρ2 (v :: pv) (d :: pd) x ds[i] _ _ (g2 x H' hy) (hs i ds[i] ρ2 (List.getElem?_eq_getElem hi) i2) fun σ' H'' ρ' A' h' => ?_
    exact hb.sd M σ' H'' ρ' _ _ _ _ A' h' ⟨fun σ' H' ρ' A' h' => ⟨ρ', A', h'⟩, F.rt, fun σ' H' ρ' A' h' => F.nx _ _ _ A'.pop h', fun σ' H' ρ' A' h' => ⟨ρ', A', h'⟩⟩
  · have ei : i = ds.length := by omega
    subst ei
    exact .inl ⟨(sk M σ2 H2 ρ2 pv pd A2).2, F.nx _ _ _ A2.pop (hd _ i2)⟩⟩
end

/-! ## a def -/
def env0 (N : List Str) (ds : List D) : Rho := ds.map .val ++ List.replicate (N.length - ds.length) .un
theorem look_val : ∀ (ds : List D) (n i : Nat) (d : D), look (ds.map .val ++ List.replicate n .un) i = .val d → ds[i]? = some d
  | [], n, i, d, h => by
    exfalso
    induction n generalizing i with
    | zero => exact nomatch h
    | succ n ih =>
      cases i with
      | zero => exact nomatch h
      | succ i => exact ih i h
  | c :: ds, n, 0, d, h => by
    have : Slot.val c = .val d := h
    cases this
    rfl
  | c :: ds, n, i + 1, d, h => look_val ds n i d h
theorem look_own : ∀ (ds : List D) (n i : Nat) (es : List D), look (ds.map .val ++ List.replicate n .un) i ≠ .own es
  | [], n, i, es, h => by
    induction n generalizing i with
    | zero => exact nomatch h
    | succ n ih =>
      cases i with
      | zero => exact nomatch h
      | succ i => exact ih i h
  | c :: ds, n, 0, es, h => nomatch h
  | c :: ds, n, i + 1, es, h => look_own ds n i es h
section
variable {P : Program} {w : World} {K : Fg} {mg : Str → Option Value} {base : Heap}
theorem at_start {N : List Str} {lc : Option Addr} {hc hd : Addr → Prop} {H : Hp} {vs : List V} {ds : List D} (g : DvAll K lc (hide hd H) vs ds) (c : Cok K lc hc H) (s : ∀ b, hc b → hd b) (al : ∀ b, hd b → H b ≠ none) :
    At K ⟨lc, hc, hd, H, []⟩ (L2.start N vs) H (env0 N ds) [] [] := by
  have vis : Same (hide hd H) (hide (hdO ⟨lc, hc, hd, H, []⟩ fun _ => none) H) := hide_same fun b o n h => ⟨fun z => by
    rcases z with z | ⟨i, z⟩ | ⟨es, z⟩
    · exact n z
    · exact (nomatch z)
    · exact (nomatch z), h⟩
  refine ⟨fun _ => none, ?_, .nil⟩
  exact {
    evo := .refl H
    cok := c
    sub := s
    all := al
    len := by simp [L2.start, env0, g.length]
    val := fun i d h => by
      have e := look_val ds _ i d h
      obtain ⟨v, e1, e2⟩ := g.get e
      refine ⟨v, ?_, e2.mono vis⟩
      have hlt : i < vs.length := (List.getElem?_eq_some_iff.mp e1).1
      unfold L2.start
      rw [List.getElem?_append_left (by simpa using hlt), List.getElem?_map, e1]
      rfl
    own := fun i es h => absurd h (look_own ds _ i es)
    fre := fun i p h => nomatch h
    inj := fun i j p h => nomatch h
    gho := fun p es h => nomatch h
    gnd := .nil }
/-- THE RULE for a def -/
theorem fn_ok {x qual : Str} {st : Stmt} {f : Addr} {fd : FuncData} {N ps : List Str} {k : Nat} {pre : List D → Prop} {post : List D → D → Prop} (F : Fun K x qual st f fd) (S : FnScope N ps (defScope st)) (len : ∀ ds, pre ds → ds.length = ps.length)
    (body : ∀ (cdv : Value) (A : Around) (outer : List PySem.Env) (s : Shared) (H : Hp) (E : XK), Room k (A.deeper (envOfC qual (defScope st) s.heap.objs.size f cdv)) →
      ∃ t u, DSs (cxOf CX0 P w K mg base N qual (defScope st) f cdv A outer s H E).nox (defBody st) t u ∧ ∀ ds, pre ds → u { nx := fun _ => post ds .none, rt := post ds } (env0 N ds)) :
    FnOk P w K mg base CX0 (k + 1) f fd ps (SpD K pre post) := by
  refine F.ok S (fun vs H Q E h => ?_) (fun cdv A outer s H vs Q E hr h => ?_)
  · obtain ⟨lc, hc, hd, ds, g, c, sb, al, p, q⟩ := h
    rw [g.length]
    exact len ds p
  · obtain ⟨lc, hc, hd, ds, g, c, sb, al, p, q⟩ := h
    obtain ⟨t, u, b, hu⟩ := body cdv A outer s H E hr
    refine ⟨t, b.ps, b.sd ⟨lc, hc, hd, H, []⟩ (L2.start N vs) H (env0 N ds) [] [] _ _ (at_start g c sb al) (hu ds p) ⟨fun σ' H' ρ' A' h' => ?_, fun v d H' e c' g' h' => q v d H' e c' g' h', fun _ _ _ _ h => h.elim, fun _ _ _ _ h => h.elim⟩⟩
    obtain ⟨ow, B, _⟩ := A'
    exact q _ _ H' B.evo B.cok .non h'
end
end DL

namespace DL
open PySem PySem.Spec PyProof.Rows L2

/-! ## comprehensions -/
theorem put_put : ∀ (ρ : Rho) (i : Nat) (s t : Slot), put (put ρ i s) i t = put ρ i t
  | [], _, _, _ => rfl
  | _ :: r, 0, _, _ => rfl
  | x :: r, n + 1, s, t => congrArg (x :: ·) (put_put r n s t)
section
variable {X : Cx} {K : Fg} {M : Amb} {H H' : Hp} {σ : L2.St} {ρ : Rho} {pv : List V} {pd : List D} {ow : Nat → Option Addr} {p : Addr} {ds : List D}
/-- nothing is known of slot i any more -/
theorem At.unset (A : At K M σ H ρ pv pd) (i : Nat) {σ' : L2.St} (hl : σ'.length = σ.length) (e : ∀ j, j ≠ i → σ'[j]? = σ[j]?) : At K M σ' H (DL.put ρ i .un) pv pd := by
  obtain ⟨ow, A, h⟩ := A
  refine ⟨owOff ow i, ?_, h.mono (vis_off ow i H)⟩
  exact {
    evo := A.evo
    cok := A.cok
    sub := A.sub
    all := A.all
    len := by rw [put_length, hl]; exact A.len
    val := fun j d hj => by
      by_cases hji : j = i
      · subst hji
        rcases look_put ρ j .un with z | z <;> (rw [z] at hj; cases hj)
      · rw [look_put_ne _ _ _ _ hji] at hj
        obtain ⟨u, g1, g2⟩ := A.val j d hj
        exact ⟨u, by rw [e j hji]; exact g1, g2.mono (vis_off ow i H)⟩
    own := fun j es hj => by
      by_cases hji : j = i
      · subst hji
        rcases look_put ρ j .un with z | z <;> (rw [z] at hj; cases hj)
      · rw [look_put_ne _ _ _ _ hji] at hj
        obtain ⟨p', xs', g1, g2, g3, g4⟩ := A.own j es hj
        exact ⟨p', xs', by rw [owOff_ne ow hji]; exact g1, by rw [e j hji]; exact g2, g3, g4.mono (vis_off ow i H)⟩
    fre := fun j p hj => A.fre j p (owOff_some hj).2
    inj := fun j k p hj hk => A.inj j k p (owOff_some hj).2 (owOff_some hk).2
    gho := fun p ds h => by
      obtain ⟨h1, h2, xs, h3, h4⟩ := A.gho p ds h
      exact ⟨h1, fun j hj => h2 j (owOff_some hj).2, xs, h3, h4.mono (vis_off ow i H)⟩
    gnd := A.gnd }
theorem hdO_swap {ds es : List D} {b : Addr} (h : hdO (M.plus p ds) ow b) : hdO (M.plus p es) ow b := by
  rcases h with h | h | ⟨cs, h⟩
  · exact .inl h
  · exact .inr (.inl h)
  · rcases List.mem_cons.mp h with e | h
    · cases e
      exact .inr (.inr ⟨es, List.mem_cons_self ..⟩)
    · exact .inr (.inr ⟨cs, List.mem_cons_of_mem _ h⟩)
/-- a list that is being made gets another content -/
theorem AtW.ghset {es : List D} {ys : List V} (A : AtW K (M.plus p ds) σ H ρ ow) (g : DvAll K M.lc (hide (hdO (M.plus p ds) ow) H) ys es) : AtW K (M.plus p es) σ (upd H p (.lst ys)) ρ ow ∧ Same (hide (hdO (M.plus p ds) ow) H) (hide (hdO (M.plus p es) ow) (upd H p (.lst ys))) := by
  obtain ⟨h1, h2, xs, h3, h4⟩ := A.gho p ds (List.mem_cons_self ..)
  have hid : hdO (M.plus p ds) ow p := .inr (.inr ⟨ds, List.mem_cons_self ..⟩)
  have vis : Same (hide (hdO (M.plus p ds) ow) H) (hide (hdO (M.plus p es) ow) (upd H p (.lst ys))) := hide_same fun b o n h => by
    have hb : b ≠ p := fun z => n (z ▸ hid)
    exact ⟨fun z => n (hdO_swap z), by rw [upd_ne hb]; exact h⟩
  have nl : M.lc ≠ some p := A.nel h1
  have nd : ¬ M.hd p := A.ne h1
  refine ⟨?_, vis⟩
  exact {
    evo := fun b o n h => by
      have hb : b ≠ p := fun z => by
        subst z
        have : (M.plus b es).H0 b = none := h1
        rw [this] at h; cases h
      rw [upd_ne hb]; exact A.evo b o n h
    cok := fun b hb => by
      obtain ⟨⟨q, ns, pos, dig, cnt, e1, e2, e3, e4, e5, e6⟩, e7⟩ := A.cok b hb
      have hbp : b ≠ p := fun z => nl (z ▸ hb)
      have hqp : q ≠ p := fun z => nd (z ▸ A.sub q e6)
      refine ⟨⟨q, ns, pos, dig, cnt, by rw [upd_ne hbp]; exact e1, ?_, e3, e4, e5, e6⟩, e7⟩
      rcases e2 with (e2 | ⟨o, e2⟩) | e2
      · exact .inl (.inl (by rw [upd_ne hqp]; exact e2))
      · exact .inl (.inr ⟨o, by rw [upd_ne hqp]; exact e2⟩)
      · exact .inr e2
    sub := A.sub
    all := A.all
    len := A.len
    val := fun j d hj => by
      obtain ⟨u, g1, g2⟩ := A.val j d hj
      exact ⟨u, g1, g2.mono vis⟩
    own := fun j cs hj => by
      obtain ⟨p', xs', g1, g2, g3, g4⟩ := A.own j cs hj
      have hb : p' ≠ p := fun z => h2 j (z ▸ g1)
      exact ⟨p', xs', g1, g2, by rw [upd_ne hb]; exact g3, g4.mono vis⟩
    fre := fun j q hj => by
      have hb : q ≠ p := fun z => h2 j (z ▸ hj)
      rw [upd_ne hb]
      exact A.fre j q hj
    inj := A.inj
    gho := fun q cs h => by
      rcases List.mem_cons.mp h with z | z
      · cases z
        exact ⟨h1, h2, ys, upd_same, g.mono vis⟩
      · obtain ⟨k1, k2, zs, k3, k4⟩ := A.gho q cs (List.mem_cons_of_mem _ z)
        have hb : q ≠ p := fun w => by
          subst w
          exact (List.nodup_cons.mp A.gnd).1 (List.mem_map_of_mem (f := (·.1)) z)
        exact ⟨k1, k2, zs, by rw [upd_ne hb]; exact k3, k4.mono vis⟩
    gnd := A.gnd }
theorem At.grow {v : V} {d : D} {xs : List V} (A : At K (M.plus p ds) σ H ρ (v :: pv) (d :: pd)) (e : H p = some (.lst xs)) : At K (M.plus p (ds ++ [d])) σ (upd H p (.lst (xs ++ [v]))) ρ pv pd := by
  obtain ⟨ow, A, h⟩ := A
  obtain ⟨h1, h2, xs', h3, h4⟩ := A.gho p ds (List.mem_cons_self ..)
  cases h3.symm.trans e
  cases h with
  | cons g1 g2 =>
    obtain ⟨B, vis⟩ := A.ghset (h4.app (.cons g1 .nil))
    exact ⟨ow, B, g2.mono vis⟩
theorem At.gh (A : At K (M.plus p ds) σ H ρ pv pd) : ∃ xs, H p = some (.lst xs) ∧ xs.length = ds.length := by
  obtain ⟨ow, A, h⟩ := A
  obtain ⟨h1, h2, xs, h3, h4⟩ := A.gho p ds (List.mem_cons_self ..)
  exact ⟨xs, h3, h4.length⟩
end
def wCompD (ds : List D) (i : Nat) (wt : WT) (we : WE) : WF := fun ρ P => ∃ I : Nat → List D → Prop, I 0 [] ∧
  (∀ j x acc, ds[j]? = some x → I j acc → wt (put ρ i (.val x)) fun b ρ2 => ρ2 = put ρ i (.val x) ∧ if b = true then we ρ2 fun y ρ3 => ρ3 = put ρ i (.val x) ∧ acc.length < 100000 ∧ I (j + 1) (acc ++ [y]) else I (j + 1) acc) ∧
  ∀ acc, I ds.length acc → P acc (put ρ i .un)
def wComp (wI : WI) (i : Nat) (wt : WT) (we : WE) : WF := fun ρ P => wI ρ fun ds ρ1 => wCompD ds i wt we ρ1 P
def wYes : WT := fun ρ P => P true ρ
structure DTs (X : Cx) (ifs : List Expr) (t : TT) (w : WT) : Prop where
  pt : PTs X ifs t
  sd : SndT X.K t w
theorem dts_nil {X : Cx} : DTs X [] tYes wYes := ⟨pts_nil, fun M σ H ρ pv pd P Q A h q => q true H ρ A h⟩
theorem dts_one {X : Cx} {c : Expr} {t : TT} {w : WT} (h : DT X c t w) : DTs X [c] t w := ⟨pts_one h.pt, h.sd⟩
/-- the same in a block, whose own reading says nothing of the block's start -/
structure DEb (X : Cx) (e : Expr) (t : TE) (w : WE) : Prop where
  ex : ∃ t', DE X e t' w ∧ t' = t
structure DTb (X : Cx) (ifs : List Expr) (t : TT) (w : WT) : Prop where
  ex : ∃ t', DTs X ifs t' w ∧ t' = t
theorem DEb.de {X : Cx} {e : Expr} {t : TE} {w : WE} (h : DEb X e t w) : DE X e t w := by
  obtain ⟨t', h1, rfl⟩ := h.ex
  exact h1
theorem DTb.dt {X : Cx} {e : List Expr} {t : TT} {w : WT} (h : DTb X e t w) : DTs X e t w := by
  obtain ⟨t', h1, rfl⟩ := h.ex
  exact h1
theorem df_comp {X : Cx} {elt tg iter : Expr} {ifs : List Expr} {scope : Scope} {i : Nat} {x : Str} {pos : Pos} {wi : TI} {tt : TT} {te : TE} {wI : WI} {wt : WT} {we : WE} (hc : X.calm = true) (hN : X.N.Nodup) (hi : DI X tg iter wi wI) (ok : BlkOk X.N X.env.scope scope [(x, i)])
    (hg : ∀ (s : Shared) (H : Hp) (C : Addr) (cl : List (Str × Addr)) (fp : List Addr), PG (X.blk s H scope (compEnvC scope cl C X.env) fp) tg (gName i)) (ht' : ∀ (s : Shared) (H : Hp) (C : Addr) (cl : List (Str × Addr)) (fp : List Addr), DTb (X.blk s H scope (compEnvC scope cl C X.env) fp) ifs tt wt)
    (he' : ∀ (s : Shared) (H : Hp) (C : Addr) (cl : List (Str × Addr)) (fp : List Addr), DEb (X.blk s H scope (compEnvC scope cl C X.env) fp) elt te we) (hs : ∀ x, foldedSetIterable iter X.env x = pure x := by intro _; rfl) :
    DF X (.ListComp elt [⟨tg, iter, ifs, 0⟩] scope pos) (tLc wi (gName i) tt te [i]) (wComp wI i wt we) := by
  have ht := fun s H C cl fp => (ht' s H C cl fp).dt
  have he := fun s H C cl fp => (he' s H C cl fp).de
  have sT : SndT X.K tt wt := (ht X.s_0 (fun _ => none) 0 [] []).sd
  have sE : Snd X.K te we := (he X.s_0 (fun _ => none) 0 [] []).sd
  refine ⟨pe_lc (own := [(x, i)]) (g := gName i) hc hN hi.pi ok hg (fun s H C cl fp => (ht s H C cl fp).pt) (fun s H C cl fp => (he s H C cl fp).pe) hs, fun M σ H ρ pv pd P Q A h q => ?_⟩
  refine hi.sd M σ H ρ pv pd _ _ A h fun J H1 ρ1 v d ds A1 sk h1 => ?_
  obtain ⟨I, h0, hs, hd⟩ := h1
  intro D0 hD
  have w0 : ∀ σ' : L2.St, wipe σ' [i] = σ'.set i none := fun σ' => rfl
  have l0 : ∀ σ' : L2.St, (wipe σ' [i]).length = σ'.length := fun σ' => wipe_length _ _
  have A1' : At X.K M (wipe σ [i]) H1 (put ρ1 i .un) (v :: pv) (d :: pd) := A1.unset i (l0 σ) fun j hj => by rw [w0, List.getElem?_set_ne (fun z => hj z.symm)]
  refine ⟨fun j m H' => ∃ acc, At X.K (M.plus D0 acc) (wipe σ [i]) H' (put ρ1 i .un) (v :: pv) (d :: pd) ∧ I j acc ∧ j + m = ds.length, ⟨ds.length, [], ?_, h0, by omega⟩, ?_⟩
  · exact At.plus (vs := []) (ds := []) A1' rfl hD
  rintro j m H2 ⟨acc, A2, i2, em⟩
  by_cases hi : j < ds.length
  · obtain ⟨g1, g2⟩ := (sk _ _ H2 _ pv pd A2).1 j hi
    refine .inr ⟨g1, fun H' => ∃ acc, At X.K (M.plus D0 acc) (wipe σ [i]) H' (put ρ1 i .un) (v :: pv) (d :: pd) ∧ I (j + 1) acc, fun H' ⟨acc, A', i'⟩ => ⟨m - 1, by omega, acc, A', i', by omega⟩, fun y H' hy => ?_⟩
    have A3 : At X.K (M.plus D0 acc) ((wipe σ [i]).set i (some y)) H' (put ρ1 i (.val ds[j])) (v :: pv) (d :: pd) := by
      have := At.put (g2 y H' hy) i rfl rfl
      rwa [put_put] at this
    have back : ∀ {H' : Hp} {acc : List D}, At X.K (M.plus D0 acc) ((wipe σ [i]).set i (some y)) H' (put ρ1 i (.val ds[j])) (v :: pv) (d :: pd) → At X.K (M.plus D0 acc) (wipe σ [i]) H' (put ρ1 i .un) (v :: pv) (d :: pd) := fun {H' acc} A => by
      have := A.unset i (σ' := wipe σ [i]) (by rw [List.length_set]) fun k hk => by rw [List.getElem?_set_ne (fun z => hk z.symm)]
      rwa [put_put] at this
    refine ⟨by rw [w0, w0, List.set_set, List.set_set], ?_⟩
    refine sT _ _ _ _ _ _ _ _ A3 (hs j ds[j] acc (List.getElem?_eq_getElem hi) i2) fun b H3 ρ2 A4 h4 => ?_
    obtain ⟨rfl, h4⟩ := h4
    cases b with
    | true =>
      rw [if_pos rfl] at h4 ⊢
      refine sE _ _ _ _ _ _ _ _ A4 h4 fun z dz H4 ρ3 A5 h5 => ?_
      obtain ⟨rfl, hz, h5⟩ := h5
      obtain ⟨xs, e1, e2⟩ := A5.gh
      exact ⟨xs, e1, by rw [e2]; exact size_lt hz, _, back (A5.grow e1), h5⟩
    | false =>
      rw [if_neg Bool.false_ne_true] at h4 ⊢
      exact ⟨acc, back A4, h4⟩
  · have ei : j = ds.length := by omega
    subst ei
    refine .inl ⟨(sk _ _ H2 _ pv pd A2).2, q D0 acc H2 _ ?_ (hd acc i2)⟩
    have := A2.pop.unset i (σ' := σ) (l0 σ).symm fun k hk => by rw [w0, List.getElem?_set_ne (fun z => hk z.symm)]
    rwa [put_put] at this

/-! ## slices -/
section
variable {X : Cx} {K : Fg} {a e : Expr} {lo hi : Option Expr} {ta tb : TE} {wa wb : WE} {pos p2 : Pos}
abbrev WO := Rho → (Option Int → Rho → Prop) → Prop
def SndO (K : Fg) (t : TO) (w : WO) : Prop := ∀ (M : Amb) (σ : L2.St) (H : Hp) (ρ : Rho) (pv : List V) (pd : List D) (P : Option Int → Rho → Prop) (Q : Option Int → Hp → Prop),
  At K M σ H ρ pv pd → w ρ P → (∀ o H' ρ', At K M σ H' ρ' pv pd → P o ρ' → Q o H') → t σ H Q
structure DO (X : Cx) (e : Option Expr) (t : TO) (w : WO) : Prop where
  po : PO X e t
  sd : SndO X.K t w
def wNoPart : WO := fun ρ P => P none ρ
def wPart (wa : WE) : WO := fun ρ P => wa ρ fun d ρ1 => match d with
  | .int i => P (some i) ρ1
  | _ => False
theorem do_none : DO X none tNoPart wNoPart := ⟨po_none, fun M σ H ρ pv pd P Q A h q => q _ _ _ A h⟩
theorem do_some (h : DE X e ta wa) : DO X (some e) (tPart ta) (wPart wa) := ⟨po_some h.pe, fun M σ H ρ pv pd P Q A hw q => by
  refine h.sd M σ H ρ pv pd _ _ A hw fun v d H1 ρ1 A1 h1 => ?_
  have A2 := A1.pop
  obtain ⟨ow, B, hp⟩ := A1
  cases hp with
  | cons g1 hp =>
    cases g1 with
    | int i => exact ⟨i, rfl, q _ _ _ A2 h1⟩
    | _ => exact h1.elim⟩
def cutD (xs : List D) (lo hi : Option Int) : List D := (xs.drop (HT.sIx xs.length 0 lo)).take (HT.sIx xs.length xs.length hi - HT.sIx xs.length 0 lo)
theorem cut_dv {lc : Option Addr} {H : Hp} {ds : List D} {vs : List V} {lo hi : Option Int} (h : DvAll K lc H vs ds) : DvAll K lc H (cutV vs lo hi) (cutD ds lo hi) := by
  unfold cutV cutD
  rw [h.length]
  exact (h.drop _).take _
def wSlL (wa : WE) (w1 w2 : WO) : WF := fun ρ P => wa ρ fun d ρ1 => w1 ρ1 fun lo ρ2 => w2 ρ2 fun hi ρ3 => match d with
  | .list ds => P (cutD ds lo hi) ρ3
  | _ => False
variable {t1 t2 : TO} {w1 w2 : WO}
theorem df_slice (he : DE X e ta wa) (hl : DO X lo t1 w1) (hu : DO X hi t2 w2) : DF X (.Subscript e (.Slice lo hi none p2) pos) (tSl (rSlL X.K) ta t1 t2) (wSlL wa w1 w2) := ⟨pe_slice sl_list he.pe hl.po hu.po, fun M σ H ρ pv pd P Q A h q => by
  refine he.sd M σ H ρ pv pd _ _ A h fun v d H1 ρ1 A1 h1 => ?_
  refine hl.sd M σ H1 ρ1 _ _ _ _ A1 h1 fun lo H2 ρ2 A2 h2 => ?_
  refine hu.sd M σ H2 ρ2 _ _ _ _ A2 h2 fun hi H3 ρ3 A3 h3 => ?_
  obtain ⟨ow, B, hp⟩ := A3
  cases hp with
  | cons g1 hp =>
    obtain ⟨ds, rfl⟩ : ∃ ds, d = .list ds := by cases d <;> first | exact ⟨_, rfl⟩ | exact h3.elim
    cases g1 with
    | @lst l xs _ g1 g2 =>
      refine ⟨l, xs, rfl, .of (hide_le _ _ g1), fun p hp0 => q p _ _ _ (At.plus ⟨ow, B, (cut_dv g2).app hp⟩ (cut_dv g2).length hp0) h3⟩⟩
def wSlT (wa : WE) (w1 w2 : WO) : WE := fun ρ P => wa ρ fun d ρ1 => w1 ρ1 fun lo ρ2 => w2 ρ2 fun hi ρ3 => match d with
  | .tuple ds => P (.tuple (cutD ds lo hi)) ρ3
  | _ => False
theorem de_slice (he : DE X e ta wa) (hl : DO X lo t1 w1) (hu : DO X hi t2 w2) : DE X (.Subscript e (.Slice lo hi none p2) pos) (tSl (rSlA X.K) ta t1 t2) (wSlT wa w1 w2) := ⟨pe_slice sl_tupA he.pe hl.po hu.po, fun M σ H ρ pv pd P Q A h q => by
  refine he.sd M σ H ρ pv pd _ _ A h fun v d H1 ρ1 A1 h1 => ?_
  refine hl.sd M σ H1 ρ1 _ _ _ _ A1 h1 fun lo H2 ρ2 A2 h2 => ?_
  refine hu.sd M σ H2 ρ2 _ _ _ _ A2 h2 fun hi H3 ρ3 A3 h3 => ?_
  obtain ⟨ow, B, hp⟩ := A3
  cases hp with
  | cons g1 hp =>
    obtain ⟨ds, rfl⟩ : ∃ ds, d = .tuple ds := by cases d <;> first | exact ⟨_, rfl⟩ | exact h3.elim
    cases g1 with
    | @tup l xs _ g1 g2 =>
      refine ⟨l, xs, rfl, same_t hide_le g1, fun z => ?_, fun z p hp0 => ?_⟩
      · have e : cutD ds lo hi = ds := by
          have hl := g2.length
          rw [hl] at z
          unfold cutD
          rw [z.1, z.2]
          simp
        have h3' : P (.tuple (cutD ds lo hi)) ρ3 := h3
        rw [e] at h3'
        exact q _ _ _ _ ⟨ow, B, .cons (.tup g1 g2) hp⟩ h3'
      · have e := same_new (o := .tup (cutV xs lo hi)) hp0
        exact q _ _ _ _ ⟨ow, B.step (.of e) (B.cok.mono e), .cons (.tup (.of (new_vis B.hall hp0)) ((cut_dv g2).mono (vis_of e))) (hp.mono (B.vis (.of e)))⟩ h3⟩
end
end DL

namespace DL
open PySem PySem.Spec PyProof.Rows L2
/-- += of ints -/
def dAddI : D → D → (D → Prop) → Prop
  | .int i, .int j, P => P (.int (i + j))
  | _, _, _ => False
theorem sn2_iadd {K : Fg} : Sn2 K (rI0 fun i j => .int (i + j)) dAddI := sn2_I0 fun a b P h => by
  cases a <;> cases b <;> first | exact ⟨_, _, rfl, rfl, h⟩ | exact h.elim
def wFree (wf : WF) : WE := fun ρ P => wf ρ fun ds ρ1 => P (.list ds) ρ1
/-! ## facts about == of data -/
theorem eqOk_int (i j : Int) : eqOk (.int i) (.int j) := ⟨rfl, rfl, .inl (by simp [PyData.depth])⟩
theorem dEq_int {i j : Int} {P : D → Prop} (h : P (.bool (decide (i = j)))) : dEq (.int i) (.int j) P := ⟨eqOk_int i j, by
  have e : PyData.eqv (.int i) (.int j) = decide (i = j) := by simp [PyData.eqv, Bool.beq_eq_decide_eq]
  rw [e]; exact h⟩
theorem dNe_int {i j : Int} {P : D → Prop} (h : P (.bool (!decide (i = j)))) : dNe (.int i) (.int j) P := ⟨eqOk_int i j, by
  have e : PyData.eqv (.int i) (.int j) = decide (i = j) := by simp [PyData.eqv, Bool.beq_eq_decide_eq]
  rw [e]; exact h⟩
theorem dEq_ii {i j : Int} {P : D → Prop} : dEq (.int i) (.int j) P = P (.bool (decide (i = j))) := propext ⟨fun h => by
  have e : PyData.eqv (.int i) (.int j) = decide (i = j) := by simp [PyData.eqv, Bool.beq_eq_decide_eq]
  rw [← e]; exact h.2, dEq_int⟩
theorem dNe_ii {i j : Int} {P : D → Prop} : dNe (.int i) (.int j) P = P (.bool (!decide (i = j))) := propext ⟨fun h => by
  have e : PyData.eqv (.int i) (.int j) = decide (i = j) := by simp [PyData.eqv, Bool.beq_eq_decide_eq]
  rw [← e]; exact h.2, dNe_int⟩
theorem dIx_t {ds : List D} {i : Int} {P : D → Prop} {d : D} (h : atI ds i = some d) : dIx (.tuple ds) (.int i) P = P d := propext ⟨fun ⟨e, h1, h2⟩ => by
  rw [h] at h1; cases h1; exact h2, fun p => ⟨d, h, p⟩⟩
theorem dIx_t0 {a : D} {ds : List D} {P : D → Prop} : dIx (.tuple (a :: ds)) (.int 0) P = P a := dIx_t (atI_nat (j := 0) rfl)
theorem dIx_t1 {a b : D} {ds : List D} {P : D → Prop} : dIx (.tuple (a :: b :: ds)) (.int 1) P = P b := dIx_t (atI_nat (j := 1) rfl)
theorem dIx_t2 {a b c : D} {ds : List D} {P : D → Prop} : dIx (.tuple (a :: b :: c :: ds)) (.int 2) P = P c := dIx_t (atI_nat (j := 2) rfl)
theorem dIx_l {ds : List D} {i : Int} {P : D → Prop} {d : D} (h : atI ds i = some d) : dIx (.list ds) (.int i) P = P d := propext ⟨fun ⟨e, h1, h2⟩ => by
  rw [h] at h1; cases h1; exact h2, fun p => ⟨d, h, p⟩⟩
theorem dIx_l0 {a : D} {ds : List D} {P : D → Prop} : dIx (.list (a :: ds)) (.int 0) P = P a := dIx_l (atI_nat (j := 0) rfl)
theorem dIx_l1 {a b : D} {ds : List D} {P : D → Prop} : dIx (.list (a :: b :: ds)) (.int 1) P = P b := dIx_l (atI_nat (j := 1) rfl)
theorem dIx_l2 {a b c : D} {ds : List D} {P : D → Prop} : dIx (.list (a :: b :: c :: ds)) (.int 2) P = P c := dIx_l (atI_nat (j := 2) rfl)
theorem divOk_of {j : Int} {b : Nat} (h : j ≠ 0) (hb : j.natAbs < 2 ^ b) (h0 : 0 < b) (h9 : b ≤ 9000) : divOk j := ⟨h, Nat.lt_of_lt_of_le (PySem.Flt.log2_lt_of h0 hb) h9⟩
theorem mulOk_of {i j : Int} {a b : Nat} (ha : i.natAbs < 2 ^ a) (hb : j.natAbs < 2 ^ b) (h0 : 0 < a) (h1 : 0 < b) (h : a + b ≤ 1000000) : mulOk i j := .inr (wide_mul ha hb h0 h1 h)
end DL
namespace DL
open PySem PySem.Spec PyProof.Rows L2
theorem atI_in {α : Type} {xs : List α} {i : Int} (h0 : 0 ≤ i) (h1 : i < xs.length) : ∃ v, atI xs i = some v ∧ v ∈ xs ∧ xs[i.toNat]? = some v := by
  have hlt : i.toNat < xs.length := by omega
  refine ⟨xs[i.toNat], ?_, List.getElem_mem hlt, List.getElem?_eq_getElem hlt⟩
  have := atI_nat (xs := xs) (j := i.toNat) (v := xs[i.toNat]) (List.getElem?_eq_getElem hlt)
  rwa [Int.toNat_of_nonneg h0] at this
theorem dIx_mem {ds : List D} {i : Int} {P : D → Prop} (h0 : 0 ≤ i) (h1 : i < ds.length) (h : ∀ d, ds[i.toNat]? = some d → P d) : dIx (.list ds) (.int i) P := by
  obtain ⟨v, e, _, e2⟩ := atI_in h0 h1
  exact ⟨v, e, h v e2⟩
theorem dIx_memT {ds : List D} {i : Int} {P : D → Prop} (h0 : 0 ≤ i) (h1 : i < ds.length) (h : ∀ d, ds[i.toNat]? = some d → P d) : dIx (.tuple ds) (.int i) P := by
  obtain ⟨v, e, _, e2⟩ := atI_in h0 h1
  exact ⟨v, e, h v e2⟩
theorem wForD_of {ds : List D} {wg : WG} {wb : WS} {DD : DEnds} {ρ : Rho} (I : Nat → Rho → Prop) (h0 : I 0 ρ) (hs : ∀ i x ρ, ds[i]? = some x → I i ρ → wg x ρ fun ρ1 => wb { DD with nx := I (i + 1), ct := I (i + 1), bk := DD.nx } ρ1) (hd : ∀ ρ, I ds.length ρ → DD.nx ρ) : wForD ds wg wb DD ρ := ⟨I, h0, hs, hd⟩
theorem wForN_of {lo : Int} {n : Nat} {wg : WG} {wb : WS} {DD : DEnds} {ρ : Rho} (I : Nat → Rho → Prop) (h0 : I 0 ρ) (hs : ∀ i ρ, i < n → I i ρ → wg (.int (lo + i)) ρ fun ρ1 => wb { DD with nx := I (i + 1), ct := I (i + 1), bk := DD.nx } ρ1) (hd : ∀ ρ, I n ρ → DD.nx ρ) : wForD (rngD lo n) wg wb DD ρ :=
  ⟨I, h0, fun i x ρ hx hi => by
    obtain ⟨h1, rfl⟩ := rngD_get hx
    exact hs i ρ h1 hi, fun ρ h => hd ρ (by rwa [rngD_len] at h)⟩
theorem isi_ii (i : Int) : isiD "int" (.int i) = some true := by show kitB "int" "int" = some true; decide +kernel
theorem isi_ib (b : Bool) : isiD "int" (.bool b) = some true := by show kitB "bool" "int" = some true; decide +kernel
theorem isi_in : isiD "int" .none = some false := by show kitB "NoneType" "int" = some false; decide +kernel
theorem isi_is (s : Str) : isiD "int" (.str s) = some false := by show kitB "str" "int" = some false; decide +kernel
theorem isi_il (s : List D) : isiD "int" (.list s) = some false := by show kitB "list" "int" = some false; decide +kernel
theorem isi_it (s : List D) : isiD "int" (.tuple s) = some false := by show kitB "tuple" "int" = some false; decide +kernel
theorem isi_bi (i : Int) : isiD "bool" (.int i) = some false := by show kitB "int" "bool" = some false; decide +kernel
theorem isi_bb (b : Bool) : isiD "bool" (.bool b) = some true := by show kitB "bool" "bool" = some true; decide +kernel
theorem isi_bn : isiD "bool" .none = some false := by show kitB "NoneType" "bool" = some false; decide +kernel
theorem isi_bs (s : Str) : isiD "bool" (.str s) = some false := by show kitB "str" "bool" = some false; decide +kernel
theorem isi_bl (s : List D) : isiD "bool" (.list s) = some false := by show kitB "list" "bool" = some false; decide +kernel
theorem isi_bt (s : List D) : isiD "bool" (.tuple s) = some false := by show kitB "tuple" "bool" = some false; decide +kernel
theorem isi_ti (i : Int) : isiD "tuple" (.int i) = some false := by show kitB "int" "tuple" = some false; decide +kernel
theorem isi_tb (b : Bool) : isiD "tuple" (.bool b) = some false := by show kitB "bool" "tuple" = some false; decide +kernel
theorem isi_tn : isiD "tuple" .none = some false := by show kitB "NoneType" "tuple" = some false; decide +kernel
theorem isi_ts (s : Str) : isiD "tuple" (.str s) = some false := by show kitB "str" "tuple" = some false; decide +kernel
theorem isi_tl (s : List D) : isiD "tuple" (.list s) = some false := by show kitB "list" "tuple" = some false; decide +kernel
theorem isi_tt (s : List D) : isiD "tuple" (.tuple s) = some true := by show kitB "tuple" "tuple" = some true; decide +kernel
end DL

namespace DL
open PySem PySem.Spec PyProof.Rows L2
/-! ## math.isqrt, math.lcm -/
def bIsqrt : List D → (D → Prop) → Prop
  | [.int i], P => 0 ≤ i ∧ i.toNat.log2 < 13000 ∧ ∀ r : Nat, r * r ≤ i.toNat → i.toNat < (r + 1) * (r + 1) → P (.int (r : Nat))
  | _, _ => False
def rIsqrt : List V → Hp → VK → Prop := fun vs H Q => ∃ a : Int, vs = [.int a] ∧ 0 ≤ a ∧ a.toNat.log2 < 13000 ∧ Q (.int ((Float64.isqrt a.toNat : Nat) : Int)) H
theorem cr_isqrt {X : Cx} : CallR X (.builtin "math.isqrt") rIsqrt := by
  intro pins s σ H vs us Q I r h
  obtain ⟨a, rfl, h0, h1, q⟩ := h
  obtain ⟨u, rfl, ru⟩ := Vals.one r
  obtain ⟨t, rfl⟩ := ru
  exact call_function_meets PySem.W.MGF.kind_isqrt PySem.W.MGF.plain_isqrt PySem.W.MGF.entry_isqrt (PySem.W.MGF.args_isqrt _) (PySem.W.mg_run_isqrt a t (by omega) (by omega) (by omega)).meets ⟨.int _, H, I.tok _, ⟨_, rfl⟩, q⟩
theorem snc_isqrt {K : Fg} : SnC K rIsqrt bIsqrt := fun lc hd H xs as P Q al hx h q => by
  unfold bIsqrt at h
  split at h
  · obtain ⟨x, rfl, g⟩ := da1 hx
    cases g
    exact ⟨_, rfl, h.1, h.2.1, q _ _ H (Same.refl H) (.int _) (h.2.2 _ (Float64.isqrt_spec _).1 (Float64.isqrt_spec _).2)⟩
  · exact h.elim
def lcmOk (a b : Int) : Prop := a.natAbs.log2 < 13000 ∧ b.natAbs.log2 < 13000
def bLcm : List D → (D → Prop) → Prop
  | [.int i, .int j], P => lcmOk i j ∧ P (.int (Nat.lcm i.natAbs j.natAbs : Nat))
  | _, _ => False
def rLcm : List V → Hp → VK → Prop := fun vs H Q => ∃ a b : Int, vs = [.int a, .int b] ∧ lcmOk a b ∧ Q (.int ((Nat.lcm a.natAbs b.natAbs : Nat) : Int)) H
theorem log2_lt {n k : Nat} (h : n.log2 < k) : n < 2 ^ k := by
  by_cases h0 : n = 0
  · subst h0; exact Nat.pow_pos (by decide)
  · exact (Nat.log2_lt h0).mp h
theorem log2_le_of {n k : Nat} (hk : 0 < k) (h : n < 2 ^ k) : n.log2 < k := PySem.Flt.log2_lt_of hk h
set_option exponentiation.threshold 30000 in
theorem cr_lcm {X : Cx} : CallR X (.builtin "math.lcm") rLcm := by
  intro pins s σ H vs us Q I r h
  obtain ⟨a, b, rfl, ⟨h0, h1⟩, q⟩ := h
  obtain ⟨t, u, rfl⟩ := Vals.int2 r
  have l0 := log2_lt h0
  have l1 := log2_lt h1
  have e1 : Nat.lcm 1 a.natAbs = a.natAbs := by simp
  have hl : (Nat.lcm a.natAbs b.natAbs) < 2 ^ 26000 := by
    have : Nat.lcm a.natAbs b.natAbs ≤ a.natAbs * b.natAbs := Nat.div_le_self _ _
    have m := Nat.mul_lt_mul'' l0 l1
    rw [← Nat.pow_add] at m
    omega
  have g := PySem.W.mg_run_lcm a t b u
    (by
      have : (max 1 a.natAbs) < 2 ^ 13000 := by
        have := Nat.one_lt_two_pow (n := 13000) (by decide)
        omega
      have := log2_le_of (k := 13000) (by decide) this
      omega)
    (by
      have : (max a.natAbs b.natAbs) < 2 ^ 13000 := by omega
      have := log2_le_of (k := 13000) (by decide) this
      omega)
    (by
      rw [e1]
      show ((Nat.lcm a.natAbs b.natAbs : Nat) : Int).natAbs.log2 < bitsLine
      rw [Int.natAbs_natCast]
      have := log2_le_of (k := 26000) (by decide) hl
      have e : bitsLine = 134217728 := by decide
      omega)
  rw [e1] at g
  exact call_function_meets PySem.W.MGF.kind_lcm PySem.W.MGF.plain_lcm PySem.W.MGF.entry_lcm (PySem.W.MGF.args_lcm _ _) g.meets ⟨.int _, H, I.tok _, ⟨_, rfl⟩, q⟩
theorem snc_lcm {K : Fg} : SnC K rLcm bLcm := fun lc hd H xs as P Q al hx h q => by
  unfold bLcm at h
  split at h
  · obtain ⟨x, y, rfl, g, g'⟩ := da2 hx
    cases g
    cases g'
    exact ⟨_, _, rfl, h.1, q _ _ H (Same.refl H) (.int _) h.2⟩
  · exact h.elim
theorem fdiv_pos {a b : Int} (h : 0 ≤ b) : a.fdiv b = a / b := Int.fdiv_eq_ediv_of_nonneg a h
theorem absite (a : Int) : (if a < 0 then -a else a) = (a.natAbs : Int) := by split <;> omega
theorem lt_pow_of {n m k l : Nat} (h : n < 2 ^ k) (h1 : m ≤ n + 1) (h2 : k < l) : m < 2 ^ l := by
  have : 2 ^ (k + 1) ≤ 2 ^ l := Nat.pow_le_pow_right (by decide) h2
  have e : 2 ^ (k + 1) = 2 ^ k * 2 := Nat.pow_succ 2 k
  have p : 0 < 2 ^ k := Nat.pow_pos (by decide)
  omega
theorem abs_mul_le {x y : Int} {a b : Nat} (h1 : x.natAbs ≤ a) (h2 : y.natAbs ≤ b) : (x * y).natAbs ≤ a * b := by rw [Int.natAbs_mul]; exact Nat.mul_le_mul h1 h2
theorem fmod_bd {x m : Int} (hm : 0 < m) : 0 ≤ x.fmod m ∧ x.fmod m < m := ⟨Int.fmod_nonneg_of_pos x hm, Int.fmod_lt_of_pos x hm⟩
theorem e19 : (10 : Int) ^ (19 : Int).toNat = 10000000000000000000 := by decide
theorem p19 : CPow 10 19 := ⟨by decide, by decide, by decide⟩
theorem mem_cases {ds : List D} {i : Nat} {d : D} (h : ds[i]? = some d) : d ∈ ds := List.mem_of_getElem? h
theorem eqOk_t {xs ys : List Int} : eqOk (.tuple (xs.map .int)) (.tuple (ys.map .int)) := by
  have p : ∀ zs : List Int, PyData.plainAll (zs.map .int) = true := fun zs => by
    induction zs with
    | nil => rfl
    | cons z zs ih => simp [PyData.plainAll, PyData.plain, ih]
  have d : ∀ zs : List Int, PyData.depthAll (zs.map PyData.int) ≤ 1 := fun zs => by
    induction zs with
    | nil => simp [PyData.depthAll]
    | cons z zs ih => simp [PyData.depthAll, PyData.depth]; omega
  refine ⟨by simp [PyData.plain, p], by simp [PyData.plain, p], .inl ?_⟩
  have := d xs
  simp [PyData.depth]
  omega
theorem dEq_t2 {a b c d : Int} {P : D → Prop} : dEq (.tuple [.int a, .int b]) (.tuple [.int c, .int d]) P = P (.bool (decide (a = c ∧ b = d))) := propext ⟨fun h => by
  have e : PyData.eqv (.tuple [.int a, .int b]) (.tuple [.int c, .int d]) = decide (a = c ∧ b = d) := by simp [PyData.eqv, PyData.eqvAll, Bool.beq_eq_decide_eq]
  rw [← e]; exact h.2, fun h => ⟨eqOk_t (xs := [a, b]) (ys := [c, d]), by
  have e : PyData.eqv (.tuple [.int a, .int b]) (.tuple [.int c, .int d]) = decide (a = c ∧ b = d) := by simp [PyData.eqv, PyData.eqvAll, Bool.beq_eq_decide_eq]
  rw [e]; exact h⟩⟩
theorem dNe_t2 {a b c d : Int} {P : D → Prop} : dNe (.tuple [.int a, .int b]) (.tuple [.int c, .int d]) P = P (.bool (!decide (a = c ∧ b = d))) := propext ⟨fun h => by
  have e : PyData.eqv (.tuple [.int a, .int b]) (.tuple [.int c, .int d]) = decide (a = c ∧ b = d) := by simp [PyData.eqv, PyData.eqvAll, Bool.beq_eq_decide_eq]
  rw [← e]; exact h.2, fun h => ⟨eqOk_t (xs := [a, b]) (ys := [c, d]), by
  have e : PyData.eqv (.tuple [.int a, .int b]) (.tuple [.int c, .int d]) = decide (a = c ∧ b = d) := by simp [PyData.eqv, PyData.eqvAll, Bool.beq_eq_decide_eq]
  rw [e]; exact h⟩⟩
end DL

namespace DL
open PySem PySem.Spec PyProof.Rows L2

/-! ## lists that a name of the def owns: stores, and reading them without letting go -/
mutual
/-- no list lies within -/
def noList : D → Bool
  | .list _ => false
  | .tuple ds => noListA ds
  | .dict _ => false
  | _ => true
def noListA : List D → Bool
  | [] => true
  | d :: ds => noList d && noListA ds
end
section
variable {K : Fg} {lc : Option Addr} {H H' : Hp}
mutual
theorem Dv.strict (e : ∀ a o, H a = some o → (∀ xs, o ≠ .lst xs) → H' a = some o) : ∀ {d : D} {v : V}, noList d = true → Dv K lc H v d → Dv K lc H' v d
  | .none, _, _, h => by cases h; exact .non
  | .bool b, _, _, h => by cases h; exact .bl b
  | .int b, _, _, h => by cases h; exact .int b
  | .str b, _, _, h => by cases h; exact .str b
  | .list ds, _, n, h => by simp [noList] at n
  | .tuple ds, _, n, h => by
    cases h with
    | @tup a xs _ hs ha =>
      refine .tup ?_ (DvAll.strict e (by simpa [noList] using n) ha)
      rcases hs with (hs | ⟨o, hs⟩) | hs
      · exact .inl (.inl (e _ _ hs fun xs z => nomatch z))
      · exact .inl (.inr ⟨o, e _ _ hs fun xs z => nomatch z⟩)
      · exact .inr hs
  | .dict _, _, n, h => by simp [noList] at n
theorem DvAll.strict (e : ∀ a o, H a = some o → (∀ xs, o ≠ .lst xs) → H' a = some o) : ∀ {ds : List D} {vs : List V}, noListA ds = true → DvAll K lc H vs ds → DvAll K lc H' vs ds
  | [], _, _, h => by cases h; exact .nil
  | d :: ds, _, n, h => by
    cases h with
    | cons h1 h2 =>
      have q : noList d = true ∧ noListA ds = true := by simpa [noListA] using n
      exact .cons (Dv.strict e q.1 h1) (DvAll.strict e q.2 h2)
end
end
def noOw : Nat → Option Addr := fun _ => none
section
variable {K : Fg} {M : Amb} {H H' : Hp} {σ : L2.St} {ρ : Rho} {pv : List V} {pd : List D} {ow : Nat → Option Addr}
theorem hdO_noOw {b : Addr} (h : hdO M noOw b) : hdO M ow b := by
  rcases h with h | ⟨i, h⟩ | h
  · exact .inl h
  · exact nomatch h
  · exact .inr (.inr h)
theorem vis_noOw : Same (hide (hdO M ow) H) (hide (hdO M noOw) H) := hide_same fun b o n h => ⟨fun z => n (hdO_noOw z), h⟩
/-- data without lists doesn't meet what is owned -/
theorem AtW.strict (A : AtW K M σ H ρ ow) {v : V} {d : D} (n : noList d = true) (g : Dv K M.lc (hide (hdO M noOw) H) v d) : Dv K M.lc (hide (hdO M ow) H) v d :=
  Dv.strict (fun a o h hl => by
    obtain ⟨h1, h2⟩ := hide_some.mp h
    refine hide_some.mpr ⟨fun z => ?_, h2⟩
    rcases z with z | ⟨i, z⟩ | z
    · exact h1 (.inl z)
    · obtain ⟨f0, xs, f1⟩ := A.fre i a z
      rw [h2] at f1
      exact hl xs (Option.some.inj f1)
    · exact h1 (.inr (.inr z))) n g
/-- the owned list of slot i gets another content -/
theorem AtW.owset {i : Nat} {ds es : List D} {p : Addr} {ys : List V} (A : AtW K M σ H ρ ow) (e : look ρ i = .own ds) (hp : ow i = some p) (g : DvAll K M.lc (hide (hdO M ow) H) ys es) : AtW K M σ (upd H p (.lst ys)) (DL.put ρ i (.own es)) ow ∧ Same (hide (hdO M ow) H) (hide (hdO M ow) (upd H p (.lst ys))) := by
  obtain ⟨h1, xs, h3⟩ := A.fre i p hp
  have hid : hdO M ow p := .inr (.inl ⟨i, hp⟩)
  have vis : Same (hide (hdO M ow) H) (hide (hdO M ow) (upd H p (.lst ys))) := hide_same fun b o n h => by
    have hb : b ≠ p := fun z => n (z ▸ hid)
    exact ⟨n, by rw [upd_ne hb]; exact h⟩
  have nl : M.lc ≠ some p := A.nel h1
  have nd : ¬ M.hd p := A.ne h1
  refine ⟨?_, vis⟩
  exact {
    evo := fun b o n h => by
      have hb : b ≠ p := fun z => by
        subst z
        rw [h1] at h; cases h
      rw [upd_ne hb]; exact A.evo b o n h
    cok := fun b hb => by
      obtain ⟨⟨q, ns, pos, dig, cnt, e1, e2, e3, e4, e5, e6⟩, e7⟩ := A.cok b hb
      have hbp : b ≠ p := fun z => nl (z ▸ hb)
      have hqp : q ≠ p := fun z => nd (z ▸ A.sub q e6)
      refine ⟨⟨q, ns, pos, dig, cnt, by rw [upd_ne hbp]; exact e1, ?_, e3, e4, e5, e6⟩, e7⟩
      rcases e2 with (e2 | ⟨o, e2⟩) | e2
      · exact .inl (.inl (by rw [upd_ne hqp]; exact e2))
      · exact .inl (.inr ⟨o, by rw [upd_ne hqp]; exact e2⟩)
      · exact .inr e2
    sub := A.sub
    all := A.all
    len := by rw [put_length]; exact A.len
    val := fun j d hj => by
      by_cases hji : j = i
      · subst hji
        rcases look_put ρ j (.own es) with z | z <;> (rw [z] at hj; cases hj)
      · rw [look_put_ne _ _ _ _ hji] at hj
        obtain ⟨u, g1, g2⟩ := A.val j d hj
        exact ⟨u, g1, g2.mono vis⟩
    own := fun j cs hj => by
      by_cases hji : j = i
      · subst hji
        rcases look_put ρ j (.own es) with z | z
        · rw [z] at hj
          cases hj
          obtain ⟨p', xs', g1, g2, g3, g4⟩ := A.own j ds e
          cases hp.symm.trans g1
          exact ⟨p, ys, hp, g2, upd_same, g.mono vis⟩
        · rw [z] at hj; cases hj
      · rw [look_put_ne _ _ _ _ hji] at hj
        obtain ⟨p', xs', g1, g2, g3, g4⟩ := A.own j cs hj
        have hb : p' ≠ p := fun z => hji (A.inj j i p (z ▸ g1) hp)
        exact ⟨p', xs', g1, g2, by rw [upd_ne hb]; exact g3, g4.mono vis⟩
    fre := fun j q hj => by
      obtain ⟨f1, zs, f2⟩ := A.fre j q hj
      by_cases hb : q = p
      · subst hb
        exact ⟨f1, ys, upd_same⟩
      · exact ⟨f1, zs, by rw [upd_ne hb]; exact f2⟩
    inj := A.inj
    gho := fun q cs h => by
      obtain ⟨k1, k2, zs, k3, k4⟩ := A.gho q cs h
      have hb : q ≠ p := fun w => k2 i (w ▸ hp)
      exact ⟨k1, k2, zs, by rw [upd_ne hb]; exact k3, k4.mono vis⟩
    gnd := A.gnd }
end

/-! ### stores -/
def wApp (i : Nat) (wa : WE) : WS := fun DD ρ => match look ρ i with
  | .own _ => wa ρ fun d ρ1 => match look ρ1 i with
    | .own ds => ds.length < 100000 ∧ DD.nx (put ρ1 i (.own (ds ++ [d])))
    | _ => False
  | _ => False
def wSetIx (i : Nat) (wa wk : WE) : WS := fun DD ρ => wa ρ fun d ρ1 => match look ρ1 i with
  | .own _ => wk ρ1 fun k ρ2 => match k, look ρ2 i with
    | .int k, .own ds => ∃ j, ixN ds.length k = some j ∧ DD.nx (put ρ2 i (.own (ds.set j d)))
    | _, _ => False
  | _ => False
section
variable {X : Cx} {K : Fg} {a b e : Expr} {ta tb : TE} {wa wb : WE} {pos p p2 : Pos}
theorem ds_app {i : Nat} {x : Str} {px p1 p2 p3 : Pos} (he : DE X e ta wa) (hn : PE X (.Name x px) (tVar i)) (hbase : attributeBase (.Name x px) "append" X.env (eval (.Name x px) X.env) = eval (.Name x px) X.env := by rfl)
    (hfew : ((backTo p2 (starEach (e :: []) X.env)).all (fun x => !x.1) && (backToKw p2 (keywordEach [] X.env)).all (fun x => x.1.isSome) && decide ((e :: []).length + ([] : List Keyword).length + (if ([] : List Keyword).isEmpty then 0 else 1) < 30)) = true := by rfl)
    (hline : (p1.endLine == p2.line) = true := by rfl) (hs : starEach (e :: []) X.env = (false, eval e X.env) :: starEach [] X.env := by rfl) (hplain : (backTo p2 (starEach [] X.env)).any (·.1) = false := by rfl)
    (hsw : swapsWith (.Call (.Attribute (.Name x px) "append" p1) [e] [] p2) none p3.line X.env = pure false := by rfl) :
    DS X (.Expr (.Call (.Attribute (.Name x px) "append" p1) [e] [] p2) p3) (tDrop (tBM X.K "list" rAppend (tVar i) (tCons ta tNil))) (wApp i wa) :=
  ⟨ps_expr (pe_bm PySem.F.plainAttrs_list PySem.F.slot_list_append PySem.F.type_list_append mt_append hn (pa_cons he.pe pa_nil hs) hbase hfew hline hs hplain) hsw, fun M σ H ρ pv pd DD HD A h F => by
  have A0 := A
  obtain ⟨ow, B, hp⟩ := A
  unfold wApp at h
  split at h
  · next ds hds =>
    obtain ⟨q, xs, h1, h2, h3, h4⟩ := B.own i ds hds
    refine ⟨.ref q, h2, .inl ⟨rfl, xs, .of h3⟩, ?_⟩
    refine he.sd M σ H ρ pv pd _ _ A0 h fun v d H1 ρ1 A1 h1' => ?_
    split at h1'
    · next ds1 e1 =>
      obtain ⟨ow1, B1, hp1⟩ := A1
      cases hp1 with
      | cons gv hp1 =>
        obtain ⟨q1, xs1, k1, k2, k3, k4⟩ := B1.own i ds1 e1
        have : q1 = q := by
          rw [h2] at k2
          cases k2; rfl
        subst this
        refine ⟨q1, xs1, v, rfl, rfl, k3, ?_, ?_⟩
        · rw [k4.length]; exact size_lt h1'.1
        · obtain ⟨C, vis⟩ := B1.owset e1 k1 (k4.app (.cons gv .nil))
          exact F.nx _ _ _ ⟨ow1, C, hp1.mono vis⟩ h1'.2
    · exact h1'.elim
  · exact h.elim⟩
/-- x[k] = e, x a list of the def's own -/
theorem ds_setix {i : Nat} {x : Str} {px ps : Pos} (he : DE X e ta wa) (hk : DE X b tb wb) (hg : PG X (.Subscript (.Name x px) b p2) (gSub (tVar i) tb rSetL)) (hs : swapsWithSole [.Subscript (.Name x px) b p2] e ps.line X.env = pure false := by rfl) (hw : swappedStores [.Subscript (.Name x px) b p2] e X.env = pure none := by rfl)
    (h1 : (assignEach [.Subscript (.Name x px) b p2] X.env).map (·.2) = [assign (.Subscript (.Name x px) b p2) X.env] := by rfl)
    : DS X (.Assign [.Subscript (.Name x px) b p2] e ps) (tAsg ta (gSub (tVar i) tb rSetL)) (wSetIx i wa wb) :=
  ⟨ps_asg he.pe hg hs hw h1, fun M σ H ρ pv pd DD HD A h F => by
  refine he.sd M σ H ρ pv pd _ _ A h fun v d H1 ρ1 A1 h1 => ?_
  split at h1
  · next ds0 e0 =>
    have A1' := A1
    obtain ⟨ow0, B0, hp0⟩ := A1
    obtain ⟨q, xs0, k1, k2, k3, k4⟩ := B0.own i ds0 e0
    refine ⟨.ref q, k2, ?_⟩
    refine hk.sd M σ H1 ρ1 _ _ _ _ A1' h1 fun kk dk H2 ρ2 A2 h2 => ?_
    obtain ⟨ow2, B2, hp2⟩ := A2
    cases hp2 with
    | cons gk hp2 =>
      cases hp2 with
      | cons gv hp2 =>
        split at h2
        · next k ds e2 =>
          cases gk
          obtain ⟨j, ej, hnx⟩ := h2
          obtain ⟨q2, xs, l1, l2, l3, l4⟩ := B2.own i ds e2
          have : q2 = q := by
            rw [k2] at l2
            cases l2; rfl
          subst this
          obtain ⟨C, vis⟩ := B2.owset e2 l1 (l4.set gv j)
          exact ⟨q2, xs, k, j, rfl, rfl, l3, by rw [l4.length]; exact ej, F.nx _ _ _ ⟨ow2, C, hp2.mono vis⟩ hnx⟩
        · exact h2.elim
  · exact h1.elim⟩
end

/-! ### reading what is owned: names and ints alone, the heap stays as it is -/
def pureD : Rho → Nat → Option D := fun ρ i => match look ρ i with
  | .val d => some d
  | .own ds => some (.list ds)
  | .un => none
/-- a pure expression: its data from the names -/
abbrev WP := Rho → Option D
def SndP (K : Fg) (t : TE) (w : WP) : Prop := ∀ (M : Amb) (σ : L2.St) (H : Hp) (ρ : Rho) (ow : Nat → Option Addr) (d : D), AtW K M σ H ρ ow → w ρ = some d → ∃ v, Dv K M.lc (hide (hdO M noOw) H) v d ∧ ∀ Q : VK, Q v H → t σ H Q
structure DP (X : Cx) (e : Expr) (t : TE) (w : WP) : Prop where
  pe : PE X e t
  sd : SndP X.K t w
abbrev WPs := Rho → Option (List D)
def SndPs (K : Fg) (t : TA) (w : WPs) : Prop := ∀ (M : Amb) (σ : L2.St) (H : Hp) (ρ : Rho) (ow : Nat → Option Addr) (ds : List D), AtW K M σ H ρ ow → w ρ = some ds → ∃ vs, DvAll K M.lc (hide (hdO M noOw) H) vs ds ∧ ∀ Q : List V → Hp → Prop, Q vs H → t σ H Q
structure DPs (X : Cx) (es : List Expr) (t : TA) (w : WPs) : Prop where
  pa : PA X es t
  sd : SndPs X.K t w
def pNil : WPs := fun _ => some []
def pCons (a : WP) (r : WPs) : WPs := fun ρ => match a ρ, r ρ with
  | some d, some ds => some (d :: ds)
  | _, _ => none
def pName (i : Nat) : WP := fun ρ => pureD ρ i
def pC (d : D) : WP := fun _ => some d
section
variable {X : Cx} {K : Fg} {a b e : Expr} {es : List Expr} {ta tb : TE} {wa wb : WP} {t : TA} {wr : WPs} {pos p p2 : Pos}
theorem sndp_name (i : Nat) : SndP K (tVar i) (pName i) := fun M σ H ρ ow d A h => by
  unfold pName pureD at h
  split at h
  · next d' e =>
    cases h
    obtain ⟨v, h1, h2⟩ := A.val i _ e
    exact ⟨v, h2.mono vis_noOw, fun Q q => ⟨v, h1, q⟩⟩
  · next ds e =>
    cases h
    obtain ⟨q, xs, h1, h2, h3, h4⟩ := A.own i ds e
    refine ⟨.ref q, .lst (hide_some.mpr ⟨fun z => ?_, h3⟩) (h4.mono vis_noOw), fun Q q => ⟨_, h2, q⟩⟩
    rcases z with z | ⟨j, z⟩ | ⟨cs, z⟩
    · exact A.ne (A.fre i q h1).1 z
    · exact nomatch z
    · exact (A.gho q cs z).2.1 i h1
  · cases h
theorem dp_name (i : Nat) {x : Str} (hN : X.N[i]? = some x := by rfl) (hv : Vis X.env.scope x := by first | exact Or.inl rfl | exact Or.inr (Or.inl rfl) | exact Or.inr (Or.inr rfl)) (hd : (x == ("__debug__" : Str)) = false := by decide)
    (hcd : (x == ("__classdict__" : Str)) = false := by decide) : DP X (.Name x pos) (tVar i) (pName i) := ⟨pe_var hN hv hd hcd, sndp_name i⟩
theorem dp_int {i : Int} {j} : DP X (.Constant (.int i) j pos) (tC (.int i)) (pC (.int i)) := ⟨pe_int, fun M σ H ρ ow d A h => by cases h; exact ⟨_, .int i, fun Q q => q⟩⟩
theorem dps_nil : DPs X [] tNil pNil := ⟨pa_nil, fun M σ H ρ ow ds A h => by cases h; exact ⟨[], .nil, fun Q q => q⟩⟩
theorem dps_cons (ha : DP X e ta wa) (hr : DPs X es t wr) (hs : starEach (e :: es) X.env = (false, eval e X.env) :: starEach es X.env := by rfl) : DPs X (e :: es) (tCons ta t) (pCons wa wr) := ⟨pa_cons ha.pe hr.pa hs, fun M σ H ρ ow ds A h => by
  unfold pCons at h
  split at h
  · next d r e1 e2 =>
    cases h
    obtain ⟨v, g1, q1⟩ := ha.sd M σ H ρ ow d A e1
    obtain ⟨vs, g2, q2⟩ := hr.sd M σ H ρ ow r A e2
    exact ⟨v :: vs, .cons g1 g2, fun Q q => q1 _ (q2 _ q)⟩
  · cases h⟩
def wCallP (pre : List D → Prop) (post : List D → D → Prop) (wp : WPs) : WE := fun ρ P => match wp ρ with
  | some ds => pre ds ∧ ∀ d, post ds d → noList d = true ∧ P d ρ
  | none => False
theorem AtW.hallN {M : Amb} {σ : L2.St} {H : Hp} {ρ : Rho} {ow : Nat → Option Addr} (A : AtW K M σ H ρ ow) (b : Addr) (z : hdO M noOw b) : H b ≠ none := A.hall b (hdO_noOw z)
theorem snd_callP {pre : List D → Prop} {post : List D → D → Prop} {E : XK} (h : SndPs K t wr) : Snd K (tCall (SpD K pre post) [] E t) (wCallP pre post wr) := fun M σ H ρ pv pd P Q A hw q => by
  unfold wCallP at hw
  split at hw
  · next ds e1 =>
    obtain ⟨ow, B, hp⟩ := A
    obtain ⟨vs, g, k⟩ := h M σ H ρ ow ds B e1
    refine k _ ?_
    show SpD K pre post (vs ++ []) H Q E
    rw [List.append_nil]
    refine ⟨M.lc, M.hc, hdO M noOw, ds, g, B.cok, fun b z => .inl (B.sub b z), B.hallN, hw.1, fun v d H' e c g p => ?_⟩
    obtain ⟨nl, pp⟩ := hw.2 d p
    have B' := B.step e c
    exact q v d H' ρ ⟨ow, B', .cons (B'.strict nl g) (hp.mono (B.vis e))⟩ pp
  · exact hw.elim
theorem de_callP {CX : CXT} {k : Nat} {f : Addr} {fd : FuncData} {ps : List Str} {pre : List D → Prop} {post : List D → D → Prop} {E : XK} {x : Str} {K' : Fg} (F : FnOk X.prog X.w X.K X.mg X.base CX k f fd ps (SpD K' pre post)) (hr : Room k X.A) (hg : Gl X x) (hm : X.mg x = some (.ref f))
    (hk : PySem.W.keepIn X.K (.ref f) = true) (hb : Binds X.K fd ps []) (hx : Passes CX X E) (ha : DPs X (e :: es) t wr) (hK : X.K = K' := by rfl) (hdb : (x == ("__debug__" : Str)) = false := by decide) (he : starEach (e :: es) X.env = (false, eval e X.env) :: starEach es X.env := by rfl)
    (hpl : (backTo pos (starEach es X.env)).any (·.1) = false := by rfl) : DE X (.Call (.Name x p) (e :: es) [] pos) (tCall (SpD K' pre post) [] E t) (wCallP pre post wr) :=
  ⟨pe_call F hr hg hm hk hb .nil hx ha.pa hdb he hpl, by subst hK; exact snd_callP ha.sd⟩
/-- a comparison, an item of what names hold -/
def wBinP (w2 : D → D → (D → Prop) → Prop) (wa wb : WP) : WE := fun ρ P => match wa ρ, wb ρ with
  | some a, some b => w2 a b fun d => noList d = true ∧ P d ρ
  | _, _ => False
theorem snd_opP {r : R2} {w2 : D → D → (D → Prop) → Prop} (h2 : Sn2 K r w2) (ha : SndP K ta wa) (hb : SndP K tb wb) : Snd K (tOp r ta tb) (wBinP w2 wa wb) := fun M σ H ρ pv pd P Q A hw q => by
  unfold wBinP at hw
  split at hw
  · next x y e1 e2 =>
    obtain ⟨ow, B, hp⟩ := A
    obtain ⟨v, g1, k1⟩ := ha M σ H ρ ow x B e1
    obtain ⟨u, g2, k2⟩ := hb M σ H ρ ow y B e2
    refine k1 _ (k2 _ ?_)
    refine h2 M.lc (hdO M noOw) H v u x y _ _ B.hallN g1 g2 hw fun z d H' e g p => ?_
    have B' := B.step (.of e) (B.cok.mono e)
    exact q z d H' ρ ⟨ow, B', .cons (B'.strict p.1 g) (hp.mono (B.vis (.of e)))⟩ p.2
  · exact hw.elim
theorem de_cmpP {op : CmpOp} {r : R2} {w2 : D → D → (D → Prop) → Prop} (ho : OpR X (compareOp op) r) (h2 : Sn2 X.K r w2) (ha : DP X a ta wa) (hb : DP X b tb wb) (hm : behindInMarks op b = false := by first | exact nomark _ | rfl) : DE X (.Compare a [op] [b] pos) (tOp r ta tb) (wBinP w2 wa wb) := ⟨pe_cmpR ho ha.pe hb.pe hm, snd_opP h2 ha.sd hb.sd⟩
theorem dt_cmpP {op : CmpOp} {r : R2} {w2 : D → D → (D → Prop) → Prop} (ho : OpR X (compareOp op) r) (h2 : Sn2 X.K r w2) (ha : DP X a ta wa) (hb : DP X b tb wb) (hm : behindInMarks op b = false := by first | exact nomark _ | rfl) : DT X (.Compare a [op] [b] pos) (tTest (tOp r ta tb)) (wTest (wBinP w2 wa wb)) := ⟨pt_cmpR ho ha.pe hb.pe hm, snd_test (snd_opP h2 ha.sd hb.sd)⟩
theorem de_ixP {r : R2} {w2 : D → D → (D → Prop) → Prop} (ho : IxR X r) (h2 : Sn2 X.K r w2) (ha : DP X a ta wa) (hb : DP X b tb wb) (hs : PlainIx b := by exact fun _ _ => rfl) : DE X (.Subscript a b pos) (tOp r ta tb) (wBinP w2 wa wb) := ⟨pe_ix ho ha.pe hb.pe hs, snd_opP h2 ha.sd hb.sd⟩
def wTruP (wa : WP) : WT := fun ρ P => match wa ρ with
  | some a => match truD a with
    | some b => P b ρ
    | none => False
  | none => False
theorem dt_truP (ha : DP X a ta wa) (he : ∀ whole, isTrue a X.env whole = (do let v ← whole; standAt a.pos; holding [v] (truthy v)) := by intro _; rfl) :
    DT X a (fun σ H Q => ta σ H fun x H' => ∃ k, TruV X.K x H' k ∧ Q k H') (wTruP wa) := ⟨pt_truth ha.pe he, fun M σ H ρ pv pd P Q A hw q => by
  unfold wTruP at hw
  split at hw
  · next x e1 =>
    split at hw
    · next b e2 =>
      have A' := A
      obtain ⟨ow, B, hp⟩ := A
      obtain ⟨v, g1, k1⟩ := ha.sd M σ H ρ ow x B e1
      exact k1 _ ⟨b, tru_of e2 g1, q _ _ _ A' hw⟩
    · exact hw.elim
  · exact hw.elim⟩
def wBP (wc : List D → (D → Prop) → Prop) (wp : WPs) : WE := fun ρ P => match wp ρ with
  | some ds => wc ds fun d => noList d = true ∧ P d ρ
  | none => False
theorem snd_bP {r : List V → Hp → VK → Prop} {wc : List D → (D → Prop) → Prop} (hsn : SnC K r wc) (h : SndPs K t wr) : Snd K (tCB r t) (wBP wc wr) := fun M σ H ρ pv pd P Q A hw q => by
  unfold wBP at hw
  split at hw
  · next ds e1 =>
    obtain ⟨ow, B, hp⟩ := A
    obtain ⟨vs, g, k⟩ := h M σ H ρ ow ds B e1
    refine k _ ?_
    refine hsn M.lc (hdO M noOw) H vs ds _ _ B.hallN g hw fun v d H' e g p => ?_
    have B' := B.step (.of e) (B.cok.mono e)
    exact q v d H' ρ ⟨ow, B', .cons (B'.strict p.1 g) (hp.mono (B.vis (.of e)))⟩ p.2
  · exact hw.elim
theorem de_callBP {id : String} {x : Str} {r : List V → Hp → VK → Prop} {wc : List D → (D → Prop) → Prop} (hc : CallR X (.builtin id) r) (hs : SnC X.K r wc) (hg : Gl X x) (hm : X.mg x = none) (hv : bootBuiltins x = some (.builtin id)) (ha : DPs X (e :: es) t wr) (hn : x ≠ "__name__" := by decide)
    (hdb : (x == ("__debug__" : Str)) = false := by decide) (he : starEach (e :: es) X.env = (false, eval e X.env) :: starEach es X.env := by rfl) (hpl : (backTo pos (starEach es X.env)).any (·.1) = false := by rfl) : DE X (.Call (.Name x p) (e :: es) [] pos) (tCB r t) (wBP wc wr) :=
  ⟨pe_callB hc hg hm hv ha.pa hn hdb he hpl, snd_bP hs ha.sd⟩
/-- list(x) of an owned list: a new list of the same items, no list among them -/
def wFBP (wc : List D → (List D → Prop) → Prop) (wp : WPs) : WF := fun ρ P => match wp ρ with
  | some ds => wc ds fun es => noListA es = true ∧ P es ρ
  | none => False
theorem df_listP (hg : Gl X "list") (hm : X.mg "list" = none) (ha : DPs X (e :: es) t wr) (he : starEach (e :: es) X.env = (false, eval e X.env) :: starEach es X.env := by rfl) (hpl : (backTo pos (starEach es X.env)).any (·.1) = false := by rfl) :
    DF X (.Call (.Name "list" p) (e :: es) [] pos) (tCB (rListV X.K) t) (wFBP fList wr) := ⟨pe_callTy call_list_of hg hm (by decide +kernel) ha.pa (by decide) (by decide) he hpl, fun M σ H ρ pv pd P Q A hw q => by
  unfold wFBP at hw
  split at hw
  · next ds e1 =>
    obtain ⟨ow, B, hp⟩ := A
    obtain ⟨vs, g, k⟩ := ha.sd M σ H ρ ow ds B e1
    refine k _ ?_
    refine snf_list M.lc (hdO M noOw) H vs ds _ _ B.hallN g hw fun ys cs p g hn pp => ?_
    have gs : DvAll X.K M.lc (hide (hdO M ow) H) ys cs := DvAll.strict (fun a o h hl => by
      obtain ⟨h1, h2⟩ := hide_some.mp h
      refine hide_some.mpr ⟨fun z => ?_, h2⟩
      rcases z with z | ⟨i, z⟩ | z
      · exact h1 (.inl z)
      · obtain ⟨f0, xs, f1⟩ := B.fre i a z
        rw [h2] at f1
        exact hl xs (Option.some.inj f1)
      · exact h1 (.inr (.inr z))) pp.1 g
    exact q p cs _ ρ (At.plus ⟨ow, B, gs.app hp⟩ gs.length hn) pp.2
  · exact hw.elim⟩
end
end DL

namespace DL
open PySem PySem.Spec PyProof.Rows L2
/-! ## range with a step above zero -/
def rngC (lo c : Int) (n : Nat) : List D := (List.range n).map fun k => .int (lo + (k : Nat) * c)
theorem rngC_len (lo c : Int) (n : Nat) : (rngC lo c n).length = n := by simp [rngC]
theorem rngC_get {lo c : Int} {n i : Nat} {x : D} (h : (rngC lo c n)[i]? = some x) : i < n ∧ x = .int (lo + (i : Nat) * c) := by
  unfold rngC at h
  rw [List.getElem?_map] at h
  cases q : (List.range n)[i]? with
  | none => rw [q] at h; cases h
  | some k =>
    rw [q] at h
    obtain ⟨h1, h2⟩ := List.getElem?_eq_some_iff.mp q
    simp at h1 h2
    cases h
    exact ⟨h1, by rw [h2]⟩
def stepN (i j c : Int) : Nat := ((j - i + c - 1) / c).toNat
def wiR3 (wa : WA) : WI := fun ρ P => wa ρ fun ds ρ1 => match ds with
  | [.int i, .int j, .int c] => rngOk i ∧ rngOk j ∧ 0 < c ∧ c < 1000000 ∧ P (rngC i c (stepN i j c)) ρ1
  | _ => False
theorem src_rngC {K : Fg} {lo c : Int} {n : Nat} {v : V} {d : D} : SrcOk K (Itc lo c n) v d (rngC lo c n) := fun M σ H ρ pv pd A => by
  refine ⟨fun i hi => ?_, by rw [rngC_len]; exact Nat.le_refl n⟩
  have hi' : i < n := by rwa [rngC_len] at hi
  refine ⟨hi', fun x H' hy => ?_⟩
  obtain ⟨rfl, rfl⟩ := hy
  obtain ⟨ow, B, hp⟩ := A
  have e : (rngC lo c n)[i] = .int (lo + (i : Nat) * c) := (rngC_get (List.getElem?_eq_getElem hi)).2
  rw [e]
  exact ⟨ow, B, .cons (.int _) hp⟩
theorem rgC_pos {i j c : Int} (hi : rngOk i) (hj : rngOk j) (h0 : 0 < c) (h1 : c < 1000000) : RgC i j c (stepN i j c) := by
  obtain ⟨i1, i2⟩ := hi
  obtain ⟨j1, j2⟩ := hj
  have sz : Builtin.Range.rangeSize i j c = ((stepN i j c : Nat) : Int) := by
    unfold Builtin.Range.rangeSize stepN
    rw [if_pos h0]
    split
    · next h =>
      have e : j - i + c - 1 = (j - i - 1) + c := by omega
      rw [e, Int.add_ediv_of_dvd_right (Int.dvd_refl c), Int.ediv_self (by omega)]
      have := Int.ediv_nonneg (show 0 ≤ j - i - 1 by omega) (Int.le_of_lt h0)
      omega
    · next h =>
      have : (j - i + c - 1) / c ≤ 0 := by
        have : (j - i + c - 1) / c < 1 := Int.ediv_lt_of_lt_mul h0 (by omega)
        omega
      omega
  have szl : Builtin.Range.rangeSize i j c ≤ 2 ^ 63 - 1 ∧ 0 ≤ Builtin.Range.rangeSize i j c := by
    refine ⟨?_, by rw [sz]; exact Int.natCast_nonneg _⟩
    unfold Builtin.Range.rangeSize
    rw [if_pos h0]
    have p62 : (2 : Int) ^ 62 = 4611686018427387904 := by decide
    have p63 : (2 : Int) ^ 63 = 9223372036854775808 := by decide
    split
    · have := Int.ediv_le_self (a := j - i - 1) c (by omega)
      omega
    · omega
  have p62 : (2 : Int) ^ 62 = 4611686018427387904 := by decide
  have p63 : (2 : Int) ^ 63 = 9223372036854775808 := by decide
  have fits : ∀ x : Int, -9223372036854775808 ≤ x → x ≤ 9223372036854775807 → Builtin.Range.rangeFitsLong x = true := fun x h1 h2 => by
    unfold Builtin.Range.rangeFitsLong
    simp
    omega
  refine ⟨by omega, by omega, ?_, sz⟩
  unfold Builtin.Range.small
  rw [fits i (by omega) (by omega), fits j (by omega) (by omega), fits c (by omega) (by omega), fits _ (by omega) (by omega), if_pos h0, fits _ (by omega) (by omega)]
  simp
theorem da3 {K : Fg} {lc : Option Addr} {H : Hp} {xs : List V} {a b c : D} (h : DvAll K lc H xs [a, b, c]) : ∃ x y z, xs = [x, y, z] ∧ Dv K lc H x a ∧ Dv K lc H y b ∧ Dv K lc H z c := by
  cases h with
  | cons h1 h2 =>
    obtain ⟨y, z, rfl, h3, h4⟩ := da2 h2
    exact ⟨_, _, _, rfl, h1, h3, h4⟩
theorem di_rng3 {X : Cx} {tg a b c : Expr} {t : TA} {wr : WA} {p p2 : Pos} (hgl : Gl X "range") (hm : X.mg "range" = none) (ha : DA X [a, b, c] t wr) (hs : starEach [a, b, c] X.env = (false, eval a X.env) :: starEach [b, c] X.env := by rfl) (hpl : (backTo p2 (starEach [b, c] X.env)).any (·.1) = false := by rfl) :
    DI X tg (.Call (.Name "range" p) [a, b, c] [] p2) (iRng3 t) (wiR3 wr) := ⟨pi_range3 hgl hm ha.pa hs hpl, fun M σ H ρ pv pd P R A h q => by
  refine ha.sd M σ H ρ pv pd _ _ A h fun vs ds H1 ρ1 hl A1 h1 => ?_
  split at h1
  · next i j c =>
    have A2 := (At.popA A1 hl).dum
    obtain ⟨ow, B, hp⟩ := A1
    obtain ⟨v, v', v'', rfl, gv, gv', gv''⟩ := da3 (DvAll.split hl hp).1
    cases gv
    cases gv'
    cases gv''
    exact ⟨i, j, c, _, rfl, rgC_pos h1.1 h1.2.1 h1.2.2.1 h1.2.2.2.1, q _ _ _ _ _ _ A2 src_rngC h1.2.2.2.2⟩
  · exact h1.elim⟩
theorem wForC_of {lo c : Int} {n : Nat} {wg : WG} {wb : WS} {DD : DEnds} {ρ : Rho} (I : Nat → Rho → Prop) (h0 : I 0 ρ) (hs : ∀ i ρ, i < n → I i ρ → wg (.int (lo + i * c)) ρ fun ρ1 => wb { DD with nx := I (i + 1), ct := I (i + 1), bk := DD.nx } ρ1) (hd : ∀ ρ, I n ρ → DD.nx ρ) : wForD (rngC lo c n) wg wb DD ρ :=
  ⟨I, h0, fun i x ρ hx hi => by
    obtain ⟨h1, rfl⟩ := rngC_get hx
    exact hs i ρ h1 hi, fun ρ h => hd ρ (by rwa [rngC_len] at h)⟩
theorem eqOk_bb (a b : Bool) : eqOk (.bool a) (.bool b) := ⟨rfl, rfl, .inl (by simp [PyData.depth])⟩
theorem dNe_bb {a b : Bool} {P : D → Prop} : dNe (.bool a) (.bool b) P = P (.bool (!(a == b))) := propext ⟨fun h => by
  have e : PyData.eqv (.bool a) (.bool b) = (a == b) := by simp [PyData.eqv]
  rw [← e]; exact h.2, fun h => ⟨eqOk_bb a b, by
  have e : PyData.eqv (.bool a) (.bool b) = (a == b) := by simp [PyData.eqv]
  rw [e]; exact h⟩⟩
theorem dEq_bb {a b : Bool} {P : D → Prop} : dEq (.bool a) (.bool b) P = P (.bool (a == b)) := propext ⟨fun h => by
  have e : PyData.eqv (.bool a) (.bool b) = (a == b) := by simp [PyData.eqv]
  rw [← e]; exact h.2, fun h => ⟨eqOk_bb a b, by
  have e : PyData.eqv (.bool a) (.bool b) = (a == b) := by simp [PyData.eqv]
  rw [e]; exact h⟩⟩
end DL

namespace DL
open PySem PySem.Spec PyProof.Rows L2
/-! ## a call that is never reached -/
def pre_never : List D → Prop := fun _ => False
def post_never : List D → D → Prop := fun _ _ => False
theorem fn_never {P : Program} {w : World} {K K' : Fg} {mg : Str → Option Value} {base : Heap} {CX : CXT} {k : Nat} {f : Addr} {fd : FuncData} {ps : List Str} : FnOk P w K mg base CX k f fd ps (SpD K' pre_never post_never) where
  len := fun vs H Q E h => by
    obtain ⟨_, _, _, _, _, _, _, _, p, _⟩ := h
    exact p.elim
  run := fun A outer s H args us vs Q E _ _ _ _ h => by
    obtain ⟨_, _, _, _, _, _, _, _, p, _⟩ := h
    exact p.elim
/-! ## own[i + j] -/
section
variable {X : Cx} {K : Fg} {a b e : Expr} {ta tb : TE} {wa wb : WP} {pos : Pos}
def pAdd (wa wb : WP) : WP := fun ρ => match wa ρ, wb ρ with
  | some (.int i), some (.int j) => some (.int (i + j))
  | _, _ => none
def pSub (wa wb : WP) : WP := fun ρ => match wa ρ, wb ρ with
  | some (.int i), some (.int j) => some (.int (i - j))
  | _, _ => none
theorem dp_add (ha : DP X a ta wa) (hb : DP X b tb wb) : DP X (.BinOp a .Add b pos) (tOp (rAddD X.K) ta tb) (pAdd wa wb) := ⟨pe_op op_addD ha.pe hb.pe, fun M σ H ρ ow d A h => by
  unfold pAdd at h
  split at h
  · next i j e1 e2 =>
    cases h
    obtain ⟨v, g1, k1⟩ := ha.sd M σ H ρ ow _ A e1
    obtain ⟨u, g2, k2⟩ := hb.sd M σ H ρ ow _ A e2
    cases g1
    cases g2
    exact ⟨_, .int _, fun Q q => k1 _ (k2 _ (.inl ⟨_, _, rfl, rfl, q⟩))⟩
  · cases h⟩
theorem dp_sub (ha : DP X a ta wa) (hb : DP X b tb wb) : DP X (.BinOp a .Sub b pos) (tOp (rI0 fun i j => .int (i - j)) ta tb) (pSub wa wb) := ⟨pe_op op_sub ha.pe hb.pe, fun M σ H ρ ow d A h => by
  unfold pSub at h
  split at h
  · next i j e1 e2 =>
    cases h
    obtain ⟨v, g1, k1⟩ := ha.sd M σ H ρ ow _ A e1
    obtain ⟨u, g2, k2⟩ := hb.sd M σ H ρ ow _ A e2
    cases g1
    cases g2
    exact ⟨_, .int _, fun Q q => k1 _ (k2 _ ⟨_, _, rfl, rfl, q⟩)⟩
  · cases h⟩
end
/-! ## equality of texts -/
theorem dEq_ss {a b : Str} {P : D → Prop} : dEq (.str a) (.str b) P = P (.bool (a == b)) := propext ⟨fun h => by
  have e : PyData.eqv (.str a) (.str b) = (a == b) := by simp [PyData.eqv]
  rw [← e]; exact h.2, fun h => ⟨⟨rfl, rfl, .inl (by simp [PyData.depth])⟩, by
  have e : PyData.eqv (.str a) (.str b) = (a == b) := by simp [PyData.eqv]
  rw [e]; exact h⟩⟩
theorem dNe_ss {a b : Str} {P : D → Prop} : dNe (.str a) (.str b) P = P (.bool (!(a == b))) := propext ⟨fun h => by
  have e : PyData.eqv (.str a) (.str b) = (a == b) := by simp [PyData.eqv]
  rw [← e]; exact h.2, fun h => ⟨⟨rfl, rfl, .inl (by simp [PyData.depth])⟩, by
  have e : PyData.eqv (.str a) (.str b) = (a == b) := by simp [PyData.eqv]
  rw [e]; exact h⟩⟩
abbrev tQ : Str := Str.ofString "Q"
abbrev tF : Str := Str.ofString "F"
abbrev tP : Str := Str.ofString "P"
abbrev tZ : Str := Str.ofString "Z"
theorem s_QQ : (Str.ofString "Q" == Str.ofString "Q") = true := by decide +kernel
theorem s_FF : (Str.ofString "F" == Str.ofString "F") = true := by decide +kernel
theorem s_PP : (Str.ofString "P" == Str.ofString "P") = true := by decide +kernel
theorem s_ZZ : (Str.ofString "Z" == Str.ofString "Z") = true := by decide +kernel
theorem s_QF : (Str.ofString "Q" == Str.ofString "F") = false := by decide +kernel
theorem s_QP : (Str.ofString "Q" == Str.ofString "P") = false := by decide +kernel
theorem s_QZ : (Str.ofString "Q" == Str.ofString "Z") = false := by decide +kernel
theorem s_FQ : (Str.ofString "F" == Str.ofString "Q") = false := by decide +kernel
theorem s_FP : (Str.ofString "F" == Str.ofString "P") = false := by decide +kernel
theorem s_FZ : (Str.ofString "F" == Str.ofString "Z") = false := by decide +kernel
theorem s_PQ : (Str.ofString "P" == Str.ofString "Q") = false := by decide +kernel
theorem s_PF : (Str.ofString "P" == Str.ofString "F") = false := by decide +kernel
theorem s_PZ : (Str.ofString "P" == Str.ofString "Z") = false := by decide +kernel
theorem s_ZQ : (Str.ofString "Z" == Str.ofString "Q") = false := by decide +kernel
theorem s_ZF : (Str.ofString "Z" == Str.ofString "F") = false := by decide +kernel
theorem s_ZP : (Str.ofString "Z" == Str.ofString "P") = false := by decide +kernel
/-- equality of what is equal or not for a known reason -/
theorem dEq_of {x y : D} {b : Bool} {P : D → Prop} (h : eqOk x y) (e : PyData.eqv x y = b) : dEq x y P = P (.bool b) := propext ⟨fun z => e ▸ z.2, fun z => ⟨h, by rw [e]; exact z⟩⟩
theorem dNe_of {x y : D} {b : Bool} {P : D → Prop} (h : eqOk x y) (e : PyData.eqv x y = b) : dNe x y P = P (.bool (!b)) := propext ⟨fun z => e ▸ z.2, fun z => ⟨h, by rw [e]; exact z⟩⟩
end DL
namespace DL
open PySem PySem.Spec PyProof.Rows L2
theorem cutD_pre {xs : List D} {m : Nat} (h : m ≤ xs.length) : cutD xs none (some (m : Int)) = xs.take m := by
  unfold cutD
  rw [HT.sIx_none, HT.sIx_nat, Nat.min_eq_left h, Nat.sub_zero, List.drop_zero]
theorem cutD_suf {xs : List D} {m : Nat} (h : m ≤ xs.length) : cutD xs (some (m : Int)) none = xs.drop m := by
  unfold cutD
  rw [HT.sIx_none, HT.sIx_nat, Nat.min_eq_left h]
  exact List.take_of_length_le (by simp)
end DL
namespace DL
open PySem PySem.Spec PyProof.Rows L2
/-- a comprehension over range(N), without a condition, its items g j -/
theorem wCompR_of {N i : Nat} {we : WE} {ρ : Rho} {P : List D → Rho → Prop} (g : Nat → D) (hN : N ≤ 100000)
    (hs : ∀ (j : Nat) (Q : D → Rho → Prop), j < N → Q (g j) (put ρ i (.val (.int j))) → we (put ρ i (.val (.int j))) Q)
    (hP : P ((List.range N).map g) (put ρ i .un)) : wCompD (rngD 0 N) i wYes we ρ P := by
  refine ⟨fun j acc => acc = (List.range j).map g, rfl, fun j x acc hx hI => ?_, fun acc hI => ?_⟩
  · obtain ⟨h1, rfl⟩ := rngD_get hx
    subst hI
    refine ⟨rfl, ?_⟩
    rw [if_pos rfl, Int.zero_add]
    refine hs j _ h1 ⟨rfl, by simp; omega, ?_⟩
    show _ = (List.range (j + 1)).map g
    rw [List.range_succ, List.map_append]
    rfl
  · rw [rngD_len] at hI
    subst hI
    exact hP
end DL
namespace DL
open PySem PySem.Spec PyProof.Rows L2
/-- a comprehension over given items, without a condition, its answer es -/
theorem wCompL_of {ds es : List D} {i : Nat} {we : WE} {ρ : Rho} {P : List D → Rho → Prop} (hl : es.length = ds.length) (hN : ds.length ≤ 100000)
    (hs : ∀ (j : Nat) (x y : D) (Q : D → Rho → Prop), ds[j]? = some x → es[j]? = some y → Q y (put ρ i (.val x)) → we (put ρ i (.val x)) Q)
    (hP : P es (put ρ i .un)) : wCompD ds i wYes we ρ P := by
  refine ⟨fun j acc => acc = es.take j, rfl, fun j x acc hx hI => ?_, fun acc hI => ?_⟩
  · subst hI
    refine ⟨rfl, ?_⟩
    rw [if_pos rfl]
    have hj : j < ds.length := (List.getElem?_eq_some_iff.mp hx).1
    have hy : es[j]? = some es[j] := List.getElem?_eq_getElem (by omega)
    refine hs j x es[j] _ hx hy ⟨rfl, by simp; omega, ?_⟩
    show _ = es.take (j + 1)
    rw [List.take_succ, hy]
    rfl
  · rw [← hl, List.take_length] at hI
    subst hI
    exact hP
end DL

namespace DL
open PySem PySem.Spec PyProof.Rows L2
/-! ## enumerate(list), enumerate(list, start=k): pairs of a number and an item -/
def Itn (K : Fg) (k0 : Int) (a : Addr) : It where
  go i H := ∃ (ys : List V) (y : V), SqL K H a ys ∧ ys[i]? = some y
  yld i H v H' := ∃ T y, v = V.ref T ∧ H T = none ∧ H' = upd H T (.tup [.int (k0 + (i : Nat)), y]) ∧ (∀ ys, SqL K H a ys → ys[i]? = some y)
  stop i H := ∃ ys : List V, SqL K H a ys ∧ ys.length = i
def tnE (k0 : Int) (a e c : Addr) (i : Nat) (h : Heap) : Prop := (∃ old, IsEnum h e c (k0 + (i : Nat)) old) ∧ (h.IsListIter c a i ∧ e ≠ c)
theorem mem2 {b e c : Addr} (h : b ∈ [e, c]) : b = e ∨ b = c := by simpa using h
theorem turn_n {P : Program} {w : World} {K : Fg} {es : List Expr} {kk : Nat} {tp : Pos} (k0 : Int) (a e c : Addr) : Turn P w K (.Tuple es kk tp) (Itn K k0 a) [e, c] e (tnE k0 a e c) where
  mem := List.mem_cons_self ..
  obj i h st b hb := by
    have ⟨⟨_, he⟩, ⟨o, ho, _, hd⟩, _⟩ := st
    cases mem2 hb with
    | inl z => subst z; exact ⟨_, he, fun v q => nomatch q⟩
    | inr z => subst z; exact ⟨o, ho, fun v q => by rw [hd] at q; cases q⟩
  keep i h h' st k := by
    have ⟨⟨old, he⟩, hi, hne⟩ := st
    exact ⟨⟨old, k e (List.mem_cons_self ..) _ he⟩, (hi.at fun o q => k c (by simp) o q), hne⟩
  item := by
    intro X hP hw hK hc i pins s σ H E I hf st hg
    cases hP; cases hw; cases hK
    have ⟨⟨old, he⟩, hit, hne⟩ := st
    have ⟨ys, y, hq, hy⟩ := hg
    obtain ⟨its, rv, pl, _⟩ := I.list hq
    obtain ⟨u, hu, ru⟩ := rv.get hy
    have le := Heap.lt_size he
    have lc : c < s.heap.objs.size := by have ⟨_, q, _⟩ := hit; exact Heap.lt_size q
    have nea : e ≠ a := fun z => by
      have ⟨o, q1, q2⟩ := pl.isList
      rw [z] at he
      have z2 := q1.symm.trans he
      injection z2 with z2
      rw [z2] at q2
      exact absurd q2.1 (by simp)
    have hh := I.ok.hd hc
    have nca : a ≠ c := fun z => by
      have ⟨o, q1, q2⟩ := pl.isList
      have ⟨o', q3, q4, _⟩ := hit
      rw [← z] at q3
      have z2 := q1.symm.trans q3
      injection z2 with z2
      rw [z2] at q2
      exact absurd (q4.symm.trans q2.1) (by simp)
    have hlt : i < its.toArray.size := by
      have := (List.getElem?_eq_some_iff.mp hu).1
      simpa using this
    refine wpAny_pyNext_enum_itemC (Draws.list (A := X.A.in1) hh c a nca its.toArray) he ⟨hit, pl.isList⟩ hlt hne (by simp [hne, nea]) (fun x h1 tk hx ho hst1 hT hsz hk => ⟨_, rfl, wpAny_letOwnedTupleGo_enum (s := { s with heap := h1, toks := tk + 1 }) ho (fun h2 he2 sb => ?_)⟩)
    have hit1 := hst1.1
    have ex : x = u := by
      have : its[i]? = some x := by simpa using hx
      exact Option.some.inj (this.symm.trans hu)
    subst ex
    have hT2 := (sb.2 _ (Nat.ne_of_gt le)).trans hT
    have new : ObjOk X.prog X.w (upd H s.heap.objs.size (.tup [.int (k0 + (i : Nat)), y])) h2 s.heap.objs.size (.tup [.int (k0 + (i : Nat)), y]) := by
      refine ⟨?_, [.int (k0 + (i : Nat)) tk, x], .cons ⟨_, rfl⟩ (.cons ru .nil), _, hT2, rfl, _, rfl⟩
      show 2 ≤ sizeLine
      decide
    have I1 : Inv X pins σ (upd H s.heap.objs.size (.tup [.int (k0 + (i : Nat)), y])) { s with heap := h2, toks := tk + 1 } := by
      refine I.turnedNew (ch := [e, c]) (fun b ob hb q => ?_) hf (Nat.le_refl _) new
      have be : b ≠ e := fun z => hb (by simp [z])
      have bc : b ≠ c := fun z => hb (by simp [z])
      exact (sb.2 b be).trans (hk b ob be bc q)
    refine ⟨.ref s.heap.objs.size, _, I1, rfl, ⟨_, y, rfl, I.hok.fresh (Nat.le_refl _), rfl, fun zs hz => ?_⟩, ⟨⟨x, ?_⟩, hit1.at (fun o q => (sb.2 c (Ne.symm hne)).trans q), hne⟩, fun b hb => ?_⟩
    · rw [I.list_inj hz hq]; exact hy
    · rw [show k0 + ((i + 1 : Nat) : Int) = k0 + (i : Nat) + 1 by omega]
      exact he2
    · have hb' : b < s.heap.objs.size := by
        rcases mem2 hb with z | z <;> (rw [z]; assumption)
      rw [upd_ne (Nat.ne_of_lt hb')]
      exact (hf b hb).1
  done := by
    intro X hP hw hK hc i pins s σ H E I hf st hg
    cases hP; cases hw; cases hK
    have ⟨⟨old, he⟩, hit, hne⟩ := st
    have ⟨ys, hq, hy⟩ := hg
    obtain ⟨its, rv, pl, _⟩ := I.list hq
    have ⟨f0, f1, f2, f3, f4, f5⟩ := hf c (by simp)
    have hl := rv.length
    have hh := I.ok.hd hc
    have nca : a ≠ c := fun z => by
      have ⟨o, q1, q2⟩ := pl.isList
      have ⟨o', q3, q4, _⟩ := hit
      rw [← z] at q3
      have z2 := q1.symm.trans q3
      injection z2 with z2
      rw [z2] at q2
      exact absurd (q4.symm.trans q2.1) (by simp)
    refine wpAny_pyNext_enum_endD (Draws.list (A := X.A.in1) hh c a nca its.toArray) he ⟨?_, pl.isList⟩ (fun h' eb => ⟨rfl, ?_⟩)
    · have e : its.toArray.size = i := by simp; omega
      rw [e]; exact hit
    exact I.turned (t' := s.toks) (fun b o hb q => eb b o hb q) f0 f1 f3 f4 f5
  self A i s Q E st h := by
    have ⟨⟨_, he⟩, _⟩ := st
    exact wpAny_pyIter_enum he h
def iEnumD (K : Fg) (ta : TA) : TI := fun σ H R => ta σ H fun vs H1 => ∃ a ys, vs = [V.ref a] ∧ SqL K H1 a ys ∧ R (Itn K 0 a) H1
def iEnumS (K : Fg) (ta tb : TA) : TI := fun σ H R => ta σ H fun vs H1 => tb σ H1 fun ks H2 => ∃ a ys k, vs = [V.ref a] ∧ ks = [V.int k] ∧ -(2 ^ 62) ≤ k ∧ k < 2 ^ 62 ∧ SqL K H2 a ys ∧ R (Itn K k a) H2
theorem callWith_typeKw {M : Model} {A : Around} {E : Value → Shared → Prop} {s : Shared} {pos : Pos} {T : String} {first : List Value} {args : List (Bool × Sem Value)} {kws : List (Option Str × Sem Value)} {Q : Value → Shared → Prop} (hp : args.any (·.1) = false) (hk : kws.any (·.1.isNone) = false)
    (h : wpAny M A (evalArgs (.type T) true args kws) (fun a s1 => wpAny M A (call (.type T) (first ++ a.pos) a.kw) Q E s1) E s) : wpAny M A (callWith pos (.type T) first args kws) Q E s := by
  rw [callWith]
  refine wpAny_bind (wpAny_holding (wpAny_mono h (fun a s1 h1 => ?_) fun _ _ z => z))
  refine wpAny_bind (wpAny_standAt ?_)
  simp only [hp, hk, Bool.or_false]
  refine wpAny_bind (wpAny_pure (wpAny_bind (wpAny_mono h1 (fun r s2 hr => ?_) fun _ _ z => z)))
  exact wpAny_bind (wpAny_holding (wpAny_point (wpAny_pure hr)))
theorem vals_one {vs : List V} {us : List Value} {v : V} (h : Vals vs us) (e : vs = [v]) : ∃ u, us = [u] ∧ RelV v u := by
  subst e
  cases h with
  | cons r rr => cases rr; exact ⟨_, rfl, r⟩
theorem new2 {X : Cx} {pins : List (Addr × Obj)} {σ : L2.St} {H : Hp} {s : Shared} (I : Inv X pins σ H s) (b : Addr) (hb : b ∈ [s.heap.objs.size + 1, s.heap.objs.size]) : FpOk X pins H b := by
  have hle : s.heap.objs.size ≤ b := by
    rcases mem2 hb with z | z
    · rw [z]; exact Nat.le_succ _
    · rw [z]; exact Nat.le_refl _
  exact I.fpOk hle (I.hok.fresh hle)
section
variable {X : Cx} {e e2 : Expr} {ta tb : TA} {p pos tp kp : Pos} {es : List Expr} {kk : Nat}
theorem pi_enumD (hg : Gl X "enumerate") (hm : X.mg "enumerate" = none) (ha : PA X [e] ta) (hs : starEach [e] X.env = [(false, eval e X.env)] := by rfl) : PI X (.Tuple es kk tp) (.Call (.Name "enumerate" p) [e] [] pos) (iEnumD X.K ta) := by
  refine ⟨fun pins s σ H R I h => Call_ (ld_blt I hg hm boot_enumerate (PyProof.Rows.callWith_type1 (thn (ha.run pos pins s σ H _ I h) fun us s1 ⟨vs, H1, I1, r1, q1⟩ => ?_) hs rfl))⟩
  obtain ⟨a, ys, ex, hq, q⟩ := q1
  obtain ⟨u, rfl, ru⟩ := vals_one r1 ex
  cases ru
  obtain ⟨its, rv, pl, _⟩ := I1.list hq
  refine call_enumerate_list pl.isList (fun h1 he hit hsz hk => wpAny_pyIter_enum he ?_)
  exact ⟨s1.heap.objs.size + 1, [s1.heap.objs.size + 1, s1.heap.objs.size], _, _, H1, rfl, I1.kept (t' := s1.toks) hk, turn_n 0 a (s1.heap.objs.size + 1) s1.heap.objs.size, ⟨⟨.none, he⟩, hit, Nat.succ_ne_self _⟩, new2 (I1.kept (t' := s1.toks) hk |> fun _ => I1), q⟩
theorem pi_enumS (hg : Gl X "enumerate") (hm : X.mg "enumerate" = none) (ha : PA X [e] ta) (hb : PK X [⟨some (Str.ofString "start"), e2, kp⟩] tb) (hs : backTo pos (starEach [e] X.env) = [(false, eval e X.env)] := by rfl)
    (hall : (backToKw pos (keywordEach [⟨some (Str.ofString "start"), e2, kp⟩] X.env)).all (·.1.isSome) = true := by rfl) (hno : (backToKw pos (keywordEach [⟨some (Str.ofString "start"), e2, kp⟩] X.env)).any (·.1.isNone) = false := by rfl)
    (hks : (backToKw pos (keywordEach [⟨some (Str.ofString "start"), e2, kp⟩] X.env)).filterMap (·.1) = [Str.ofString "start"] := by rfl) :
    PI X (.Tuple es kk tp) (.Call (.Name "enumerate" p) [e] [⟨some (Str.ofString "start"), e2, kp⟩] pos) (iEnumS X.K ta tb) := by
  refine ⟨fun pins s σ H R I h => wpAny_Call_Name_kw (ld_blt I hg hm boot_enumerate (callWith_typeKw (by rw [hs]; rfl) hno ?_))⟩
  rw [hs]
  refine PyProof.Rows.evalArgs_kwB hall ?_
  have hr := ha.run pos pins s σ H _ I h
  rw [hs] at hr
  refine thn hr fun us s1 ⟨vs, H1, I1, r1, q1⟩ => thn (hb.run pos pins s1 σ H1 _ I1 q1) fun ws s2 ⟨zs, H2, I2, r2, q2⟩ => ?_
  rw [hks]
  obtain ⟨a, ys, k, ex, ez, k0, k1, hq, q⟩ := q2
  obtain ⟨u, rfl, ru⟩ := vals_one r1 ex
  obtain ⟨z, rfl, rz⟩ := vals_one r2 ez
  cases ru
  obtain ⟨t, rfl⟩ := rz
  obtain ⟨its, rv, pl, _⟩ := I2.list hq
  refine enum_begins_start (begins_list a its.toArray) pl.isList (by omega) (by omega) (fun h1 he hit hsz hk => wpAny_pyIter_enum he ?_)
  refine ⟨s2.heap.objs.size + 1, [s2.heap.objs.size + 1, s2.heap.objs.size], _, _, H2, rfl, I2.kept (t' := s2.toks) hk, turn_n k a (s2.heap.objs.size + 1) s2.heap.objs.size, ⟨⟨.none, ?_⟩, ⟨_, hit, rfl, rfl⟩, Nat.succ_ne_self _⟩, new2 I2, q⟩
  rw [show k + ((0 : Nat) : Int) = k by omega]
  exact he
end
/-- the pairs -/
def enD (k0 : Int) (ds : List D) : List D := ds.mapIdx fun i d => .tuple [.int (k0 + (i : Nat)), d]
theorem enD_len (k0 : Int) (ds : List D) : (enD k0 ds).length = ds.length := by simp [enD]
theorem enD_get {k0 : Int} {ds : List D} {i : Nat} {x : D} (h : (enD k0 ds)[i]? = some x) : ∃ d, ds[i]? = some d ∧ x = .tuple [.int (k0 + (i : Nat)), d] := by
  unfold enD at h
  rw [List.getElem?_mapIdx] at h
  cases q : ds[i]? with
  | none => rw [q] at h; cases h
  | some d => rw [q] at h; cases h; exact ⟨d, rfl, rfl⟩
theorem src_n {K : Fg} {k0 : Int} {l : Addr} {ds : List D} : SrcOk K (Itn K k0 l) (.ref l) (.list ds) (enD k0 ds) := fun M σ H ρ pv pd A => by
  obtain ⟨ow, B, hp⟩ := A
  cases hp with
  | cons g3 hp =>
    cases g3 with
    | @lst _ ys _ g3 g4 =>
      have hS : SqL K H l ys := .of (hide_le _ _ g3)
      refine ⟨fun i hi => ?_, ⟨ys, hS, by rw [g4.length, enD_len]⟩⟩
      have hi' : i < ds.length := by rwa [enD_len] at hi
      obtain ⟨y, gy, gyd⟩ := g4.get (List.getElem?_eq_getElem hi')
      refine ⟨⟨ys, y, hS, gy⟩, fun x H' hy => ?_⟩
      obtain ⟨T, z, rfl, hT, rfl, fv⟩ := hy
      have ex : z = y := Option.some.inj ((fv _ hS).symm.trans gy)
      subst ex
      obtain ⟨d, hd, ee⟩ := enD_get (List.getElem?_eq_getElem hi)
      rw [ee]
      have : d = ds[i] := Option.some.inj (hd.symm.trans (List.getElem?_eq_getElem hi'))
      subst this
      have e : Same H (upd H T (.tup [.int (k0 + (i : Nat)), z])) := same_new hT
      refine ⟨ow, B.step (.of e) (B.cok.mono e), .cons (.tup (.of (new_vis B.hall hT)) (.cons (.int _) (.cons (gyd.mono (vis_of e)) .nil))) ?_⟩
      exact DvAll.mono (vis_of e) (.cons (.lst g3 g4) hp)
def wiEnum (wr : WA) : WI := fun ρ P => wr ρ fun ds ρ1 => match ds with
  | [.list es] => P (enD 0 es) ρ1
  | _ => False
def wiEnumS (wr wk : WA) : WI := fun ρ P => wr ρ fun ds ρ1 => wk ρ1 fun ks ρ2 => match ds, ks with
  | [.list es], [.int k] => rngOk k ∧ P (enD k es) ρ2
  | _, _ => False
section
variable {X : Cx} {K : Fg} {a b e tg : Expr} {ta tb : TE} {wa wb : WE} {t u : TA} {wr wk : WA} {p pos tp kp : Pos} {es : List Expr} {kk : Nat}
theorem di_enum (hg : Gl X "enumerate") (hm : X.mg "enumerate" = none) (ha : DA X [e] t wr) (hs : starEach [e] X.env = [(false, eval e X.env)] := by rfl) : DI X (.Tuple es kk tp) (.Call (.Name "enumerate" p) [e] [] pos) (iEnumD X.K t) (wiEnum wr) := ⟨pi_enumD hg hm ha.pa hs, fun M σ H ρ pv pd P R A h q => by
  refine ha.sd M σ H ρ pv pd _ _ A h fun vs ds H1 ρ1 hl A1 h1 => ?_
  split at h1
  · next es' =>
    obtain ⟨ow, B, hp⟩ := A1
    obtain ⟨g1, g2⟩ := DvAll.split hl hp
    obtain ⟨v, rfl, gv⟩ := da1 g1
    cases gv with
    | lst g3 g4 => exact ⟨_, _, rfl, .of (hide_le _ _ g3), q _ _ _ _ _ _ ⟨ow, B, .cons (.lst g3 g4) g2⟩ src_n h1⟩
  · exact h1.elim⟩
theorem di_enumS (hg : Gl X "enumerate") (hm : X.mg "enumerate" = none) (ha : DA X [e] t wr) (hb : DE X b tb wb) (hs : backTo pos (starEach [e] X.env) = [(false, eval e X.env)] := by rfl)
    (hall : (backToKw pos (keywordEach [⟨some (Str.ofString "start"), b, kp⟩] X.env)).all (·.1.isSome) = true := by rfl) (hno : (backToKw pos (keywordEach [⟨some (Str.ofString "start"), b, kp⟩] X.env)).any (·.1.isNone) = false := by rfl)
    (hks : (backToKw pos (keywordEach [⟨some (Str.ofString "start"), b, kp⟩] X.env)).filterMap (·.1) = [Str.ofString "start"] := by rfl) (hst : starEach [b] X.env = (false, eval b X.env) :: starEach [] X.env := by rfl) :
    DI X (.Tuple es kk tp) (.Call (.Name "enumerate" p) [e] [⟨some (Str.ofString "start"), b, kp⟩] pos) (iEnumS X.K t (tCons tb tNil)) (wiEnumS wr (wCons wb wNil)) := ⟨pi_enumS hg hm ha.pa (pk_cons hb.pe pk_nil) hs hall hno hks, fun M σ H ρ pv pd P R A h q => by
  refine ha.sd M σ H ρ pv pd _ _ A h fun vs ds H1 ρ1 hl A1 h1 => ?_
  refine (da_cons hb da_nil hst).sd M σ H1 ρ1 _ _ _ _ A1 h1 fun zs ks H2 ρ2 hl2 A2 h2 => ?_
  split at h2
  · next es' k =>
    obtain ⟨ow, B, hp⟩ := A2
    obtain ⟨g1, g2⟩ := DvAll.split hl2 hp
    obtain ⟨g3, g4⟩ := DvAll.split hl g2
    obtain ⟨v, rfl, gv⟩ := da1 g3
    obtain ⟨z, rfl, gz⟩ := da1 g1
    cases gz
    cases gv with
    | lst g5 g6 => exact ⟨_, _, k, rfl, rfl, h2.1.1, h2.1.2, .of (hide_le _ _ g5), q _ _ _ _ _ _ ⟨ow, B, .cons (.lst g5 g6) g4⟩ src_n h2.2⟩
  · exact h2.elim⟩
end
/-! ## own[k] op= e, own.pop() -/
def rGetL : V → V → Hp → VK → Prop := fun o i H Q => ∃ p xs k v, o = V.ref p ∧ i = V.int k ∧ H p = some (.lst xs) ∧ 0 ≤ k ∧ xs[k.toNat]? = some v ∧ Q v H
theorem get_lst {X : Cx} : PGet X rGetL := by
  intro pins s σ H o i ov iv Q I ro ri h
  obtain ⟨p, xs, k, v, rfl, rfl, hp, h0, hv, q⟩ := h
  cases ro
  obtain ⟨t, rfl⟩ := ri
  obtain ⟨its, r, pl, hz⟩ := I.list (.of hp)
  obtain ⟨u, hu, ru⟩ := r.get hv
  have hlt := (List.getElem?_eq_some_iff.mp hv).1
  have hn := line63
  exact wpAny_getItem_list pl.isList h0 (by omega) (by simpa using hu) ⟨v, H, I, ru, q⟩
def wAugIx (i : Nat) (op : Int → Int → Int) (wk : WP) (we : WE) : WS := fun DD ρ => match look ρ i, wk ρ with
  | .own ds, some (.int k) => 0 ≤ k ∧ k.toNat < ds.length ∧ ∃ x, ds[k.toNat]? = some (.int x) ∧ we ρ fun y ρ1 => match y, look ρ1 i with
    | .int y, .own ds1 => ds1 = ds ∧ DD.nx (put ρ1 i (.own (ds.set k.toNat (.int (op x y)))))
    | _, _ => False
  | _, _ => False
theorem ixN_nat {n : Nat} {k : Int} (h : 0 ≤ k) (hk : k.toNat < n) : ixN n k = some k.toNat := by
  unfold ixN
  rw [if_pos h, if_pos (by omega)]
section
variable {X : Cx} {K : Fg} {a b e : Expr} {ta tb : TE} {wa wb : WE} {wk : WP} {pos p p2 : Pos}
theorem snds_augix {i : Nat} {op : Int → Int → Int} (hk : SndP K tb wk) (he : Snd K ta wa) : SndS K (tAugS (tVar i) tb ta rGetL (ipI op) rSetL) (wAugIx i op wk wa) := fun M σ H ρ pv pd DD HD A h F => by
  have A0 := A
  obtain ⟨ow, B, hp⟩ := A
  unfold wAugIx at h
  split at h
  · next ds k e1 e2 =>
    obtain ⟨h0, hlt, x, hx, h⟩ := h
    obtain ⟨q, xs, h1, h2, h3, h4⟩ := B.own i ds e1
    refine ⟨.ref q, h2, ?_⟩
    obtain ⟨kv, gk, hQ⟩ := hk M σ H ρ ow _ B e2
    cases gk
    refine hQ _ ?_
    obtain ⟨xv, hxv, gx⟩ := h4.get hx
    cases gx
    refine ⟨q, xs, k, _, rfl, rfl, h3, h0, hxv, ?_⟩
    refine he M σ H ρ pv pd _ _ A0 h fun y dy H1 ρ1 A1 h' => ?_
    split at h'
    · next y ds1 e3 =>
      obtain ⟨rfl, h'⟩ := h'
      obtain ⟨ow1, B1, hp1⟩ := A1
      cases hp1 with
      | cons gy hp1 =>
        cases gy
        refine ⟨x, y, rfl, rfl, ?_⟩
        obtain ⟨q1, xs1, k1, k2, k3, k4⟩ := B1.own i ds1 e3
        have : q1 = q := by
          rw [h2] at k2
          cases k2; rfl
        subst this
        obtain ⟨C, vis⟩ := B1.owset e3 k1 (k4.set (.int (op x y)) k.toNat)
        refine ⟨q1, xs1, k, k.toNat, rfl, rfl, k3, ixN_nat h0 (by rw [k4.length]; exact hlt), F.nx _ _ _ ⟨ow1, C, hp1.mono vis⟩ h'⟩
    · exact h'.elim
  · exact h.elim
theorem ds_augix {i : Nat} {x : Str} {px p3 : Pos} {op : Operator} {f : Int → Int → Int} (ho : PIp X op (ipI f)) (hn : PE X (.Name x px) (tVar i)) (hk : DP X b tb wk) (he : DE X e ta wa)
    (ha : ∀ ov iv new, augStore b ov iv new = (do holding [new, ov, iv] (setItem ov iv new); release [new, ov, iv] []; pure .next) := by intros; rfl) : DS X (.AugAssign (.Subscript (.Name x px) b p2) op e p3) (tAugS (tVar i) tb ta rGetL (ipI f) rSetL) (wAugIx i f wk wa) :=
  ⟨ps_augS hn hk.pe get_lst he.pe ho set_list ha, snds_augix hk.sd he.sd⟩
def wPop (i : Nat) : WE := fun ρ P => match look ρ i with
  | .own ds => ∃ d, ds[ds.length - 1]? = some d ∧ P d (put ρ i (.own ds.dropLast))
  | _ => False
theorem snd_pop {i : Nat} : Snd K (tBM0 K "list" rPop (tVar i)) (wPop i) := fun M σ H ρ pv pd P Q A h q => by
  obtain ⟨ow, B, hp⟩ := A
  unfold wPop at h
  split at h
  · next ds e1 =>
    obtain ⟨d, hd, h⟩ := h
    obtain ⟨a, xs, h1, h2, h3, h4⟩ := B.own i ds e1
    obtain ⟨v, hv, gv⟩ := h4.get hd
    obtain ⟨C, vis⟩ := B.owset e1 h1 h4.dropLast
    exact ⟨.ref a, h2, .inl ⟨rfl, xs, .of h3⟩, a, xs, v, rfl, rfl, h3, by rw [h4.length]; exact hv, q v d _ _ ⟨ow, C, .cons (gv.mono vis) (hp.mono vis)⟩ h⟩
  · exact h.elim
theorem de_pop {i : Nat} {x : Str} {px p1 : Pos} (hn : PE X (.Name x px) (tVar i)) (hbase : attributeBase (.Name x px) "pop" X.env (eval (.Name x px) X.env) = eval (.Name x px) X.env := by rfl) (hline : (p1.endLine == p2.line) = true := by rfl) :
    DE X (.Call (.Attribute (.Name x px) "pop" p1) [] [] p2) (tBM0 X.K "list" rPop (tVar i)) (wPop i) := ⟨pe_bm0 PySem.F.plainAttrs_list PySem.F.slot_list_pop PySem.F.type_list_pop mt_pop hn hbase hline, snd_pop⟩
/-! ## k.bit_length(), k >> j, k & j -/
def wBits (wa : WE) : WE := fun ρ P => wa ρ fun x ρ1 => match x with
  | .int i => P (.int (Builtin.Int.intBits i : Nat)) ρ1
  | _ => False
theorem de_bits {p1 : Pos} (ha : DE X a ta wa) (hbase : attributeBase a "bit_length" X.env (eval a X.env) = eval a X.env := by rfl) (hline : (p1.endLine == p2.line) = true := by rfl) :
    DE X (.Call (.Attribute a "bit_length" p1) [] [] p2) (tBits ta) (wBits wa) := ⟨pe_bits ha.pe hbase hline, fun M σ H ρ pv pd P Q A h q => by
  refine ha.sd M σ H ρ pv pd _ _ A h fun x dx H1 ρ1 A1 h1 => ?_
  split at h1
  · next i =>
    have A2 := A1.pop
    obtain ⟨ow, B, hp⟩ := A1
    cases hp with
    | cons g hp =>
      cases g
      obtain ⟨ow2, B2, hp2⟩ := A2
      exact ⟨i, rfl, q _ _ _ _ ⟨ow2, B2, .cons (.int _) hp2⟩ h1⟩
  · exact h1.elim⟩
def dShr : D → D → (D → Prop) → Prop
  | .int i, .int j, P => 0 ≤ j ∧ P (.int (i / 2 ^ j.toNat))
  | _, _, _ => False
def dAnd : D → D → (D → Prop) → Prop
  | .int i, .int j, P => P (.int (Builtin.bitAnd i j))
  | _, _, _ => False
theorem sn2_shr : Sn2 K (rI (fun _ j => 0 ≤ j) fun i j => .int (i / 2 ^ j.toNat)) dShr := fun lc hd H x y a b P Q al hx hy h q => by
  cases a <;> cases b <;> first | exact h.elim | skip
  cases hx
  cases hy
  exact ⟨_, _, rfl, rfl, h.1, q _ _ H (Same.refl H) (.int _) h.2⟩
theorem sn2_and : Sn2 K (rI0 fun i j => .int (Builtin.bitAnd i j)) dAnd := fun lc hd H x y a b P Q al hx hy h q => by
  cases a <;> cases b <;> first | exact h.elim | skip
  cases hx
  cases hy
  exact ⟨_, _, rfl, rfl, q _ _ H (Same.refl H) (.int _) h⟩
theorem bitAnd_one (i : Int) : Builtin.bitAnd i 1 = i % 2 := by
  have h := Bits.bit_at (x := i) 0
  simpa using h
/-! ## range(i, j, -1) -/
def wiR3n (wa : WA) : WI := fun ρ P => wa ρ fun ds ρ1 => match ds with
  | [.int i, .int j, .int c] => rngOk i ∧ rngOk j ∧ c = -1 ∧ P (rngC i (-1) (i - j).toNat) ρ1
  | _ => False
theorem di_rng3n {tg c : Expr} {t : TA} {wr : WA} (hgl : Gl X "range") (hm : X.mg "range" = none) (ha : DA X [a, b, c] t wr) (hs : starEach [a, b, c] X.env = (false, eval a X.env) :: starEach [b, c] X.env := by rfl) (hpl : (backTo p2 (starEach [b, c] X.env)).any (·.1) = false := by rfl) :
    DI X tg (.Call (.Name "range" p) [a, b, c] [] p2) (iRng3 t) (wiR3n wr) := ⟨pi_range3 hgl hm ha.pa hs hpl, fun M σ H ρ pv pd P R A h q => by
  refine ha.sd M σ H ρ pv pd _ _ A h fun vs ds H1 ρ1 hl A1 h1 => ?_
  split at h1
  · next i j c =>
    have A2 := (At.popA A1 hl).dum
    obtain ⟨ow, B, hp⟩ := A1
    obtain ⟨x, y, z, rfl, gx, gy, gz⟩ := da3 (DvAll.split hl hp).1
    cases gx
    cases gy
    cases gz
    obtain ⟨hi, hj, rfl, h1⟩ := h1
    exact ⟨i, j, -1, _, rfl, RgC.neg hi.1 hi.2 hj.1 hj.2, q _ _ _ _ _ _ A2 src_rngC h1⟩
  · exact h1.elim⟩
end
end DL
namespace DL
open PySem PySem.Spec PyProof.Rows L2
/-- a comprehension over a range with a condition, the answers known -/
theorem wCompF_of {lo : Int} {N i : Nat} {wt : WT} {we : WE} {ρ : Rho} {P : List D → Rho → Prop} (c : Nat → Bool) (g : Nat → D) (hN : N ≤ 100000)
    (ht : ∀ (j : Nat) (Q : Bool → Rho → Prop), j < N → Q (c j) (put ρ i (.val (.int (lo + j)))) → wt (put ρ i (.val (.int (lo + j)))) Q)
    (hs : ∀ (j : Nat) (Q : D → Rho → Prop), j < N → c j = true → Q (g j) (put ρ i (.val (.int (lo + j)))) → we (put ρ i (.val (.int (lo + j)))) Q)
    (hP : P (((List.range N).filter c).map g) (put ρ i .un)) : wCompD (rngD lo N) i wt we ρ P := by
  refine ⟨fun j acc => acc = ((List.range j).filter c).map g, rfl, fun j x acc hx hI => ?_, fun acc hI => ?_⟩
  · obtain ⟨h1, rfl⟩ := rngD_get hx
    subst hI
    refine ht j _ h1 ⟨rfl, ?_⟩
    have e : List.range (j + 1) = List.range j ++ [j] := List.range_succ
    cases hc : c j with
    | true =>
      rw [if_pos rfl]
      refine hs j _ h1 hc ⟨rfl, ?_, ?_⟩
      · have := List.length_filter_le c (List.range j)
        rw [List.length_range] at this
        rw [List.length_map]; omega
      · show _ = ((List.range (j + 1)).filter c).map g
        rw [e, List.filter_append, List.map_append]
        simp [hc]
    | false =>
      rw [if_neg Bool.false_ne_true]
      show _ = ((List.range (j + 1)).filter c).map g
      rw [e, List.filter_append]
      simp [hc]
  · rw [rngD_len] at hI
    subst hI
    exact hP
/-- a comprehension over a range without a condition, of its items known only what R says -/
theorem wCompG_of {N i : Nat} {we : WE} {ρ : Rho} {P : List D → Rho → Prop} (R : Nat → D → Prop) (hN : N ≤ 100000)
    (hs : ∀ (j : Nat) (Q : D → Rho → Prop), j < N → (∀ y, R j y → Q y (put ρ i (.val (.int j)))) → we (put ρ i (.val (.int j))) Q)
    (hP : ∀ ys : List D, ys.length = N → (∀ j y, ys[j]? = some y → R j y) → P ys (put ρ i .un)) : wCompD (rngD 0 N) i wYes we ρ P := by
  refine ⟨fun j acc => acc.length = j ∧ ∀ k y, acc[k]? = some y → R k y, ⟨rfl, fun k y h => by simp at h⟩, fun j x acc hx hI => ?_, fun acc hI => ?_⟩
  · obtain ⟨h1, rfl⟩ := rngD_get hx
    refine ⟨rfl, ?_⟩
    rw [if_pos rfl, Int.zero_add]
    refine hs j _ h1 fun y hy => ⟨rfl, by omega, by simp [hI.1], fun k z hz => ?_⟩
    rw [List.getElem?_append] at hz
    split at hz
    · exact hI.2 k z hz
    · next c =>
      have e : k = j := by
        have := (List.getElem?_eq_some_iff.mp hz).1
        simp at this; omega
      subst e
      rw [hI.1, Nat.sub_self] at hz
      cases hz
      exact hy
  · rw [rngD_len] at hI
    exact hP acc hI.1 hI.2
theorem bools_map {α : Type} (b : α → Bool) (l : List α) : bools (l.map fun k => .bool (b k)) = some (l.map b) := by
  induction l with
  | nil => rfl
  | cons a l ih =>
    show (bools (l.map fun k => .bool (b k))).map (b a :: ·) = _
    rw [ih]; rfl
end DL

namespace My
structure Common (a b g s t : Int) : Prop where
  hg : g = (Nat.gcd a.natAbs b.natAbs : Nat)
  heq : s * a + t * b = g
  t0 : b = 0 → t = 0
  s0 : a = 0 → s = 0
  bs : a ≠ 0 → b ≠ 0 → s.natAbs ≤ b.natAbs / g.natAbs
  bt : a ≠ 0 → b ≠ 0 → t.natAbs ≤ a.natAbs / g.natAbs
/-- the state of Euclid's algorithm for A and B: remainders r0, r1, the sizes of the coefficients, e their sign -/
structure Euc (A B r0 r1 S0 S1 T0 T1 e : Int) : Prop where
  he : e = 1 ∨ e = -1
  eq0 : r0 = e * S0 * A - e * T0 * B
  eq1 : r1 = -e * S1 * A + e * T1 * B
  n0 : 0 ≤ r0
  n1 : 0 ≤ r1
  sn0 : 0 ≤ S0
  sn1 : 0 ≤ S1
  tn0 : 0 ≤ T0
  tn1 : 0 ≤ T1
  sB : S1 * r0 + S0 * r1 = B
  tA : T1 * r0 + T0 * r1 = A
  gc : Int.gcd r0 r1 = Int.gcd A B
  lt : (S0 = 1 ∧ S1 = 0 ∧ T0 = 0 ∧ T1 = 1 ∧ r0 = A ∧ r1 = B) ∨ r1 < r0
  sl : (S0 = 1 ∧ S1 = 0 ∧ r1 = B) ∨ S0 ≤ S1
  tl : (T0 = 1 ∧ T1 = 0 ∧ r0 = B ∧ r1 = A) ∨ T0 ≤ T1
  a0 : A = 0 → (S0 = 1 ∧ S1 = 0 ∧ r1 = B) ∨ (S0 = 0 ∧ r1 = 0)
  b0 : B = 0 → T0 = 0
theorem Euc.start {A B : Int} (hA : 0 ≤ A) (hB : 0 ≤ B) : Euc A B A B 1 0 0 1 1 := by
  constructor <;> first | omega | (intro _; omega) | simp
theorem Euc.step {A B r0 r1 S0 S1 T0 T1 e : Int} (h : Euc A B r0 r1 S0 S1 T0 T1 e) (h1 : r1 ≠ 0) :
    Euc A B r1 (r0 - r0 / r1 * r1) S1 (S0 + r0 / r1 * S1) T1 (T0 + r0 / r1 * T1) (-e) ∧ r0 - r0 / r1 * r1 < r1 ∧ 0 ≤ r0 / r1 ∧ r0 / r1 ≤ r0 := by
  have hn0 := h.n0
  have hn1 := h.n1
  have hp : 0 < r1 := by omega
  have hm : r0 - r0 / r1 * r1 = r0 % r1 := by
    have := Int.emod_add_mul_ediv r0 r1
    rw [Int.mul_comm r1] at this
    omega
  have m0 := Int.emod_nonneg r0 h1
  have m1 := Int.emod_lt_of_pos r0 hp
  have q0 : 0 ≤ r0 / r1 := Int.ediv_nonneg hn0 hn1
  have q1 : r0 / r1 ≤ r0 := Int.ediv_le_self r1 hn0
  have qs : 0 ≤ r0 / r1 * S1 := Int.mul_nonneg q0 h.sn1
  have qt : 0 ≤ r0 / r1 * T1 := Int.mul_nonneg q0 h.tn1
  have hs := h.sn0
  have hs1 := h.sn1
  have ht := h.tn0
  have ht1 := h.tn1
  have qge : r1 < r0 → 1 ≤ r0 / r1 := fun w => by
    have := Int.ediv_le_ediv hp (Int.le_of_lt w)
    rwa [Int.ediv_self h1] at this
  refine ⟨?_, by omega, q0, q1⟩
  exact {
    he := by rcases h.he with w | w <;> omega
    eq0 := by have := h.eq1; grind
    eq1 := by have := h.eq1; have := h.eq0; grind
    n0 := hn1
    n1 := by omega
    sn0 := h.sn1
    sn1 := by omega
    tn0 := h.tn1
    tn1 := by omega
    sB := by have := h.sB; grind
    tA := by have := h.tA; grind
    gc := by
      rw [← h.gc, hm]
      obtain ⟨m, rfl⟩ := Int.eq_ofNat_of_zero_le hn0
      obtain ⟨n, rfl⟩ := Int.eq_ofNat_of_zero_le hn1
      rw [← Int.natCast_emod]
      show Nat.gcd n (m % n) = Nat.gcd m n
      rw [Nat.gcd_comm m n, Nat.gcd_rec n m, Nat.gcd_comm]
    lt := .inr (by omega)
    sl := by
      rcases h.lt with ⟨a1, a2, a3, a4, a5, a6⟩ | w
      · subst a1 a2
        right; omega
      · rcases h.sl with ⟨a1, a2, _⟩ | l
        · subst a1 a2
          right; omega
        · right
          have := Int.mul_le_mul_of_nonneg_right (qge w) hs1
          omega
    tl := by
      rcases h.lt with ⟨a1, a2, a3, a4, a5, a6⟩ | w
      · subst a3 a4
        by_cases c : r1 < r0
        · right
          have := qge c
          omega
        · by_cases c2 : r0 = r1
          · subst c2
            right
            rw [Int.ediv_self h1]
            omega
          · left
            have z : r0 / r1 = 0 := Int.ediv_eq_zero_of_lt hn0 (by omega)
            rw [z]
            refine ⟨rfl, by omega, a6, by omega⟩
      · rcases h.tl with ⟨a1, a2, _⟩ | l
        · subst a1 a2
          right; omega
        · right
          have := Int.mul_le_mul_of_nonneg_right (qge w) ht1
          omega
    a0 := fun z => by
      rcases h.a0 z with ⟨a1, a2, a3⟩ | ⟨a1, a2⟩
      · right
        refine ⟨a2, ?_⟩
        have := h.tA
        have n0 := Int.mul_nonneg ht1 hn0
        have n1 := Int.mul_nonneg ht hn1
        have e1 : T1 * r0 = 0 := by omega
        have e2 : T0 * r1 = 0 := by omega
        have e3 := h.eq0
        have e4 := h.eq1
        subst z a1 a2
        have t0 : T0 = 0 := by rcases Int.mul_eq_zero.mp e2 with w | w; exact w; exact absurd w h1
        subst t0
        have : r0 = 0 := by simpa using e3
        rw [this]; simp
      · omega
    b0 := fun z => by
      have := h.sB
      have n0 := Int.mul_nonneg hs1 hn0
      have n1 := Int.mul_nonneg hs hn1
      have e1 : S0 * r1 = 0 := by omega
      have e2 : S1 * r0 = 0 := by omega
      have s0 : S0 = 0 := by rcases Int.mul_eq_zero.mp e1 with w | w; exact w; exact absurd w h1
      exfalso
      have := h.eq1
      have := h.eq0
      subst z s0
      have r00 : r0 = 0 := by simpa using h.eq0
      rcases h.lt with ⟨a1, _⟩ | w
      · omega
      · omega }
theorem Euc.le {A B r0 r1 S0 S1 T0 T1 e : Int} (h : Euc A B r0 r1 S0 S1 T0 T1 e) (h1 : r1 ≠ 0) : S1 ≤ B ∧ T1 ≤ A + 1 ∧ S0 ≤ B + 1 ∧ T0 ≤ A + 1 := by
  have hn0 := h.n0
  have hn1 := h.n1
  have hs := h.sn0
  have hs1 := h.sn1
  have ht := h.tn0
  have ht1 := h.tn1
  have hp : 1 ≤ r1 := by omega
  have e1 := h.sB
  have e2 := h.tA
  have b1 : S0 ≤ S0 * r1 := by have := Int.mul_le_mul_of_nonneg_left hp hs; omega
  have b2 : T0 ≤ T0 * r1 := by have := Int.mul_le_mul_of_nonneg_left hp ht; omega
  have b3 := Int.mul_nonneg hs1 hn0
  have b4 := Int.mul_nonneg ht1 hn0
  rcases h.lt with ⟨a1, a2, a3, a4, a5, a6⟩ | w
  · omega
  · have hq : 1 ≤ r0 := by omega
    have b5 : S1 ≤ S1 * r0 := by have := Int.mul_le_mul_of_nonneg_left hq hs1; omega
    have b6 : T1 ≤ T1 * r0 := by have := Int.mul_le_mul_of_nonneg_left hq ht1; omega
    have b7 := Int.mul_nonneg hs hn1
    have b8 := Int.mul_nonneg ht hn1
    omega
theorem Euc.done {A B r0 S0 S1 T0 T1 e a b : Int} (h : Euc A B r0 0 S0 S1 T0 T1 e) (ha : A = if a < 0 then -a else a) (hb : B = if b < 0 then -b else b) (hn : ¬ (a = 0 ∧ b = 0)) :
    Common a b r0 (if a < 0 then -(e * S0) else e * S0) (if b < 0 then -(-e * T0) else -e * T0) := by
  have hA : (A.natAbs : Int) = A := by subst ha; split <;> omega
  have hB : (B.natAbs : Int) = B := by subst hb; split <;> omega
  have hAa : A.natAbs = a.natAbs := by subst ha; split <;> omega
  have hBb : B.natAbs = b.natAbs := by subst hb; split <;> omega
  have e0 := h.eq0
  have g0 := h.gc
  have gg : r0 = (Nat.gcd a.natAbs b.natAbs : Nat) := by
    have : Int.gcd r0 0 = Nat.gcd a.natAbs b.natAbs := by rw [g0]; show Nat.gcd A.natAbs B.natAbs = _; rw [hAa, hBb]
    rw [Int.gcd_zero_right] at this
    have := h.n0
    omega
  have e2 : ∀ x y : Int, (x.natAbs : Int) = (if x < 0 then -x else x) := fun x _ => by split <;> omega
  have sgn : ∀ S : Int, 0 ≤ S → (e * S).natAbs = S.toNat := fun S hS => by
    rcases h.he with w | w <;> subst w
    · rw [Int.one_mul]; omega
    · rw [Int.neg_mul, Int.one_mul]; omega
  have hs := h.sn0
  have ht := h.tn0
  have hs1 := h.sn1
  have ht1 := h.tn1
  have sB := h.sB
  have tA := h.tA
  rw [Int.mul_zero, Int.add_zero] at sB tA
  have nS : (if a < 0 then -(e * S0) else e * S0).natAbs = S0.toNat := by rw [← sgn S0 hs]; split <;> omega
  have nT : (if b < 0 then -(-e * T0) else -e * T0).natAbs = T0.toNat := by
    have : (-e * T0).natAbs = (e * T0).natAbs := by rw [Int.neg_mul]; omega
    rw [← sgn T0 ht, ← this]; split <;> omega
  have gpos : a ≠ 0 → 0 < r0 := fun z => by
    have := Nat.gcd_pos_of_pos_left b.natAbs (show 0 < a.natAbs by omega)
    omega
  refine ⟨gg, ?_, fun z => ?_, fun z => ?_, fun z1 z2 => ?_, fun z1 z2 => ?_⟩
  · have c1 : (if a < 0 then -(e * S0) else e * S0) * a = e * S0 * A := by
      subst ha
      split
      · rw [Int.neg_mul, Int.mul_neg]
      · rfl
    have c2 : (if b < 0 then -(-e * T0) else -e * T0) * b = -e * T0 * B := by
      subst hb
      split
      · rw [Int.neg_mul (-e * T0), Int.mul_neg]
      · rfl
    rw [c1, c2, e0]
    grind
  · have : B = 0 := by rw [hb, z]; rfl
    have := h.b0 this
    subst this
    simp
  · have z0 : A = 0 := by rw [ha, z]; rfl
    rcases h.a0 z0 with ⟨_, _, w⟩ | ⟨w, _⟩
    · exfalso
      have : b = 0 := by
        rw [← w] at hb
        split at hb <;> omega
      exact hn ⟨z, this⟩
    · subst w
      simp
  · rw [nS]
    have gp := gpos z1
    rw [show r0.natAbs = r0.toNat by omega]
    rw [Nat.le_div_iff_mul_le (by omega), ← hBb]
    rcases h.sl with ⟨_, _, w⟩ | w
    · exfalso; rw [← w] at hb; split at hb <;> omega
    · have := Int.mul_le_mul_of_nonneg_right w h.n0
      have q1 : ((S0.toNat * r0.toNat : Nat) : Int) = S0 * r0 := by
        rw [Int.natCast_mul, Int.toNat_of_nonneg hs, Int.toNat_of_nonneg h.n0]
      omega
  · rw [nT]
    have gp := gpos z1
    rw [show r0.natAbs = r0.toNat by omega]
    rw [Nat.le_div_iff_mul_le (by omega), ← hAa]
    rcases h.tl with ⟨_, _, _, w⟩ | w
    · exfalso; rw [← w] at ha; split at ha <;> omega
    · have := Int.mul_le_mul_of_nonneg_right w h.n0
      have q1 : ((T0.toNat * r0.toNat : Nat) : Int) = T0 * r0 := by
        rw [Int.natCast_mul, Int.toNat_of_nonneg ht, Int.toNat_of_nonneg h.n0]
      omega
end My

namespace My
/-- a / b is n / d in lowest terms -/
structure Frac (n d a b : Int) : Prop where
  pos : 0 < b
  cop : Int.gcd a b = 1
  eq : a * d = n * b
  la : a.natAbs ≤ n.natAbs
  lb : b.natAbs ≤ d.natAbs
theorem dvd_cop {k n m : Int} (h : Int.gcd k n = 1) (hd : k ∣ n * m) : k ∣ m := by
  have := Int.dvd_gcd_mul_iff_dvd_mul.mpr hd
  rw [h] at this
  simpa using this
theorem Frac.uniq {n d a b a' b' : Int} (h : Frac n d a b) (h' : Frac n d a' b') (hd : d ≠ 0) : a = a' ∧ b = b' := by
  have e : a * b' = a' * b := by
    have h1 := h.eq
    have h2 := h'.eq
    have : d * (a * b') = d * (a' * b) := by grind
    exact Int.eq_of_mul_eq_mul_left hd this
  have d1 : b ∣ b' := by
    have : b ∣ a * b' := ⟨a', by rw [e, Int.mul_comm]⟩
    exact dvd_cop (by rw [Int.gcd_comm]; exact h.cop) this
  have d2 : b' ∣ b := by
    have : b' ∣ a' * b := ⟨a, by rw [← e, Int.mul_comm]⟩
    exact dvd_cop (by rw [Int.gcd_comm]; exact h'.cop) this
  have hb := h.pos
  have hb' := h'.pos
  have eb : b = b' := Int.le_antisymm (Int.le_of_dvd hb' d1) (Int.le_of_dvd hb d2)
  subst eb
  exact ⟨Int.eq_of_mul_eq_mul_right (by omega) e, rfl⟩
theorem Frac.make {n d g : Int} (hd : d ≠ 0) (hg : g = (Nat.gcd n.natAbs d.natAbs : Nat)) : Frac n d (n.fdiv (if d < 0 then -g else g)) (d.fdiv (if d < 0 then -g else g)) ∧ g ≠ 0 ∧ g.natAbs ≤ d.natAbs := by
  have gp : 0 < Nat.gcd n.natAbs d.natAbs := Nat.gcd_pos_of_pos_right _ (by omega)
  have d1 : g ∣ n := by rw [hg]; exact Int.ofNat_dvd_left.mpr (Nat.gcd_dvd_left ..)
  have d2 : g ∣ d := by rw [hg]; exact Int.ofNat_dvd_left.mpr (Nat.gcd_dvd_right ..)
  have gle : g.natAbs ≤ d.natAbs := by
    have := Nat.gcd_le_right n.natAbs (show 0 < d.natAbs by omega)
    omega
  obtain ⟨x, hx⟩ := d1
  obtain ⟨y, hy⟩ := d2
  have cop : Int.gcd x y = 1 := by
    have e : Int.gcd n d = g.natAbs := by rw [hg]; rfl
    rw [hx, hy, Int.gcd_mul_left] at e
    have : g.natAbs * Int.gcd x y = g.natAbs * 1 := by omega
    exact Nat.eq_of_mul_eq_mul_left (by omega) this
  have g0 : g ≠ 0 := by omega
  have lx : x.natAbs ≤ n.natAbs := by rw [hx, Int.natAbs_mul]; exact Nat.le_mul_of_pos_left _ (by omega)
  have ly : y.natAbs ≤ d.natAbs := by rw [hy, Int.natAbs_mul]; exact Nat.le_mul_of_pos_left _ (by omega)
  refine ⟨?_, g0, gle⟩
  split
  · next hlt =>
    have e1 : n.fdiv (-g) = -x := by rw [hx, show g * x = -g * -x by rw [Int.neg_mul_neg]]; exact Int.mul_fdiv_cancel_left _ (by omega)
    have e2 : d.fdiv (-g) = -y := by rw [hy, show g * y = -g * -y by rw [Int.neg_mul_neg]]; exact Int.mul_fdiv_cancel_left _ (by omega)
    rw [e1, e2]
    have hyn : y < 0 := by
      rcases Int.lt_trichotomy y 0 with z | z | z
      · exact z
      · rw [z] at hy; omega
      · have := Int.mul_pos (show 0 < g by omega) z
        omega
    exact ⟨by omega, by rw [Int.gcd_neg, Int.neg_gcd]; exact cop, by rw [hx, hy]; grind, by omega, by omega⟩
  · next hlt =>
    have e1 : n.fdiv g = x := by rw [hx]; exact Int.mul_fdiv_cancel_left _ g0
    have e2 : d.fdiv g = y := by rw [hy]; exact Int.mul_fdiv_cancel_left _ g0
    rw [e1, e2]
    have hyn : 0 < y := by
      rcases Int.lt_trichotomy y 0 with z | z | z
      · have := Int.mul_neg_of_pos_of_neg (show 0 < g by omega) z
        omega
      · rw [z] at hy; omega
      · exact z
    exact ⟨hyn, cop, by rw [hx, hy]; grind, lx, ly⟩
theorem Frac.scale {n d f a b : Int} (h : Frac n d a b) (hf : f ≠ 0) (hd : d ≠ 0) : Frac (n * f) (d * f) a b := by
  have hp : 0 < f.natAbs := by omega
  refine ⟨h.pos, h.cop, by have := h.eq; grind, ?_, ?_⟩
  · rw [Int.natAbs_mul]
    exact Nat.le_trans h.la (Nat.le_mul_of_pos_right _ hp)
  · rw [Int.natAbs_mul]
    exact Nat.le_trans h.lb (Nat.le_mul_of_pos_right _ hp)
end My

namespace My
theorem dvd_gcds {a b n x : Nat} (h1 : Nat.gcd a n ∣ x) (h2 : Nat.gcd b n ∣ x) : Nat.gcd (Nat.lcm a b) n ∣ x := by
  rcases Nat.eq_zero_or_pos a with za | pa
  · subst za
    rw [Nat.lcm_zero_left, Nat.gcd_zero_left]
    rwa [Nat.gcd_zero_left] at h1
  · have pu : 0 < Nat.gcd a b := Nat.gcd_pos_of_pos_left _ pa
    obtain ⟨a1, ha⟩ := Nat.gcd_dvd_left a b
    obtain ⟨b1, hb⟩ := Nat.gcd_dvd_right a b
    have cop : Nat.gcd a1 b1 = 1 := by
      have e : Nat.gcd (Nat.gcd a b * a1) (Nat.gcd a b * b1) = Nat.gcd a b := by rw [← ha, ← hb]
      rw [Nat.gcd_mul_left] at e
      exact Nat.eq_of_mul_eq_mul_left pu (by omega)
    have hl : Nat.lcm a b = a1 * b := by
      have e1 : Nat.gcd a b * Nat.lcm a b = a * b := Nat.gcd_mul_lcm a b
      have e2 : a * b = Nat.gcd a b * (a1 * b) := by
        have : a * b = (Nat.gcd a b * a1) * b := by rw [← ha]
        rw [this, Nat.mul_assoc]
      exact Nat.eq_of_mul_eq_mul_left pu (by omega)
    have hl2 : Nat.lcm a b = b1 * a := by
      have e1 : Nat.gcd a b * Nat.lcm a b = a * b := Nat.gcd_mul_lcm a b
      have e2 : a * b = Nat.gcd a b * (b1 * a) := by
        have : a * b = a * (Nat.gcd a b * b1) := by rw [← hb]
        rw [this]; grind
      exact Nat.eq_of_mul_eq_mul_left pu (by omega)
    have d1 : Nat.gcd (Nat.lcm a b) n ∣ a1 * x := by
      have : Nat.gcd (Nat.lcm a b) n ∣ Nat.gcd (a1 * b) (a1 * n) := Nat.dvd_gcd (by rw [← hl]; exact Nat.gcd_dvd_left ..) (Nat.dvd_trans (Nat.gcd_dvd_right ..) ⟨a1, Nat.mul_comm ..⟩)
      rw [Nat.gcd_mul_left] at this
      exact Nat.dvd_trans this (Nat.mul_dvd_mul_left _ h2)
    have d2 : Nat.gcd (Nat.lcm a b) n ∣ b1 * x := by
      have : Nat.gcd (Nat.lcm a b) n ∣ Nat.gcd (b1 * a) (b1 * n) := Nat.dvd_gcd (by rw [← hl2]; exact Nat.gcd_dvd_left ..) (Nat.dvd_trans (Nat.gcd_dvd_right ..) ⟨b1, Nat.mul_comm ..⟩)
      rw [Nat.gcd_mul_left] at this
      exact Nat.dvd_trans this (Nat.mul_dvd_mul_left _ h1)
    have := Nat.dvd_gcd d1 d2
    rwa [Nat.gcd_mul_right, cop, Nat.one_mul] at this
abbrev Pr := Int × Int
def lcmL (ps : List Pr) : Nat := ps.foldl (fun acc p => Nat.lcm acc p.2.natAbs) 1
theorem lcmL_app (ps : List Pr) (p : Pr) : lcmL (ps ++ [p]) = Nat.lcm (lcmL ps) p.2.natAbs := by simp [lcmL]
/-- each two of the pairs can be met together -/
def Compat (ps : List Pr) : Prop := ∀ p ∈ ps, ∀ q ∈ ps, ((Nat.gcd p.2.natAbs q.2.natAbs : Nat) : Int) ∣ p.1 - q.1
structure Crt (ps : List Pr) (r m : Int) : Prop where
  n0 : 0 ≤ r
  lt : r < m
  lc : m = (lcmL ps : Nat)
  rem : ∀ p ∈ ps, p.2 ∣ r - p.1
theorem Crt.compat {ps : List Pr} {r m : Int} (h : Crt ps r m) : Compat ps := fun p hp q hq => by
  have h1 : ((Nat.gcd p.2.natAbs q.2.natAbs : Nat) : Int) ∣ r - p.1 := Int.dvd_trans (Int.ofNat_dvd_left.mpr (Nat.gcd_dvd_left ..)) (h.rem p hp)
  have h2 : ((Nat.gcd p.2.natAbs q.2.natAbs : Nat) : Int) ∣ r - q.1 := Int.dvd_trans (Int.ofNat_dvd_left.mpr (Nat.gcd_dvd_right ..)) (h.rem q hq)
  have := Int.dvd_sub h2 h1
  rwa [show r - q.1 - (r - p.1) = p.1 - q.1 by omega] at this
theorem gcds_dvd : ∀ (ps : List Pr) (n x : Nat) (acc : Nat), Nat.gcd acc n ∣ x → (∀ p ∈ ps, Nat.gcd p.2.natAbs n ∣ x) → Nat.gcd (ps.foldl (fun acc p => Nat.lcm acc p.2.natAbs) acc) n ∣ x
  | [], _, _, _, h, _ => h
  | p :: ps, n, x, acc, h, k => gcds_dvd ps n x _ (dvd_gcds h (k p (List.mem_cons_self ..))) fun q hq => k q (List.mem_cons_of_mem _ hq)
/-- the gap is a multiple of the greatest common divisor, if all pairs fit each other -/
theorem Crt.gap {ps : List Pr} {p : Pr} {r m : Int} (h : Crt ps r m) (c : Compat (ps ++ [p])) : ((Nat.gcd m.natAbs p.2.natAbs : Nat) : Int) ∣ p.1 - r := by
  have hm : m.natAbs = lcmL ps := by rw [h.lc]; rfl
  rw [hm, Int.ofNat_dvd_left]
  refine gcds_dvd ps _ _ 1 (by rw [Nat.gcd_one_left]; exact Nat.one_dvd _) fun q hq => ?_
  have h1 : ((Nat.gcd q.2.natAbs p.2.natAbs : Nat) : Int) ∣ r - q.1 := Int.dvd_trans (Int.ofNat_dvd_left.mpr (Nat.gcd_dvd_left ..)) (h.rem q hq)
  have h2 := c q (List.mem_append_left _ hq) p (List.mem_append_right _ (List.mem_singleton.mpr rfl))
  have := Int.dvd_add h1 h2
  rw [show r - q.1 + (q.1 - p.1) = -(p.1 - r) by omega, Int.dvd_neg] at this
  exact Int.ofNat_dvd_left.mp this
theorem Crt.step {ps : List Pr} {p : Pr} {r m g s t : Int} (h : Crt ps r m) (hp : 0 < p.2) (hg : g = (Nat.gcd m.natAbs p.2.natAbs : Nat)) (hs : s * m + t * p.2 = g) (hd : g ∣ p.1 - r) :
    Crt (ps ++ [p]) (r + m * ((s * ((p.1 - r) / g)) % (p.2 / g))) (m / g * p.2) := by
  have h0 := h.n0
  have h1 := h.lt
  have mp : 0 < m := by omega
  have gp : 0 < g := by
    have := Nat.gcd_pos_of_pos_left p.2.natAbs (show 0 < m.natAbs by omega)
    omega
  obtain ⟨m1, hm1⟩ : g ∣ m := by rw [hg]; exact Int.ofNat_dvd_left.mpr (Nat.gcd_dvd_left ..)
  obtain ⟨n1, hn1⟩ : g ∣ p.2 := by rw [hg]; exact Int.ofNat_dvd_left.mpr (Nat.gcd_dvd_right ..)
  obtain ⟨k, hk⟩ := hd
  have n1p : 0 < n1 := by
    rcases Int.lt_trichotomy n1 0 with z | z | z
    · have := Int.mul_neg_of_pos_of_neg gp z; omega
    · rw [z] at hn1; omega
    · exact z
  have m1p : 0 < m1 := by
    rcases Int.lt_trichotomy m1 0 with z | z | z
    · have := Int.mul_neg_of_pos_of_neg gp z; omega
    · rw [z] at hm1; omega
    · exact z
  have e1 : (p.1 - r) / g = k := by rw [hk]; exact Int.mul_ediv_cancel_left _ (by omega)
  have e2 : p.2 / g = n1 := by rw [hn1]; exact Int.mul_ediv_cancel_left _ (by omega)
  have e3 : m / g = m1 := by rw [hm1]; exact Int.mul_ediv_cancel_left _ (by omega)
  rw [e1, e2, e3]
  have st0 := Int.emod_nonneg (s * k) (show n1 ≠ 0 by omega)
  have st1 := Int.emod_lt_of_pos (s * k) n1p
  have st2 := Int.emod_add_mul_ediv (s * k) n1
  generalize (s * k) % n1 = x at *
  generalize s * k / n1 = y at *
  have hmn : m * n1 = m1 * p.2 := by rw [hm1, hn1]; grind
  refine ⟨?_, ?_, ?_, fun q hq => ?_⟩
  · have := Int.mul_nonneg (Int.le_of_lt mp) st0
    omega
  · have : m * x ≤ m * (n1 - 1) := Int.mul_le_mul_of_nonneg_left (by omega) (by omega)
    rw [Int.mul_sub, Int.mul_one] at this
    omega
  · rw [lcmL_app]
    have hl : m.natAbs = lcmL ps := by rw [h.lc]; rfl
    rw [← hl]
    have e : Nat.gcd m.natAbs p.2.natAbs * Nat.lcm m.natAbs p.2.natAbs = m.natAbs * p.2.natAbs := Nat.gcd_mul_lcm ..
    have e' : g * ((Nat.lcm m.natAbs p.2.natAbs : Nat) : Int) = m * p.2 := by
      rw [hg, ← Int.natCast_mul, e, Int.natCast_mul, Int.natAbs_of_nonneg (by omega), Int.natAbs_of_nonneg (by omega)]
    have : g * ((Nat.lcm m.natAbs p.2.natAbs : Nat) : Int) = g * (m1 * p.2) := by rw [e', hm1]; grind
    exact (Int.eq_of_mul_eq_mul_left (by omega) this).symm
  · rcases List.mem_append.mp hq with hq | hq
    · have d1 := h.rem q hq
      have d2 : q.2 ∣ m := by
        rw [h.lc]
        have : ∀ (ps : List Pr) (acc : Nat), (q.2.natAbs ∣ acc ∨ q ∈ ps) → q.2.natAbs ∣ ps.foldl (fun acc p => Nat.lcm acc p.2.natAbs) acc := fun ps => by
          induction ps with
          | nil => intro acc h; rcases h with h | h; exact h; cases h
          | cons c cs ih =>
            intro acc h
            refine ih _ ?_
            rcases h with h | h
            · exact .inl (Nat.dvd_trans h (Nat.dvd_lcm_left ..))
            · rcases List.mem_cons.mp h with h | h
              · subst h; exact .inl (Nat.dvd_lcm_right ..)
              · exact .inr h
        exact Int.ofNat_dvd_right.mpr (this ps 1 (.inr hq))
      rw [show r + m * x - q.1 = (r - q.1) + m * x by omega]
      exact Int.dvd_add d1 (Int.dvd_trans d2 ⟨x, rfl⟩)
    · have := List.mem_singleton.mp hq
      subst this
      refine ⟨-t * k - m1 * y, ?_⟩
      grind
end My

namespace My
def Prime (n : Int) : Prop := 2 ≤ n ∧ ∀ d : Int, 2 ≤ d → d * d ≤ n → ¬ d ∣ n
/-- no divisor among the 2 ^ l numbers from lo on -/
def chk (n : Nat) : Nat → Nat → Bool
  | 0, lo => n % lo != 0
  | l + 1, lo => chk n l lo && chk n l (lo + 2 ^ l)
theorem chk_spec (n : Nat) : ∀ (l lo : Nat), chk n l lo = true → ∀ d, lo ≤ d → d < lo + 2 ^ l → n % d ≠ 0
  | 0, lo, h, d, h1, h2 => by
    have : d = lo := by simp at h2; omega
    subst this
    simpa [chk] using h
  | l + 1, lo, h, d, h1, h2 => by
    simp only [chk, Bool.and_eq_true] at h
    have e : 2 ^ (l + 1) = 2 ^ l + 2 ^ l := by rw [Nat.pow_succ]; omega
    by_cases c : d < lo + 2 ^ l
    · exact chk_spec n l lo h.1 d h1 c
    · exact chk_spec n l (lo + 2 ^ l) h.2 d (by omega) (by omega)
abbrev PP : Int := 4294967291
theorem chkPP : chk 4294967291 16 2 = true := by decide +kernel
theorem primePP : Prime PP := by
  refine ⟨by decide, fun d h1 h2 h3 => ?_⟩
  have hd : d ≤ 65537 := by
    rcases Int.lt_or_le 65537 d with z | z
    · have := Int.mul_le_mul (Int.le_of_lt z) (Int.le_of_lt z) (by decide) (by omega)
      have e : (65537 : Int) * 65537 = 4295098369 := by decide
      have : PP = 4294967291 := rfl
      omega
    · exact z
  have := chk_spec 4294967291 16 2 chkPP d.toNat (by omega) (by
    have e : 2 + 2 ^ 16 = 65538 := by decide
    omega)
  have h4 : d.toNat ∣ 4294967291 := by
    have : ((d.toNat : Nat) : Int) ∣ ((4294967291 : Nat) : Int) := by rw [Int.toNat_of_nonneg (by omega)]; exact h3
    exact Int.ofNat_dvd.mp this
  exact this (Nat.mod_eq_zero_of_dvd h4)
theorem prime_small {n : Int} (h : n < 4) : Prime n ↔ 1 < n := by
  constructor
  · intro hp; have := hp.1; omega
  · intro h1
    refine ⟨by omega, fun d h2 h3 => ?_⟩
    have := Int.mul_le_mul h2 h2 (by decide) (by omega)
    omega
/-- none up to k divides n -/
def NoDiv (n k : Int) : Prop := ∀ d : Int, 2 ≤ d → d < k → ¬ d ∣ n
theorem prime_of {n k : Int} (h2 : 2 ≤ n) (h : NoDiv n k) (hk : ∀ d : Int, 2 ≤ d → d * d ≤ n → d < k) : Prime n := ⟨h2, fun d h1 h3 => h d h1 (hk d h1 h3)⟩
theorem notPrime {n d : Int} (hd : 2 ≤ d) (hn : d ∣ n) (hlt : d < n) : ¬ Prime n := fun hp => by
  by_cases c : d * d ≤ n
  · exact hp.2 d hd c hn
  · obtain ⟨e, he⟩ := hn
    have e1 : 2 ≤ e := by
      rcases Int.lt_or_le e 2 with z | z
      · have h0 := hp.1
        rcases Int.lt_or_le e 1 with y | y
        · have := Int.mul_le_mul_of_nonneg_left (show e ≤ 0 by omega) (show 0 ≤ d by omega)
          omega
        · have : e = 1 := by omega
          subst this; omega
      · exact z
    have e2 : e < d := by
      rcases Int.lt_or_le e d with z | z
      · exact z
      · have := Int.mul_le_mul_of_nonneg_left z (show 0 ≤ d by omega)
        omega
    have e3 : e * e ≤ n := by
      have := Int.mul_le_mul_of_nonneg_right (Int.le_of_lt e2) (show 0 ≤ e by omega)
      omega
    exact hp.2 e e1 e3 ⟨d, by rw [he, Int.mul_comm]⟩
theorem noDiv_six {n k : Int} (h2 : ¬ (2 : Int) ∣ n) (h3 : ¬ (3 : Int) ∣ n) (h : NoDiv n k) (hk : ∃ i : Int, k = 5 + 6 * i) (a : ¬ k ∣ n) (b : ¬ (k + 2) ∣ n) : NoDiv n (k + 6) := fun d d2 dl hd => by
  obtain ⟨i, rfl⟩ := hk
  by_cases c : d < 5 + 6 * i
  · exact h d d2 c hd
  · have cases : d = 5 + 6 * i ∨ d = 5 + 6 * i + 1 ∨ d = 5 + 6 * i + 2 ∨ d = 5 + 6 * i + 3 ∨ d = 5 + 6 * i + 4 ∨ d = 5 + 6 * i + 5 := by omega
    rcases cases with e | e | e | e | e | e
    · subst e; exact a hd
    · subst e; exact h2 (Int.dvd_trans ⟨3 + 3 * i, by omega⟩ hd)
    · subst e; exact b hd
    · subst e; exact h2 (Int.dvd_trans ⟨4 + 3 * i, by omega⟩ hd)
    · subst e; exact h3 (Int.dvd_trans ⟨3 + 2 * i, by omega⟩ hd)
    · subst e; exact h2 (Int.dvd_trans ⟨5 + 3 * i, by omega⟩ hd)
theorem noDiv_two {n k : Int} (h2 : ¬ (2 : Int) ∣ n) (h : NoDiv n k) (hk : ∃ i : Int, k = 3 + 2 * i) (a : ¬ k ∣ n) : NoDiv n (k + 2) := fun d d2 dl hd => by
  obtain ⟨i, rfl⟩ := hk
  by_cases c : d < 3 + 2 * i
  · exact h d d2 c hd
  · have cases : d = 3 + 2 * i ∨ d = 3 + 2 * i + 1 := by omega
    rcases cases with e | e
    · subst e; exact a hd
    · subst e; exact h2 (Int.dvd_trans ⟨2 + i, by omega⟩ hd)
/-- the next prime above n -/
structure Next (n q : Int) : Prop where
  lt : n < q
  pr : Prime q
  le : q ≤ PP
  no : ∀ x : Int, n < x → x < q → ¬ Prime x
theorem Next.uniq {n q r : Int} (h : Next n q) (h' : Next n r) : q = r := by
  rcases Int.lt_trichotomy q r with z | z | z
  · exact absurd h.pr (h'.no q h.lt z)
  · exact z
  · exact absurd h'.pr (h.no r h'.lt z)
end My

namespace My
structure RR (m r a x b y : Int) : Prop where
  h1 : m ∣ a - r * x
  h2 : m ∣ b - r * y
  det : (0 < y ∧ x ≤ 0 ∧ a * y - b * x = m) ∨ (y < 0 ∧ 0 ≤ x ∧ a * y - b * x = -m)
  b0 : 0 ≤ b
  ba : b < a
theorem RR.start {m r : Int} (hm : 0 < m) : RR m r m 0 (r.fmod m) 1 := by
  rw [Int.fmod_eq_emod_of_nonneg _ (by omega)]
  have h := Int.mul_ediv_add_emod r m
  refine ⟨⟨1, by omega⟩, ⟨-(r / m), by rw [Int.mul_neg]; omega⟩, .inl ⟨by omega, by omega, by omega⟩, Int.emod_nonneg _ (by omega), Int.emod_lt_of_pos _ hm⟩
theorem RR.bds {m r a x b y : Int} (h : RR m r a x b y) : 0 < a ∧ a ≤ m ∧ y.natAbs ≤ m.natAbs ∧ (0 < b → x.natAbs ≤ m.natAbs) := by
  have hb := h.b0
  have hba := h.ba
  rcases h.det with ⟨y0, x0, e⟩ | ⟨y0, x0, e⟩
  · have p1 := Int.mul_le_mul_of_nonneg_left (show 1 ≤ y by omega) (show 0 ≤ a by omega)
    have p2 := Int.mul_le_mul_of_nonneg_right (show 1 ≤ a by omega) (show 0 ≤ y by omega)
    have p3 := Int.mul_nonneg hb (show 0 ≤ -x by omega)
    rw [Int.mul_neg b] at p3
    refine ⟨by omega, by omega, by omega, fun b1 => ?_⟩
    have p4 := Int.mul_le_mul_of_nonneg_right (show 1 ≤ b by omega) (show 0 ≤ -x by omega)
    rw [Int.mul_neg b] at p4
    omega
  · have p1 := Int.mul_le_mul_of_nonneg_left (show 1 ≤ -y by omega) (show 0 ≤ a by omega)
    have p2 := Int.mul_le_mul_of_nonneg_right (show 1 ≤ a by omega) (show 0 ≤ -y by omega)
    have p3 := Int.mul_nonneg hb x0
    rw [Int.mul_neg a] at p1 p2
    refine ⟨by omega, by omega, by omega, fun b1 => ?_⟩
    have p4 := Int.mul_le_mul_of_nonneg_right (show 1 ≤ b by omega) x0
    omega
theorem RR.step {m r a x b y : Int} (h : RR m r a x b y) (hb : 0 < b) : RR m r b y (a - a / b * b) (x - a / b * y) ∧ a - a / b * b < b ∧ 1 ≤ a / b ∧ a / b ≤ a := by
  have hba := h.ba
  have hm : a - a / b * b = a % b := by
    have := Int.emod_add_mul_ediv a b
    rw [Int.mul_comm b] at this
    omega
  have m0 := Int.emod_nonneg a (show b ≠ 0 by omega)
  have m1 := Int.emod_lt_of_pos a hb
  have q1 : a / b ≤ a := Int.ediv_le_self b (by omega)
  have q0 : 1 ≤ a / b := by
    have := Int.ediv_le_ediv hb (Int.le_of_lt hba)
    rwa [Int.ediv_self (by omega)] at this
  refine ⟨⟨h.h2, ?_, ?_, by omega, by omega⟩, by omega, q0, q1⟩
  · obtain ⟨u, hu⟩ := h.h1
    obtain ⟨v, hv⟩ := h.h2
    exact ⟨u - a / b * v, by grind⟩
  · generalize a / b = q at *
    rcases h.det with ⟨y0, x0, e⟩ | ⟨y0, x0, e⟩
    · right
      have := Int.mul_le_mul_of_nonneg_right q0 (show 0 ≤ y by omega)
      exact ⟨by omega, by omega, by grind⟩
    · left
      have := Int.mul_le_mul_of_nonneg_right q0 (show 0 ≤ -y by omega)
      rw [Int.mul_neg q] at this
      exact ⟨by omega, by omega, by grind⟩
theorem RR.gcd_step {a b q : Int} (h : Int.gcd a b = 1) : Int.gcd b (a - q * b) = 1 := by
  have : Int.gcd b (a - q * b) ∣ 1 := by
    rw [← h]
    have d1 : ((Int.gcd b (a - q * b) : Nat) : Int) ∣ b := Int.gcd_dvd_left ..
    have d2 : ((Int.gcd b (a - q * b) : Nat) : Int) ∣ a - q * b := Int.gcd_dvd_right ..
    refine Int.dvd_gcd ?_ d1
    obtain ⟨u, hu⟩ := d1
    obtain ⟨v, hv⟩ := d2
    exact ⟨v + q * u, by grind⟩
  exact Nat.dvd_one.mp this
/-- n / d is what r stands for modulo m, within the bound B -/
structure Rec (m r B n d : Int) : Prop where
  d0 : 0 < d
  dB : d ≤ B
  n1 : -B ≤ n
  n2 : n ≤ B
  eq : m ∣ n - r * d
  cm : Int.gcd d m = 1
  cn : Int.gcd n d = 1
theorem sq_le {u v B : Int} (u1 : -B ≤ u) (u2 : u ≤ B) (v1 : -B ≤ v) (v2 : v ≤ B) : -(B * B) ≤ u * v ∧ u * v ≤ B * B := by
  have : (u * v).natAbs ≤ B.natAbs * B.natAbs := by
    rw [Int.natAbs_mul]; exact Nat.mul_le_mul (by omega) (by omega)
  have e : ((B.natAbs * B.natAbs : Nat) : Int) = B * B := by
    rw [Int.natCast_mul]
    have : ((B.natAbs : Nat) : Int) = B := by omega
    rw [this]
  omega
theorem near0 {m z : Int} (h : m ∣ z) (h1 : -m < z) (h2 : z < m) : z = 0 := by
  obtain ⟨k, rfl⟩ := h
  rcases Int.lt_trichotomy k 0 with c | c | c
  · have := Int.mul_le_mul_of_nonneg_left (show k ≤ -1 by omega) (show 0 ≤ m by omega)
    omega
  · subst c; simp
  · have := Int.mul_le_mul_of_nonneg_left (show 1 ≤ k by omega) (show 0 ≤ m by omega)
    omega
theorem fracs_eq {a b a' b' : Int} (h : Int.gcd a b = 1) (h' : Int.gcd a' b' = 1) (hb : 0 < b) (hb' : 0 < b') (e : a * b' = a' * b) : a = a' ∧ b = b' := by
  have d1 : b ∣ b' := by
    have : b ∣ a * b' := ⟨a', by rw [e, Int.mul_comm]⟩
    exact dvd_cop (by rw [Int.gcd_comm]; exact h) this
  have d2 : b' ∣ b := by
    have : b' ∣ a' * b := ⟨a, by rw [← e, Int.mul_comm]⟩
    exact dvd_cop (by rw [Int.gcd_comm]; exact h') this
  have eb : b = b' := Int.le_antisymm (Int.le_of_dvd hb' d1) (Int.le_of_dvd hb d2)
  subst eb
  exact ⟨Int.eq_of_mul_eq_mul_right (by omega) e, rfl⟩
theorem cross {m r n d n' d' : Int} (e : m ∣ n - r * d) (e' : m ∣ n' - r * d') : m ∣ n * d' - n' * d := by
  obtain ⟨u, hu⟩ := e
  obtain ⟨v, hv⟩ := e'
  exact ⟨u * d' - v * d, by grind⟩
theorem Rec.uniq {m r B n d n' d' : Int} (h : Rec m r B n d) (h' : Rec m r B n' d') (hB : 2 * B * B < m) : n = n' ∧ d = d' := by
  have a1 := sq_le h.n1 h.n2 (show -B ≤ d' by have := h'.d0; have := h'.dB; omega) h'.dB
  have a2 := sq_le h'.n1 h'.n2 (show -B ≤ d by have := h.d0; have := h.dB; omega) h.dB
  rw [Int.mul_assoc] at hB
  have := near0 (cross h.eq h'.eq) (by omega) (by omega)
  exact fracs_eq h.cn h'.cn h.d0 h'.d0 (by omega)
theorem RR.found {m r a x b y B n d : Int} (h : RR m r a x b y) (hm : 0 < m) (hB : 2 * B * B < m) (ha : B < a) (hb : b ≤ B) (R : Rec m r B n d) : (0 < y → n = b ∧ d = y) ∧ (y < 0 → n = -b ∧ d = -y) := by
  have d0 := R.d0
  have dB := R.dB
  have n1 := R.n1
  have n2 := R.n2
  have b0 := h.b0
  obtain ⟨k, hk⟩ := cross R.eq h.h2
  obtain ⟨l', hl'⟩ := cross R.eq h.h1
  rw [Int.mul_assoc] at hB
  -- n y - b d = m k ;  n x - a d = m l'
  have k0 : k = 0 := by
    by_cases c : -B ≤ y ∧ y ≤ B
    · have a1 := sq_le n1 n2 c.1 c.2
      have a2 := sq_le (show -B ≤ b by omega) hb (show -B ≤ d by omega) dB
      have := near0 (m := m) (z := m * k) ⟨k, rfl⟩ (by omega) (by omega)
      rcases Int.mul_eq_zero.mp this with z | z
      · omega
      · exact z
    · rcases h.det with ⟨y0, x0, e⟩ | ⟨y0, x0, e⟩
      · have en : n = k * a - l' * b := by
          have : m * n = m * (k * a - l' * b) := by grind
          exact Int.eq_of_mul_eq_mul_left (by omega) this
        have ed : d = k * x - l' * y := by
          have : m * d = m * (k * x - l' * y) := by grind
          exact Int.eq_of_mul_eq_mul_left (by omega) this
        rcases Int.lt_trichotomy k 0 with z | z | z
        · have p1 := Int.mul_le_mul_of_nonneg_right (show k ≤ -1 by omega) (show 0 ≤ a by omega)
          rcases Int.lt_or_le l' 0 with w | w
          · have p2 := Int.mul_nonneg (show 0 ≤ -k by omega) (show 0 ≤ -x by omega)
            rw [Int.neg_mul_neg] at p2
            have p3 := Int.mul_le_mul_of_nonneg_right (show l' ≤ -1 by omega) (show 0 ≤ y by omega)
            omega
          · have p2 := Int.mul_nonneg w b0
            omega
        · exact z
        · have p1 := Int.mul_le_mul_of_nonneg_right (show 1 ≤ k by omega) (show 0 ≤ a by omega)
          rcases Int.lt_or_le 0 l' with w | w
          · have p2 := Int.mul_nonneg (show 0 ≤ k by omega) (show 0 ≤ -x by omega)
            rw [Int.mul_neg k] at p2
            have p3 := Int.mul_le_mul_of_nonneg_right (show 1 ≤ l' by omega) (show 0 ≤ y by omega)
            omega
          · have p2 := Int.mul_nonneg (show 0 ≤ -l' by omega) b0
            rw [Int.neg_mul] at p2
            omega
      · have en : n = l' * b - k * a := by
          have : m * n = m * (l' * b - k * a) := by grind
          exact Int.eq_of_mul_eq_mul_left (by omega) this
        have ed : d = l' * y - k * x := by
          have : m * d = m * (l' * y - k * x) := by grind
          exact Int.eq_of_mul_eq_mul_left (by omega) this
        rcases Int.lt_trichotomy k 0 with z | z | z
        · have p1 := Int.mul_le_mul_of_nonneg_right (show k ≤ -1 by omega) (show 0 ≤ a by omega)
          rcases Int.lt_or_le l' 0 with w | w
          · have p2 := Int.mul_nonneg (show 0 ≤ -k by omega) x0
            rw [Int.neg_mul] at p2
            have p3 := Int.mul_nonneg (show 0 ≤ -l' - 1 by omega) (show 0 ≤ -y by omega)
            have p4 : (-l' - 1) * -y = l' * y + y := by grind
            omega
          · have p2 := Int.mul_nonneg w b0
            omega
        · exact z
        · have p1 := Int.mul_le_mul_of_nonneg_right (show 1 ≤ k by omega) (show 0 ≤ a by omega)
          rcases Int.lt_or_le 0 l' with w | w
          · have p2 := Int.mul_nonneg (show 0 ≤ k by omega) x0
            have p3 := Int.mul_nonneg (show 0 ≤ l' by omega) (show 0 ≤ -y by omega)
            rw [Int.mul_neg l'] at p3
            omega
          · have p2 := Int.mul_nonneg (show 0 ≤ -l' by omega) b0
            rw [Int.neg_mul] at p2
            omega
  subst k0
  have e0 : n * y = b * d := by omega
  -- a d - n x = ± m ..., n = l b, d = l y
  have ex : ∃ l : Int, n = l * b ∧ d = l * y := by
    rcases h.det with ⟨y0, x0, e⟩ | ⟨y0, x0, e⟩
    · refine ⟨-l', ?_, ?_⟩
      · have : m * n = m * (-l' * b) := by grind
        exact Int.eq_of_mul_eq_mul_left (by omega) this
      · have : m * d = m * (-l' * y) := by grind
        exact Int.eq_of_mul_eq_mul_left (by omega) this
    · refine ⟨l', ?_, ?_⟩
      · have : m * n = m * (l' * b) := by grind
        exact Int.eq_of_mul_eq_mul_left (by omega) this
      · have : m * d = m * (l' * y) := by grind
        exact Int.eq_of_mul_eq_mul_left (by omega) this
  obtain ⟨l, e1, e2⟩ := ex
  have hl : l.natAbs = 1 := by
    have hc := R.cn
    rw [e1, e2, Int.gcd_mul_left] at hc
    exact Nat.dvd_one.mp ⟨_, hc.symm⟩
  have hl2 : l = 1 ∨ l = -1 := by omega
  rcases hl2 with w | w
  · subst w
    constructor <;> intro _ <;> omega
  · subst w
    constructor <;> intro _ <;> omega
theorem RR.make {m r a x b y B : Int} (h : RR m r a x b y) (hb : b ≤ B) (hy : y.natAbs ≤ B.natAbs) (hB : 0 ≤ B) (hg : Int.gcd y m = 1) : (0 < y → Rec m r B b y) ∧ (y < 0 → Rec m r B (-b) (-y)) := by
  have b0 := h.b0
  have cn : Int.gcd b y = 1 := by
    have : Int.gcd b y ∣ 1 := by
      rw [← hg]
      have d1 : ((Int.gcd b y : Nat) : Int) ∣ b := Int.gcd_dvd_left ..
      have d2 : ((Int.gcd b y : Nat) : Int) ∣ y := Int.gcd_dvd_right ..
      refine Int.dvd_gcd d2 ?_
      obtain ⟨u, hu⟩ := d1
      obtain ⟨v, hv⟩ := d2
      generalize ((Int.gcd b y : Nat) : Int) = g at *
      rcases h.det with ⟨_, _, e⟩ | ⟨_, _, e⟩
      · exact ⟨a * v - u * x, by grind⟩
      · exact ⟨u * x - a * v, by grind⟩
    exact Nat.dvd_one.mp this
  refine ⟨fun y0 => ⟨y0, by omega, by omega, by omega, h.h2, hg, cn⟩, fun y0 => ⟨by omega, by omega, by omega, by omega, ?_, by rw [Int.neg_gcd]; exact hg, by rw [Int.neg_gcd, Int.gcd_neg]; exact cn⟩⟩
  obtain ⟨v, hv⟩ := h.h2
  exact ⟨-v, by grind⟩
end My

namespace My
open PySem PySem.Spec PyProof.Rows L2 DL

def topS (i : Nat) : Stmt := PySem.Challenge.pw_echelon_k04_primes.main.body.getD i (.Pass ⟨0, 0, 0, 0⟩)
abbrev s0 : Stmt := topS 2
theorem sc0 : FnScope ["n", "k"] ["n"] (defScope s0) := ⟨rfl, rfl, rfl, by decide +kernel, rfl, by decide +kernel, by decide +kernel⟩
abbrev s1 : Stmt := topS 3
theorem sc1 : FnScope ["n", "candidate"] ["n"] (defScope s1) := ⟨rfl, rfl, rfl, by decide +kernel, rfl, by decide +kernel, by decide +kernel⟩
abbrev s2 : Stmt := topS 4
theorem sc2 : FnScope ["n"] ["n"] (defScope s2) := ⟨rfl, rfl, rfl, by decide +kernel, rfl, by decide +kernel, by decide +kernel⟩
abbrev s3 : Stmt := topS 6
theorem sc3 : FnScope ["script", "cell"] ["script"] (defScope s3) := ⟨rfl, rfl, rfl, by decide +kernel, rfl, by decide +kernel, by decide +kernel⟩
abbrev s4 : Stmt := topS 7
theorem sc4 : FnScope ["c", "number"] ["c"] (defScope s4) := ⟨rfl, rfl, rfl, by decide +kernel, rfl, by decide +kernel, by decide +kernel⟩
abbrev s5 : Stmt := topS 8
theorem sc5 : FnScope ["c", "many", "digit"] ["c", "many"] (defScope s5) := ⟨rfl, rfl, rfl, by decide +kernel, rfl, by decide +kernel, by decide +kernel⟩
abbrev s6 : Stmt := topS 9
theorem sc6 : FnScope ["n", "k"] ["n"] (defScope s6) := ⟨rfl, rfl, rfl, by decide +kernel, rfl, by decide +kernel, by decide +kernel⟩
abbrev s7 : Stmt := topS 10
theorem sc7 : FnScope ["n"] ["n"] (defScope s7) := ⟨rfl, rfl, rfl, by decide +kernel, rfl, by decide +kernel, by decide +kernel⟩
abbrev s8 : Stmt := topS 11
theorem sc8 : FnScope ["script", "c", "kind", "n", "k", "p", "q"] ["script"] (defScope s8) := ⟨rfl, rfl, rfl, by decide +kernel, rfl, by decide +kernel, by decide +kernel⟩
structure Txt (K : Fg) (mg : Str → Option Value) (fa : Nat → Addr) (fdd : Nat → FuncData) : Prop where
  F0 : Fun K "is_prime" "is_prime" s0 (fa 0) (fdd 0)
  g0 : mg "is_prime" = some (.ref (fa 0))
  b0 : Binds K (fdd 0) ["n"] []
  F1 : Fun K "next_prime" "next_prime" s1 (fa 1) (fdd 1)
  g1 : mg "next_prime" = some (.ref (fa 1))
  b1 : Binds K (fdd 1) ["n"] []
  F2 : Fun K "root" "root" s2 (fa 2) (fdd 2)
  g2 : mg "root" = some (.ref (fa 2))
  b2 : Binds K (fdd 2) ["n"] []
  F3 : Fun K "_law_start" "_law_start" s3 (fa 3) (fdd 3)
  g3 : mg "_law_start" = some (.ref (fa 3))
  b3 : Binds K (fdd 3) ["script"] []
  F4 : Fun K "_law_fill" "_law_fill" s4 (fa 4) (fdd 4)
  g4 : mg "_law_fill" = some (.ref (fa 4))
  b4 : Binds K (fdd 4) ["c"] []
  F5 : Fun K "_law_take" "_law_take" s5 (fa 5) (fdd 5)
  g5 : mg "_law_take" = some (.ref (fa 5))
  b5 : Binds K (fdd 5) ["c", "many"] []
  F6 : Fun K "_law_is_prime" "_law_is_prime" s6 (fa 6) (fdd 6)
  g6 : mg "_law_is_prime" = some (.ref (fa 6))
  b6 : Binds K (fdd 6) ["n"] []
  F7 : Fun K "_law_next" "_law_next" s7 (fa 7) (fdd 7)
  g7 : mg "_law_next" = some (.ref (fa 7))
  b7 : Binds K (fdd 7) ["n"] []
  F8 : Fun K "law" "law" s8 (fa 8) (fdd 8)
  g8 : mg "law" = some (.ref (fa 8))
  b8 : Binds K (fdd 8) ["script"] []
  m_bool : mg "bool" = none
  m_int : mg "int" = none
  m_isinstance : mg "isinstance" = none
  m_isqrt : mg "isqrt" = some (.builtin "math.isqrt")
  m_len : mg "len" = none
  m_max : mg "max" = none
  m_min : mg "min" = none
  m_range : mg "range" = none
local macro_rules | `(tactic| walk_at "dl") => `(tactic| try simp only [wSeq, wIfS, wApp, wSetIx, wKeep, wFLst, wFBP, fList, pName, pureD, pC, pNil, pCons, wCallP, wBinP, wTruP, wBP, noList, noListA, wAnd, wOr, wNotT, wTest, wTruT, truD, wBin, wUn, wName, wC, env0, List.map, look, dEq_ii, dNe_ii, dEq_t2, dNe_t2, dEq_bb, dNe_bb, wiR3, List.replicate, List.length, List.append, List.cons_append, List.nil_append, Nat.sub_self, wPar, wCons, wNil, wB, bAbs, bInt, bMax, bMin, bGcd, bIsqrt, bLcm, bLen, wTup, wLst, put, wRet, wNext, wAsg, wgName, wgTup, wgCons, wgNil, dIx_t0, dIx_t1, dIx_t2, dIx_l0, dIx_l1, dIx_l2, dAdd, dSub, dMul, dDiv, dMod, dNeg, dPow, dLt, dLe, dGt, dGe, wCall, wIf, wDrop, wAug, dAddI, wAndV, wOrV, wNotV, wIsi, isi_ii, isi_ib, isi_in, isi_is, isi_il, isi_it, isi_bi, isi_bb, isi_bn, isi_bs, isi_bl, isi_bt, isi_ti, isi_tb, isi_tn, isi_ts, isi_tl, isi_tt, wFor, wiR1, wiR2, wiTup, wiLst, wFree, wComp, wYes, wChain, dIsN, dIsNN, Bool.not_true, Bool.not_false, Bool.not_eq_true', decide_eq_true_eq, decide_eq_false_iff_not, Bool.false_eq_true, if_false, if_true, bne_iff_ne, ne_eq, reduceCtorEq, Nat.reduceAdd, Nat.reduceLeDiff, Nat.reduceSub, true_and, and_true])

/-! ### the law's own draws -/
def pre_law_fill : List D → Prop := fun ds => ds = [.dict []]
def post_law_fill : List D → D → Prop := fun ds d => ∃ n : Int, d = .int n
def pre_law_take : List D → Prop := fun ds => ∃ m : Int, ds = [.dict [], .int m] ∧ 0 < m ∧ m.natAbs.log2 < 9000
def post_law_take : List D → D → Prop := fun ds d => ∃ m r : Int, ds = [.dict [], .int m] ∧ d = .int r ∧ 0 ≤ r ∧ r < m
theorem sql_upd {K : Fg} {H : Hp} {p b : Addr} {o : HO} {xs : List V} (h : SqL K H p xs) (n : p ≠ b) : SqL K (upd H b o) p xs := by
  rcases h with (h | ⟨u, h⟩) | h
  · exact .inl (.inl (by rw [upd_ne n]; exact h))
  · exact .inl (.inr ⟨u, by rw [upd_ne n]; exact h⟩)
  · exact .inr h
theorem ok_law_fill {P : Program} {w : World} {K : Fg} {mg : Str → Option Value} {base : Heap} {fa : Nat → Addr} {fdd : Nat → FuncData} (T : Txt K mg fa fdd) : FnOk P w K mg base CX0 1 (fa 4) (fdd 4) ["c"] (SpD K pre_law_fill post_law_fill) := by
  refine T.F4.ok sc4 (fun vs H Q E h => ?_) (fun cdv A outer s H vs Q E hr h => ?_)
  · obtain ⟨lc, hc, hd, ds, g, _, _, _, rfl, _⟩ := h
    rw [g.length]; rfl
  · obtain ⟨lc, hc, hd, ds, g, cok, sub, al, rfl, q⟩ := h
    obtain ⟨x, rfl, gx⟩ := da1 g
    cases gx with
    | @tok b hl =>
      subst hl
      obtain ⟨⟨p, ns, pos, dig, cnt, hb, hS, npb, h0, h63, hcp⟩, hcb⟩ := cok b rfl
      refine ⟨_, pss_cons (ps_asg (pe_op op_add (pe_ix ix_list (pv 0) pe_int (fun _ _ => rfl)) pe_int) (pg_sub (pv 0) pe_int set_list))
        (pss_cons (ps_set (i := 1) sc4.nd rfl (.inl rfl) (pe_op op_add (pe_op op_mul (pe_ix ix_list (pv 0) pe_int (fun _ _ => rfl)) pe_int) pe_int))
        (pss_cons (ps_if (pt_cmpR op_lt (pe_ix ix_list (pv 0) pe_int (fun _ _ => rfl)) (pe_callB call_len_seq (by rfl) T.m_len PySem.boot_len (pa_cons (pe_ix ix_list (pv 0) pe_int (fun _ _ => rfl)) pa_nil)) (nomark _))
            (pss_cons (ps_set (i := 1) sc4.nd rfl (.inl rfl) (pe_ix ix_list (pe_ix ix_list (pv 0) pe_int (fun _ _ => rfl)) (pe_ix ix_list (pv 0) pe_int (fun _ _ => rfl)) (fun _ _ => rfl)))
            (pss_cons (ps_asg (pe_op op_add (pe_ix ix_list (pv 0) pe_int (fun _ _ => rfl)) pe_int) (pg_sub (pv 0) pe_int set_list))
            (pss_cons (ps_if (pt_cmpR op_lt (pv 1) pe_int (nomark _)) (pss_one (ps_set (i := 1) sc4.nd rfl (.inl rfl) (pe_op op_sub (pe_op op_sub pe_int pe_int) (pv 1)))) pss_nil)
            (pss_one (ps_if (pt_cmpR op_ge (pv 1) (pe_op op_pow pe_int pe_int) (nomark _)) (pss_one (ps_ret (pv 1))) pss_nil))))) pss_nil)
        (pss_cons (ps_if (PW.pt (pw_and (pt_truth (pe_ix ix_list (pv 0) pe_int (fun _ _ => rfl)) (by intro _; rfl)) (pw_and1 (pt_cmpR op_ge (pe_ix ix_list (pv 0) pe_int (fun _ _ => rfl)) (pe_callB call_len_seq (by rfl) T.m_len PySem.boot_len (pa_cons (pe_ix ix_list (pv 0) pe_int (fun _ _ => rfl)) pa_nil)) (nomark _)))))
            (pss_one (ps_set (i := 1) sc4.nd rfl (.inl rfl) (pe_op op_add (pv 1) (pe_op op_modN (pe_callTy call_int1 (by rfl) T.m_int (by decide +kernel) (pa_cons (pe_ix ix_list (pe_ix ix_list (pv 0) pe_int (fun _ _ => rfl)) (pe_un un_neg pe_int) (fun _ _ => rfl)) pa_nil)) pe_int)))) pss_nil)
        (pss_cons (ps_set (i := 1) sc4.nd rfl (.inl rfl) (pe_op op_modN (pe_callTy call_int1 (by rfl) T.m_int (by decide +kernel) (pa_cons (pe_op op_add (pe_op op_mul (pv 1) pe_int) (pe_op op_mul (pe_ix ix_list (pv 0) pe_int (fun _ _ => rfl)) pe_int)) pa_nil)) pe_int))
        (pss_one (ps_ret (pe_op op_add (pe_op op_modN (pe_callTy call_int1 (by rfl) T.m_int (by decide +kernel) (pa_cons (pe_op op_add (pe_op op_add (pe_op op_mul (pv 1) (pv 1)) (pe_op op_mul (pe_ix ix_list (pv 0) pe_int (fun _ _ => rfl)) pe_int)) pe_int) pa_nil)) pe_int) pe_int))))))), ?_⟩
      -- c[3] = c[3] + 1
      refine ⟨.ref b, rfl, b, _, 3, .int cnt, rfl, rfl, .of hb, atI_nat (j := 3) rfl, cnt, 1, rfl, rfl, .ref b, rfl, b, _, 3, 3, rfl, rfl, hb, rfl, ?_⟩
      -- number
      refine ⟨.ref b, rfl, b, _, 3, .int (cnt + 1), rfl, rfl, .of upd_same, atI_nat (j := 3) rfl, cnt + 1, 69621, rfl, rfl, .inr (by decide), (cnt + 1) * 69621, 12345, rfl, rfl, ?_⟩
      have fin : ∀ (n : Int) (H2 : Hp) (pos2 : Int), H2 b = some (.lst [.ref p, .int pos2, .int dig, .int (cnt + 1)]) → 0 ≤ pos2 → (∀ x, x ≠ b → H2 x = H x) → Q (.int n) H2 := fun n H2 pos2 e1 e2 e3 => by
        refine q (.int n) (.int n) H2 (fun c o hcb' ho => by rw [e3 c (fun z => hcb' (by rw [z]))]; exact ho) (fun c hc' => ?_) (.int n) ⟨n, rfl⟩
        cases hc'
        refine ⟨⟨p, ns, pos2, dig, cnt + 1, e1, ?_, npb, e2, h63, hcp⟩, hcb⟩
        rcases hS with (h | ⟨u, h⟩) | h
        · exact .inl (.inl (by rw [e3 p npb]; exact h))
        · exact .inl (.inr ⟨u, by rw [e3 p npb]; exact h⟩)
        · exact .inr h
      have sql : ∀ (H2 : Hp), (∀ x, x ≠ b → H2 x = H x) → SqL K H2 p (ns.map V.int) := fun H2 e3 => by
        rcases hS with (h | ⟨u, h⟩) | h
        · exact .inl (.inl (by rw [e3 p npb]; exact h))
        · exact .inl (.inr ⟨u, by rw [e3 p npb]; exact h⟩)
        · exact .inr h
      generalize hH1 : upd H b (.lst ((([V.ref p, V.int pos, V.int dig, V.int cnt]).set 3 (.int (cnt + 1))))) = H1
      have e1 : H1 b = some (.lst [.ref p, .int pos, .int dig, .int (cnt + 1)]) := by rw [← hH1]; exact upd_same
      have e3 : ∀ x, x ≠ b → H1 x = H x := fun x hx => by rw [← hH1]; exact upd_ne hx
      -- if c[1] < len(c[0])
      refine ⟨.ref b, rfl, b, _, 1, .int pos, rfl, rfl, .of e1, atI_nat (j := 1) rfl, .ref b, rfl, b, _, 0, .ref p, rfl, rfl, .of e1, atI_nat (j := 0) rfl, p, ns.map V.int, rfl, .inl (sql H1 e3), pos, ((ns.map V.int).length : Int), rfl, rfl, _, rfl, ite2 (fun c1 => ?_) (fun c1 => ?_)⟩
      · -- number = c[0][c[1]]
        have c1' : pos < ((ns.map V.int).length : Int) := of_decide_eq_true c1
        have hlt : pos.toNat < ns.length := by rw [List.length_map] at c1'; omega
        have at1 : atI (ns.map V.int) pos = some (.int ns[pos.toNat]) := by
          have := atI_nat (xs := ns.map V.int) (j := pos.toNat) (v := .int ns[pos.toNat]) (by rw [List.getElem?_map, List.getElem?_eq_getElem hlt]; rfl)
          rwa [Int.toNat_of_nonneg h0] at this
        refine ⟨.ref b, rfl, b, _, 0, .ref p, rfl, rfl, .of e1, atI_nat (j := 0) rfl, .ref b, rfl, b, _, 1, .int pos, rfl, rfl, .of e1, atI_nat (j := 1) rfl, p, ns.map V.int, pos, .int ns[pos.toNat], rfl, rfl, sql H1 e3, at1, ?_⟩
        -- c[1] = c[1] + 1
        refine ⟨.ref b, rfl, b, _, 1, .int pos, rfl, rfl, .of e1, atI_nat (j := 1) rfl, pos, 1, rfl, rfl, .ref b, rfl, b, _, 1, 1, rfl, rfl, e1, rfl, ?_⟩
        generalize hHk : upd H1 b (.lst ((([V.ref p, V.int pos, V.int dig, V.int (cnt + 1)]).set 1 (.int (pos + 1))))) = Hk
        have k1 : Hk b = some (.lst [.ref p, .int (pos + 1), .int dig, .int (cnt + 1)]) := by rw [← hHk]; exact upd_same
        have k3 : ∀ x, x ≠ b → Hk x = H x := fun x hx => by rw [← hHk, upd_ne hx]; exact e3 x hx
        have kp : 0 ≤ pos + 1 := by omega
        generalize ns[pos.toNat] = num
        generalize pos + 1 = pk at k1 kp
        refine ⟨.int num, rfl, num, 0, rfl, rfl, _, rfl, ite2 (fun c2 => ?_) (fun c2 => ?_)⟩
        · refine ⟨0, 1, rfl, rfl, .int num, rfl, _, num, rfl, rfl, ?_⟩
          refine ⟨.int (0 - 1 - num), rfl, 10, 18, rfl, rfl, ⟨by decide, by decide, by decide⟩, 0 - 1 - num, _, rfl, rfl, _, rfl, ite2 (fun c3 => ?_) (fun c3 => ?_)⟩
          · exact ⟨.int (0 - 1 - num), rfl, fin (0 - 1 - num) Hk pk k1 kp k3⟩
          · refine ⟨.ref b, rfl, b, _, 0, .ref p, rfl, rfl, .of k1, atI_nat (j := 0) rfl, !(ns.map V.int).isEmpty, .inl ⟨ns.map V.int, sql Hk k3, rfl⟩, ?_⟩
            have T2 : ∀ NN : Int, Q (.int ((((NN * 48271 + (cnt + 1) * 69621).fmod 2147483647) * ((NN * 48271 + (cnt + 1) * 69621).fmod 2147483647) + (cnt + 1) * 7919 + 11).fmod 2305843009213693951 + 2305843009213693951)) Hk := fun NN => fin _ Hk pk k1 kp k3
            have B2 : ∀ NN : Int, -(2 ^ 64) < ((NN * 48271 + (cnt + 1) * 69621).fmod 2147483647) ∧ ((NN * 48271 + (cnt + 1) * 69621).fmod 2147483647) < 2 ^ 64 := fun NN => by
              have f0 := Int.fmod_nonneg_of_pos (NN * 48271 + (cnt + 1) * 69621) (show (0 : Int) < 2147483647 by decide)
              have f1 := Int.fmod_lt_of_pos (NN * 48271 + (cnt + 1) * 69621) (show (0 : Int) < 2147483647 by decide)
              have : (2147483647 : Int) < 2 ^ 64 := by decide
              omega
            by_cases cn : ns = []
            · rw [show (ns.map V.int).isEmpty = true by rw [cn]; rfl]
              refine iteF (iteF ?_)
              exact ⟨_, rfl, _, 48271, rfl, rfl, .inr (by decide), .ref b, rfl, b, _, 3, .int (cnt + 1), rfl, rfl, .of k1, atI_nat (j := 3) rfl, cnt + 1, 69621, rfl, rfl, .inr (by decide), _, _, rfl, rfl, .inl ⟨_, rfl, _, 2147483647, rfl, rfl, (by show (2147483647 : Int) ≠ 0; decide),
                _, rfl, _, rfl, _, _, rfl, rfl, .inl (B2 _), .ref b, rfl, b, _, 3, .int (cnt + 1), rfl, rfl, .of k1, atI_nat (j := 3) rfl, cnt + 1, 7919, rfl, rfl, .inr (by decide), _, _, rfl, rfl, _, 11, rfl, rfl, .inl ⟨_, rfl, _, 2305843009213693951, rfl, rfl, (by show (2305843009213693951 : Int) ≠ 0; decide), _, _, rfl, rfl, T2 _⟩⟩⟩
            · have emp : (ns.map V.int).isEmpty = false := by cases ns <;> first | exact absurd rfl cn | rfl
              rw [emp]
              have hz : (ns.map V.int) = (ns.dropLast.map V.int) ++ [.int (ns.getLast cn)] := by rw [← List.map_singleton, ← List.map_append, List.dropLast_concat_getLast]
              have gl : atI (ns.map V.int) (-1) = some (.int (ns.getLast cn)) := by rw [hz]; exact atI_last _ _
              refine iteT ?_
              refine ⟨.ref b, rfl, b, _, 1, .int pk, rfl, rfl, .of k1, atI_nat (j := 1) rfl, .ref b, rfl, b, _, 0, .ref p, rfl, rfl, .of k1, atI_nat (j := 0) rfl, p, ns.map V.int, rfl, .inl (sql Hk k3), pk, ((ns.map V.int).length : Int), rfl, rfl, _, rfl, ite2 (fun c5 => ?_) (fun c5 => ?_)⟩
              · exact ⟨_, rfl, .ref b, rfl, b, _, 0, .ref p, rfl, rfl, .of k1, atI_nat (j := 0) rfl, 1, rfl, p, ns.map V.int, -1, .int (ns.getLast cn), rfl, rfl, sql Hk k3, gl, .inl ⟨_, rfl, _, 1000003, rfl, rfl, (by show (1000003 : Int) ≠ 0; decide), _, _, rfl, rfl,
                  _, rfl, _, 48271, rfl, rfl, .inr (by decide), .ref b, rfl, b, _, 3, .int (cnt + 1), rfl, rfl, .of k1, atI_nat (j := 3) rfl, cnt + 1, 69621, rfl, rfl, .inr (by decide), _, _, rfl, rfl, .inl ⟨_, rfl, _, 2147483647, rfl, rfl, (by show (2147483647 : Int) ≠ 0; decide),
                  _, rfl, _, rfl, _, _, rfl, rfl, .inl (B2 _), .ref b, rfl, b, _, 3, .int (cnt + 1), rfl, rfl, .of k1, atI_nat (j := 3) rfl, cnt + 1, 7919, rfl, rfl, .inr (by decide), _, _, rfl, rfl, _, 11, rfl, rfl, .inl ⟨_, rfl, _, 2305843009213693951, rfl, rfl, (by show (2305843009213693951 : Int) ≠ 0; decide), _, _, rfl, rfl, T2 _⟩⟩⟩⟩
              · exact ⟨_, rfl, _, 48271, rfl, rfl, .inr (by decide), .ref b, rfl, b, _, 3, .int (cnt + 1), rfl, rfl, .of k1, atI_nat (j := 3) rfl, cnt + 1, 69621, rfl, rfl, .inr (by decide), _, _, rfl, rfl, .inl ⟨_, rfl, _, 2147483647, rfl, rfl, (by show (2147483647 : Int) ≠ 0; decide),
                  _, rfl, _, rfl, _, _, rfl, rfl, .inl (B2 _), .ref b, rfl, b, _, 3, .int (cnt + 1), rfl, rfl, .of k1, atI_nat (j := 3) rfl, cnt + 1, 7919, rfl, rfl, .inr (by decide), _, _, rfl, rfl, _, 11, rfl, rfl, .inl ⟨_, rfl, _, 2305843009213693951, rfl, rfl, (by show (2305843009213693951 : Int) ≠ 0; decide), _, _, rfl, rfl, T2 _⟩⟩⟩
        · refine ⟨.int num, rfl, 10, 18, rfl, rfl, ⟨by decide, by decide, by decide⟩, num, _, rfl, rfl, _, rfl, ite2 (fun c3 => ?_) (fun c3 => ?_)⟩
          · exact ⟨.int num, rfl, fin num Hk pk k1 kp k3⟩
          · refine ⟨.ref b, rfl, b, _, 0, .ref p, rfl, rfl, .of k1, atI_nat (j := 0) rfl, !(ns.map V.int).isEmpty, .inl ⟨ns.map V.int, sql Hk k3, rfl⟩, ?_⟩
            have T2 : ∀ NN : Int, Q (.int ((((NN * 48271 + (cnt + 1) * 69621).fmod 2147483647) * ((NN * 48271 + (cnt + 1) * 69621).fmod 2147483647) + (cnt + 1) * 7919 + 11).fmod 2305843009213693951 + 2305843009213693951)) Hk := fun NN => fin _ Hk pk k1 kp k3
            have B2 : ∀ NN : Int, -(2 ^ 64) < ((NN * 48271 + (cnt + 1) * 69621).fmod 2147483647) ∧ ((NN * 48271 + (cnt + 1) * 69621).fmod 2147483647) < 2 ^ 64 := fun NN => by
              have f0 := Int.fmod_nonneg_of_pos (NN * 48271 + (cnt + 1) * 69621) (show (0 : Int) < 2147483647 by decide)
              have f1 := Int.fmod_lt_of_pos (NN * 48271 + (cnt + 1) * 69621) (show (0 : Int) < 2147483647 by decide)
              have : (2147483647 : Int) < 2 ^ 64 := by decide
              omega
            by_cases cn : ns = []
            · rw [show (ns.map V.int).isEmpty = true by rw [cn]; rfl]
              refine iteF (iteF ?_)
              exact ⟨_, rfl, _, 48271, rfl, rfl, .inr (by decide), .ref b, rfl, b, _, 3, .int (cnt + 1), rfl, rfl, .of k1, atI_nat (j := 3) rfl, cnt + 1, 69621, rfl, rfl, .inr (by decide), _, _, rfl, rfl, .inl ⟨_, rfl, _, 2147483647, rfl, rfl, (by show (2147483647 : Int) ≠ 0; decide),
                _, rfl, _, rfl, _, _, rfl, rfl, .inl (B2 _), .ref b, rfl, b, _, 3, .int (cnt + 1), rfl, rfl, .of k1, atI_nat (j := 3) rfl, cnt + 1, 7919, rfl, rfl, .inr (by decide), _, _, rfl, rfl, _, 11, rfl, rfl, .inl ⟨_, rfl, _, 2305843009213693951, rfl, rfl, (by show (2305843009213693951 : Int) ≠ 0; decide), _, _, rfl, rfl, T2 _⟩⟩⟩
            · have emp : (ns.map V.int).isEmpty = false := by cases ns <;> first | exact absurd rfl cn | rfl
              rw [emp]
              have hz : (ns.map V.int) = (ns.dropLast.map V.int) ++ [.int (ns.getLast cn)] := by rw [← List.map_singleton, ← List.map_append, List.dropLast_concat_getLast]
              have gl : atI (ns.map V.int) (-1) = some (.int (ns.getLast cn)) := by rw [hz]; exact atI_last _ _
              refine iteT ?_
              refine ⟨.ref b, rfl, b, _, 1, .int pk, rfl, rfl, .of k1, atI_nat (j := 1) rfl, .ref b, rfl, b, _, 0, .ref p, rfl, rfl, .of k1, atI_nat (j := 0) rfl, p, ns.map V.int, rfl, .inl (sql Hk k3), pk, ((ns.map V.int).length : Int), rfl, rfl, _, rfl, ite2 (fun c5 => ?_) (fun c5 => ?_)⟩
              · exact ⟨_, rfl, .ref b, rfl, b, _, 0, .ref p, rfl, rfl, .of k1, atI_nat (j := 0) rfl, 1, rfl, p, ns.map V.int, -1, .int (ns.getLast cn), rfl, rfl, sql Hk k3, gl, .inl ⟨_, rfl, _, 1000003, rfl, rfl, (by show (1000003 : Int) ≠ 0; decide), _, _, rfl, rfl,
                  _, rfl, _, 48271, rfl, rfl, .inr (by decide), .ref b, rfl, b, _, 3, .int (cnt + 1), rfl, rfl, .of k1, atI_nat (j := 3) rfl, cnt + 1, 69621, rfl, rfl, .inr (by decide), _, _, rfl, rfl, .inl ⟨_, rfl, _, 2147483647, rfl, rfl, (by show (2147483647 : Int) ≠ 0; decide),
                  _, rfl, _, rfl, _, _, rfl, rfl, .inl (B2 _), .ref b, rfl, b, _, 3, .int (cnt + 1), rfl, rfl, .of k1, atI_nat (j := 3) rfl, cnt + 1, 7919, rfl, rfl, .inr (by decide), _, _, rfl, rfl, _, 11, rfl, rfl, .inl ⟨_, rfl, _, 2305843009213693951, rfl, rfl, (by show (2305843009213693951 : Int) ≠ 0; decide), _, _, rfl, rfl, T2 _⟩⟩⟩⟩
              · exact ⟨_, rfl, _, 48271, rfl, rfl, .inr (by decide), .ref b, rfl, b, _, 3, .int (cnt + 1), rfl, rfl, .of k1, atI_nat (j := 3) rfl, cnt + 1, 69621, rfl, rfl, .inr (by decide), _, _, rfl, rfl, .inl ⟨_, rfl, _, 2147483647, rfl, rfl, (by show (2147483647 : Int) ≠ 0; decide),
                  _, rfl, _, rfl, _, _, rfl, rfl, .inl (B2 _), .ref b, rfl, b, _, 3, .int (cnt + 1), rfl, rfl, .of k1, atI_nat (j := 3) rfl, cnt + 1, 7919, rfl, rfl, .inr (by decide), _, _, rfl, rfl, _, 11, rfl, rfl, .inl ⟨_, rfl, _, 2305843009213693951, rfl, rfl, (by show (2305843009213693951 : Int) ≠ 0; decide), _, _, rfl, rfl, T2 _⟩⟩⟩
      · refine ⟨.ref b, rfl, b, _, 0, .ref p, rfl, rfl, .of e1, atI_nat (j := 0) rfl, !(ns.map V.int).isEmpty, .inl ⟨ns.map V.int, sql H1 e3, rfl⟩, ?_⟩
        have T2 : ∀ NN : Int, Q (.int ((((NN * 48271 + (cnt + 1) * 69621).fmod 2147483647) * ((NN * 48271 + (cnt + 1) * 69621).fmod 2147483647) + (cnt + 1) * 7919 + 11).fmod 2305843009213693951 + 2305843009213693951)) H1 := fun NN => fin _ H1 pos e1 h0 e3
        have B2 : ∀ NN : Int, -(2 ^ 64) < ((NN * 48271 + (cnt + 1) * 69621).fmod 2147483647) ∧ ((NN * 48271 + (cnt + 1) * 69621).fmod 2147483647) < 2 ^ 64 := fun NN => by
          have f0 := Int.fmod_nonneg_of_pos (NN * 48271 + (cnt + 1) * 69621) (show (0 : Int) < 2147483647 by decide)
          have f1 := Int.fmod_lt_of_pos (NN * 48271 + (cnt + 1) * 69621) (show (0 : Int) < 2147483647 by decide)
          have : (2147483647 : Int) < 2 ^ 64 := by decide
          omega
        by_cases cn : ns = []
        · rw [show (ns.map V.int).isEmpty = true by rw [cn]; rfl]
          refine iteF (iteF ?_)
          exact ⟨_, rfl, _, 48271, rfl, rfl, .inr (by decide), .ref b, rfl, b, _, 3, .int (cnt + 1), rfl, rfl, .of e1, atI_nat (j := 3) rfl, cnt + 1, 69621, rfl, rfl, .inr (by decide), _, _, rfl, rfl, .inl ⟨_, rfl, _, 2147483647, rfl, rfl, (by show (2147483647 : Int) ≠ 0; decide),
            _, rfl, _, rfl, _, _, rfl, rfl, .inl (B2 _), .ref b, rfl, b, _, 3, .int (cnt + 1), rfl, rfl, .of e1, atI_nat (j := 3) rfl, cnt + 1, 7919, rfl, rfl, .inr (by decide), _, _, rfl, rfl, _, 11, rfl, rfl, .inl ⟨_, rfl, _, 2305843009213693951, rfl, rfl, (by show (2305843009213693951 : Int) ≠ 0; decide), _, _, rfl, rfl, T2 _⟩⟩⟩
        · have emp : (ns.map V.int).isEmpty = false := by cases ns <;> first | exact absurd rfl cn | rfl
          rw [emp]
          have hz : (ns.map V.int) = (ns.dropLast.map V.int) ++ [.int (ns.getLast cn)] := by rw [← List.map_singleton, ← List.map_append, List.dropLast_concat_getLast]
          have gl : atI (ns.map V.int) (-1) = some (.int (ns.getLast cn)) := by rw [hz]; exact atI_last _ _
          refine iteT ?_
          refine ⟨.ref b, rfl, b, _, 1, .int pos, rfl, rfl, .of e1, atI_nat (j := 1) rfl, .ref b, rfl, b, _, 0, .ref p, rfl, rfl, .of e1, atI_nat (j := 0) rfl, p, ns.map V.int, rfl, .inl (sql H1 e3), pos, ((ns.map V.int).length : Int), rfl, rfl, _, rfl, ite2 (fun c5 => ?_) (fun c5 => ?_)⟩
          · exact ⟨_, rfl, .ref b, rfl, b, _, 0, .ref p, rfl, rfl, .of e1, atI_nat (j := 0) rfl, 1, rfl, p, ns.map V.int, -1, .int (ns.getLast cn), rfl, rfl, sql H1 e3, gl, .inl ⟨_, rfl, _, 1000003, rfl, rfl, (by show (1000003 : Int) ≠ 0; decide), _, _, rfl, rfl,
              _, rfl, _, 48271, rfl, rfl, .inr (by decide), .ref b, rfl, b, _, 3, .int (cnt + 1), rfl, rfl, .of e1, atI_nat (j := 3) rfl, cnt + 1, 69621, rfl, rfl, .inr (by decide), _, _, rfl, rfl, .inl ⟨_, rfl, _, 2147483647, rfl, rfl, (by show (2147483647 : Int) ≠ 0; decide),
              _, rfl, _, rfl, _, _, rfl, rfl, .inl (B2 _), .ref b, rfl, b, _, 3, .int (cnt + 1), rfl, rfl, .of e1, atI_nat (j := 3) rfl, cnt + 1, 7919, rfl, rfl, .inr (by decide), _, _, rfl, rfl, _, 11, rfl, rfl, .inl ⟨_, rfl, _, 2305843009213693951, rfl, rfl, (by show (2305843009213693951 : Int) ≠ 0; decide), _, _, rfl, rfl, T2 _⟩⟩⟩⟩
          · exact ⟨_, rfl, _, 48271, rfl, rfl, .inr (by decide), .ref b, rfl, b, _, 3, .int (cnt + 1), rfl, rfl, .of e1, atI_nat (j := 3) rfl, cnt + 1, 69621, rfl, rfl, .inr (by decide), _, _, rfl, rfl, .inl ⟨_, rfl, _, 2147483647, rfl, rfl, (by show (2147483647 : Int) ≠ 0; decide),
              _, rfl, _, rfl, _, _, rfl, rfl, .inl (B2 _), .ref b, rfl, b, _, 3, .int (cnt + 1), rfl, rfl, .of e1, atI_nat (j := 3) rfl, cnt + 1, 7919, rfl, rfl, .inr (by decide), _, _, rfl, rfl, _, 11, rfl, rfl, .inl ⟨_, rfl, _, 2305843009213693951, rfl, rfl, (by show (2305843009213693951 : Int) ≠ 0; decide), _, _, rfl, rfl, T2 _⟩⟩⟩
theorem ok_law_take {P : Program} {w : World} {K : Fg} {mg : Str → Option Value} {base : Heap} {fa : Nat → Addr} {fdd : Nat → FuncData} (T : Txt K mg fa fdd) : FnOk P w K mg base CX0 2 (fa 5) (fdd 5) ["c", "many"] (SpD K pre_law_take post_law_take) := by
  have GF : FnOk P w K mg base CX0 1 (fa 4) (fdd 4) ["c"] (SpD K pre_law_fill post_law_fill) := ok_law_fill T
  refine T.F5.ok sc5 (fun vs H Q E h => ?_) (fun cdv A outer s H vs Q E hr h => ?_)
  · obtain ⟨lc, hc, hd, ds, g, _, _, _, ⟨m, rfl, _⟩, _⟩ := h
    rw [g.length]; rfl
  · obtain ⟨lc, hc, hd, ds, g, cok, sub, al, ⟨m, rfl, hm, hl⟩, q⟩ := h
    obtain ⟨x, y, rfl, gx, gy⟩ := da2 g
    cases gy
    cases gx with
    | @tok b hl' =>
      subst hl'
      have cok0 := cok
      obtain ⟨⟨p, ns, pos, dig, cnt, hb, hS, npb, h0, h63, hcp⟩, hcb⟩ := cok b rfl
      have fin : ∀ (d : Int) (H2 : Hp) , Evo (some b) H H2 → Cok K (some b) hc H2 → 0 ≤ d → d < m → Q (.int d) H2 := fun d H2 e1 e2 l0 l1 => q (.int d) (.int d) H2 e1 e2 (.int d) ⟨m, d, rfl, rfl, l0, l1⟩
      refine ⟨_, pss_cons (ps_if (pt_cmpR op_lt (pe_ix ix_list (pv 0) pe_int (fun _ _ => rfl)) (pv 1) (nomark _)) (pss_one (ps_asg (pe_call GF hr (by rfl) T.g4 T.F4.kp T.b4 .nil pass0 (pa_cons (pv 0) pa_nil)) (pg_sub (pv 0) pe_int set_list))) pss_nil)
        (pss_cons (ps_set (i := 2) sc5.nd rfl (.inl rfl) (pe_op op_modN (pe_callTy call_int1 (by rfl) T.m_int (by decide +kernel) (pa_cons (pe_ix ix_list (pv 0) pe_int (fun _ _ => rfl)) pa_nil)) (pv 1)))
        (pss_cons (ps_asg (pe_op op_divB (pe_ix ix_list (pv 0) pe_int (fun _ _ => rfl)) (pv 1)) (pg_sub (pv 0) pe_int set_list))
        (pss_one (ps_ret (pv 2))))), ?_⟩
      refine ⟨.ref b, rfl, b, _, 2, .int dig, rfl, rfl, .of hb, atI_nat (j := 2) rfl, .int m, rfl, dig, m, rfl, rfl, _, rfl, ite2 (fun c1 => ?_) (fun c1 => ?_)⟩
      · refine ⟨.ref b, rfl, some b, hc, hd, [.dict []], .cons (.tok rfl) .nil, cok, sub, al, rfl, fun v d H1 ev ck gv po => ?_⟩
        obtain ⟨n, rfl⟩ := po
        cases gv
        obtain ⟨⟨p1, ns1, pos1, dig1, cnt1, hb1, hS1, npb1, h01, h631, hcp1⟩, hcb1⟩ := ck b rfl
        refine ⟨.ref b, rfl, b, _, 2, 2, rfl, rfl, hb1, rfl, ?_⟩
        generalize hHk : upd H1 b (.lst ((([V.ref p1, V.int pos1, V.int dig1, V.int cnt1]).set 2 (.int n)))) = Hk
        have k1 : Hk b = some (.lst [.ref p1, .int pos1, .int n, .int cnt1]) := by rw [← hHk]; exact upd_same
        refine ⟨.ref b, rfl, b, _, 2, .int n, rfl, rfl, .of k1, atI_nat (j := 2) rfl, .inl ⟨n, rfl, .int m, rfl, n, m, rfl, rfl, by omega, ?_⟩⟩
        refine ⟨.ref b, rfl, b, _, 2, .int n, rfl, rfl, .of k1, atI_nat (j := 2) rfl, .int m, rfl, n, m, rfl, rfl, ⟨by omega, hl⟩, .ref b, rfl, b, _, 2, 2, rfl, rfl, k1, rfl, ?_⟩
        refine ⟨.int (n.fmod m), rfl, fin _ _ (fun x o hx ho => ?_) (fun x hx => ?_) (Int.fmod_nonneg_of_pos n hm) (Int.fmod_lt_of_pos n hm)⟩
        · have hne : x ≠ b := fun z => hx (by rw [z])
          rw [upd_ne hne, ← hHk, upd_ne hne]
          exact ev x o hx ho
        · cases hx
          exact ⟨⟨p1, ns1, pos1, n.fdiv m, cnt1, upd_same, sql_upd (by rw [← hHk]; exact sql_upd hS1 npb1) npb1, npb1, h01, h631, hcp1⟩, hcb1⟩
      · refine ⟨.ref b, rfl, b, _, 2, .int dig, rfl, rfl, .of hb, atI_nat (j := 2) rfl, .inl ⟨dig, rfl, .int m, rfl, dig, m, rfl, rfl, by omega, ?_⟩⟩
        refine ⟨.ref b, rfl, b, _, 2, .int dig, rfl, rfl, .of hb, atI_nat (j := 2) rfl, .int m, rfl, dig, m, rfl, rfl, ⟨by omega, hl⟩, .ref b, rfl, b, _, 2, 2, rfl, rfl, hb, rfl, ?_⟩
        refine ⟨.int (dig.fmod m), rfl, fin _ _ (fun x o hx ho => ?_) (fun x hx => ?_) (Int.fmod_nonneg_of_pos dig hm) (Int.fmod_lt_of_pos dig hm)⟩
        · have hne : x ≠ b := fun z => hx (by rw [z])
          rw [upd_ne hne]
          exact ho
        · cases hx
          exact ⟨⟨p, ns, pos, dig.fdiv m, cnt, upd_same, sql_upd hS npb, npb, h0, h63, hcp⟩, hcb⟩
theorem take_iff {m : Int} {Q : D → Prop} : (pre_law_take [.dict [], .int m] ∧ ∀ d, post_law_take [.dict [], .int m] d → Q d) = ((0 < m ∧ m.natAbs.log2 < 9000) ∧ ∀ r : Int, 0 ≤ r → r < m → Q (.int r)) := propext ⟨fun h => by
  obtain ⟨⟨m', e, h1, h2⟩, h3⟩ := h
  cases e
  exact ⟨⟨h1, h2⟩, fun r h0 h1 => h3 _ ⟨m, r, rfl, rfl, h0, h1⟩⟩, fun h => ⟨⟨m, rfl, h.1.1, h.1.2⟩, fun d hd => by
  obtain ⟨m', r, e, rfl, h0, h1⟩ := hd
  cases e
  exact h.2 r h0 h1⟩⟩

/-! ### the law's start -/
def spStart (K : Fg) : Sp := fun vs H Q _ => ∃ (a : Addr) (ns : List Int), vs = [.ref a] ∧ SqL K H a (ns.map V.int) ∧ ns.length ≤ 63 ∧
  ∀ H' b p (ms : List Int), Same H H' → p ≠ b → H' b = some (.lst [.ref p, .int 0, .int 0, .int 0]) → H' p = some (.lst (ms.map V.int)) → ms.length ≤ 63 → Q (.ref b) H'
theorem cut_ints (ns : List Int) (lo hi : Option Int) : ∃ ms : List Int, cutV (ns.map V.int) lo hi = ms.map V.int ∧ ms.length ≤ ns.length := by
  unfold cutV
  refine ⟨(ns.drop (HT.sIx (ns.map V.int).length 0 lo)).take (HT.sIx (ns.map V.int).length (ns.map V.int).length hi - HT.sIx (ns.map V.int).length 0 lo), ?_, ?_⟩
  · rw [List.map_take, List.map_drop]
  · rw [List.length_take, List.length_drop]; omega
theorem ok_law_start {P : Program} {w : World} {K : Fg} {mg : Str → Option Value} {base : Heap} {fa : Nat → Addr} {fdd : Nat → FuncData} (T : Txt K mg fa fdd) : FnOk P w K mg base CX0 1 (fa 3) (fdd 3) ["script"] (spStart K) := by
  refine T.F3.ok sc3 (fun vs H Q E h => ?_) (fun cdv A outer s H vs Q E hr h => ?_)
  · obtain ⟨a, ns, rfl, _⟩ := h
    rfl
  · obtain ⟨a, ns, rfl, hS, hlen, q⟩ := h
    obtain ⟨ms, em, lm⟩ := cut_ints ns none (some 63)
    refine ⟨_, pss_one (ps_ret (pe_lst (pa_cons (pe_lc (own := [("cell", 1)]) (g := gName 1) (tt := tYes) rfl sc3.nd (pi_list (pe_slice sl_list (pv 0) po_none (po_some pe_int))) (blkOk_by (own := [("cell", 1)]) (N := ["script", "cell"]) (sc := defScope s3) (by decide +kernel))
        (fun _ _ _ _ _ => pg_name (i := 1) sc3.nd rfl (Or.inl rfl)) (fun _ _ _ _ _ => pts_nil) (fun _ _ _ _ _ => pe_callTy call_int1 (by rfl) T.m_int (by decide +kernel) (pa_cons (pv 1) pa_nil))) (pa_cons pe_int (pa_cons pe_int (pa_cons pe_int pa_nil)))))), ?_⟩
    refine ⟨.ref a, rfl, 63, rfl, a, _, rfl, hS, fun c nc => ?_⟩
    rw [em]
    have s1 : Same H (upd H c (.lst (ms.map V.int))) := same_new nc
    refine ⟨c, rfl, ⟨_, .of upd_same⟩, fun D hD => ?_⟩
    have nDc : c ≠ D := fun z => by rw [← z, upd_same] at hD; cases hD
    refine lc_list (K := K) (a := c) (xs := ms.map V.int) (fun i H' => Same H H' ∧ H' c = some (.lst (ms.map V.int)) ∧ H' D = some (.lst ((ms.take i).map V.int))) ⟨s1.trans (same_new hD), by rw [upd_ne nDc, upd_same], by rw [upd_same]; rfl⟩ (fun i H' _ h => .of h.2.1) (fun i x H' hx h => ?_) fun H' h => ?_
    · obtain ⟨e1, e2, e3⟩ := h
      have hi : i < ms.length := by
        have := (List.getElem?_eq_some_iff.mp hx).1
        simpa using this
      have ex : x = .int ms[i] := by
        rw [List.getElem?_map, List.getElem?_eq_getElem hi] at hx
        exact (Option.some.inj hx).symm
      subst ex
      refine ⟨rfl, ?_⟩
      refine iteT (B := Same H H' ∧ H' c = some (.lst (ms.map V.int)) ∧ H' D = some (.lst ((ms.take (i + 1)).map V.int))) ?_
      refine ⟨_, rfl, .inl ⟨_, rfl, _, e3, ?_, fun b o hb => ?_, ?_, ?_⟩⟩
      · rw [List.length_map, List.length_take]
        exact size_lt (by omega)
      · have : b ≠ D := fun z => by
          subst z
          have := same_new (o := .lst []) hD
          have h0 := s1 b o hb
          rw [hD] at h0; cases h0
        rw [upd_ne this]; exact e1 b o hb
      · rw [upd_ne nDc]; exact e2
      · rw [upd_same, List.take_add_one, List.getElem?_eq_getElem hi, List.map_append]; rfl
    · obtain ⟨e1, e2, e3⟩ := h
      rw [List.length_map, List.take_of_length_le (Nat.le_refl _)] at e3
      refine ⟨by show 4 ≤ sizeLine; decide, fun b hb => ?_⟩
      have nb : D ≠ b := fun z => by rw [← z, e3] at hb; cases hb
      exact q _ b D ms (e1.trans (same_new hb)) nb upd_same (by rw [upd_ne nb]; exact e3) (by omega)
theorem at_law {K : Fg} {H : Hp} {b p : Addr} {ms : List Int} {σ : L2.St} (e1 : σ[1]? = some (some (.ref b))) (npb : p ≠ b) (hb : H b = some (.lst [.ref p, .int 0, .int 0, .int 0])) (hp : H p = some (.lst (ms.map V.int))) (hl : ms.length ≤ 63) :
    At K ⟨some b, fun x => x = b ∨ x = p, fun x => x = b ∨ x = p, H, []⟩ σ H (put (List.replicate σ.length .un) 1 (.val (.dict []))) [] [] := by
  have lk : ∀ n i, look (List.replicate n Slot.un) i = .un := fun n => by
    induction n with
    | zero => intro i; rfl
    | succ n ih => intro i; cases i with
      | zero => rfl
      | succ i => exact ih i
  refine ⟨fun _ => none, ?_, .nil⟩
  exact {
    evo := .refl H
    cok := fun x hx => by
      cases hx
      exact ⟨⟨p, ms, 0, 0, 0, hb, .of hp, npb, by decide, hl, .inr rfl⟩, .inl rfl⟩
    sub := fun _ h => h
    all := fun x hx => by
      rcases hx with z | z <;> subst z
      · show H x ≠ none
        rw [hb]; exact fun z => nomatch z
      · show H x ≠ none
        rw [hp]; exact fun z => nomatch z
    len := by rw [put_length, List.length_replicate]
    val := fun i d h => by
      by_cases hi : i = 1
      · subst hi
        rcases look_put (List.replicate σ.length .un) 1 (.val (.dict [])) with z | z
        · rw [z] at h; cases h
          exact ⟨_, e1, .tok rfl⟩
        · rw [z] at h; cases h
      · rw [look_put_ne _ _ _ _ hi, lk] at h; cases h
    own := fun i es h => by
      by_cases hi : i = 1
      · subst hi
        rcases look_put (List.replicate σ.length .un) 1 (.val (.dict [])) with z | z <;> (rw [z] at h; cases h)
      · rw [look_put_ne _ _ _ _ hi, lk] at h; cases h
    fre := fun i p h => nomatch h
    inj := fun i j p h => nomatch h
    gho := fun p es h => nomatch h
    gnd := .nil }
def spLaw (K : Fg) : Sp := fun vs H Q _ => ∃ (a : Addr) (ns : List Int), vs = [.ref a] ∧ SqL K H a (ns.map V.int) ∧ ns.length ≤ 63 ∧ ∀ H', Q (.bl true) H'

/-! ### root -/
def pre_root : List D → Prop := fun ds => ∃ n : Int, ds = [.int n] ∧ 0 ≤ n ∧ n.natAbs < 2 ^ 12000
theorem len_root (ds : List D) (h : pre_root ds) : ds.length = ["n"].length := by obtain ⟨a, rfl, _⟩ := h; rfl
def post_root : List D → D → Prop := fun ds r => ∃ (n : Int) (x : Nat), ds = [.int n] ∧ r = .int (x : Nat) ∧ ((x * x : Nat) : Int) ≤ n ∧ n < (((x + 1) * (x + 1) : Nat) : Int)
theorem root_iff {n : Int} {Q : D → Prop} (h0 : 0 ≤ n) (hl : n.natAbs < 2 ^ 12000) (h : ∀ x : Nat, ((x * x : Nat) : Int) ≤ n → n < (((x + 1) * (x + 1) : Nat) : Int) → Q (.int (x : Nat))) : (pre_root [.int n] ∧ ∀ r, post_root [.int n] r → Q r) := ⟨⟨n, rfl, h0, hl⟩, fun r hr => by
  obtain ⟨n', x, e, rfl, h1, h2⟩ := hr
  cases e
  exact h x h1 h2⟩

def w_root_0 : WS := (wRet (wB bIsqrt (wCons (wName 0) wNil)))

set_option exponentiation.threshold 20000 in
theorem body_root : ∀ ds, pre_root ds → w_root_0 { nx := fun _ => post_root ds .none, rt := post_root ds } (env0 ["n"] ds) := by
  intro ds h
  obtain ⟨n, rfl, h0, hl⟩ := h
  unfold w_root_0
  walk_at "dl"
  refine ⟨h0, ?_, fun r h1 h2 => ⟨n, r, rfl, rfl, by omega, by omega⟩⟩
  have := log2_le_of (n := n.toNat) (k := 12000) (by decide) (by rwa [show n.toNat = n.natAbs by omega])
  omega

theorem ok_root {P : Program} {w : World} {K : Fg} {mg : Str → Option Value} {base : Heap} {fa : Nat → Addr} {fdd : Nat → FuncData} (T : Txt K mg fa fdd) : FnOk P w K mg base CX0 1 (fa 2) (fdd 2) ["n"] (SpD K pre_root post_root) := by
  exact fn_ok T.F2 sc2 len_root (fun cdv A outer s H E hr => ⟨_, w_root_0, (dss_one (ds_ret (de_callM cr_isqrt snc_isqrt (by rfl) T.m_isqrt (da_cons (de_name 0) da_nil)))), body_root⟩)
/-! ### _law_is_prime -/
def pre_law_is_prime : List D → Prop := fun ds => ∃ n : Int, ds = [.int n] ∧ n.natAbs < 2 ^ 64
theorem len_law_is_prime (ds : List D) (h : pre_law_is_prime ds) : ds.length = ["n"].length := by obtain ⟨a, rfl, _⟩ := h; rfl
def post_law_is_prime : List D → D → Prop := fun ds d => ∃ (n : Int) (b : Bool), ds = [.int n] ∧ d = .bool b ∧ (b = true ↔ Prime n)
theorem law_is_prime_iff {n : Int} {Q : D → Prop} (hl : n.natAbs < 2 ^ 64) (h : ∀ b : Bool, (b = true ↔ Prime n) → Q (.bool b)) : (pre_law_is_prime [.int n] ∧ ∀ r, post_law_is_prime [.int n] r → Q r) := ⟨⟨n, rfl, hl⟩, fun r hr => by
  obtain ⟨n', b, e, rfl, h1⟩ := hr
  cases e
  exact h b h1⟩
def mu_law_is_prime (ρ : Rho) : Nat := match look ρ 0, look ρ 1 with
  | .val (.int n), .val (.int k) => (n + 2 - k).toNat
  | _, _ => 0

def w_law_is_prime_4 : WS := (wRet (wC (.bool true)))
def w_law_is_prime_3_b : WS := (wSeq (wIfS (wTest (wBin dEq (wBin dMod (wB bInt (wCons (wName 0) wNil)) (wName 1)) (wC (.int 0)))) (wRet (wC (.bool false))) wNext)
    (wAsg (wBin dAdd (wName 1) (wC (.int 2))) (wgName 1)))
def w_law_is_prime_3 : WS := wSeq (wWhile (wTest (wBin dLe (wBin dMul (wName 1) (wName 1)) (wName 0))) w_law_is_prime_3_b) w_law_is_prime_4
def w_law_is_prime_2 : WS := wSeq (wAsg (wC (.int 3)) (wgName 1)) w_law_is_prime_3
def w_law_is_prime_1 : WS := wSeq (wIfS (wTest (wBin dEq (wBin dMod (wB bInt (wCons (wName 0) wNil)) (wC (.int 2))) (wC (.int 0)))) (wRet (wC (.bool false))) wNext) w_law_is_prime_2
def w_law_is_prime_0 : WS := wSeq (wIfS (wTest (wBin dLt (wName 0) (wC (.int 4)))) (wRet (wBin dGt (wName 0) (wC (.int 1)))) wNext) w_law_is_prime_1

theorem lpost_true {n : Int} (h : Prime n) : post_law_is_prime [.int n] (.bool true) := ⟨n, true, rfl, rfl, ⟨fun _ => h, fun _ => rfl⟩⟩
theorem lpost_false {n : Int} (h : ¬ Prime n) : post_law_is_prime [.int n] (.bool false) := ⟨n, false, rfl, rfl, ⟨(fun z => nomatch z), (fun z => absurd z h)⟩⟩
theorem lemod_dvd {a b : Int} (hb : 0 < b) : a.fmod b = 0 ↔ b ∣ a := by
  rw [Int.fmod_eq_emod_of_nonneg _ (by omega)]
  exact ⟨Int.dvd_of_emod_eq_zero, Int.emod_eq_zero_of_dvd⟩
set_option exponentiation.threshold 20000 in
theorem body_law_is_prime : ∀ ds, pre_law_is_prime ds → w_law_is_prime_0 { nx := fun _ => post_law_is_prime ds .none, rt := post_law_is_prime ds } (env0 ["n", "k"] ds) := by
  intro ds h
  obtain ⟨n, rfl, hn⟩ := h
  have p64 : (2 : Nat) ^ 64 = 18446744073709551616 := by decide
  unfold w_law_is_prime_0
  walk_at "dl"
  by_cases h4 : n < 4
  · rw [if_pos h4]
    exact ⟨n, _, rfl, rfl, by rw [decide_eq_true_eq, prime_small h4]⟩
  · rw [if_neg h4]
    unfold w_law_is_prime_1
    walk_at "dl"
    refine ⟨by decide, ?_⟩
    have e2 := lemod_dvd (a := n) (b := 2) (by decide)
    by_cases h2 : (2 : Int) ∣ n
    · rw [if_pos (e2.mpr h2)]
      exact lpost_false (notPrime (by decide) h2 (by omega))
    · rw [if_neg (fun z => h2 (e2.mp z))]
      unfold w_law_is_prime_2 w_law_is_prime_3
      walk_at "dl"
      refine ⟨fun ρ => ∃ k : Int, 3 ≤ k ∧ k ≤ n ∧ (∃ i : Int, k = 3 + 2 * i) ∧ NoDiv n k ∧ ρ = [.val (.int n), .val (.int k)], mu_law_is_prime, ⟨3, by decide, by omega, ⟨0, rfl⟩, fun d d2 dl hd => ?_, rfl⟩, ?_⟩
      · have : d = 2 := by omega
        subst this; exact h2 hd
      rintro ρ ⟨k, k3, kn, ko, hk, rfl⟩
      walk_at "dl"
      refine ⟨mulOk_of (a := 65) (b := 65) (lt_pow_of hn (by omega) (by decide)) (lt_pow_of hn (by omega) (by decide)) (by decide) (by decide) (by decide), ?_⟩
      by_cases c : k * k ≤ n
      · rw [if_pos c]
        unfold w_law_is_prime_3_b
        walk_at "dl"
        refine ⟨by omega, ?_⟩
        have f1 := lemod_dvd (a := n) (b := k) (by omega)
        have := Int.mul_le_mul (show 3 ≤ k by omega) (Int.le_refl k) (by omega) (by omega)
        by_cases c1 : k ∣ n
        · rw [if_pos (f1.mpr c1)]
          exact lpost_false (notPrime (by omega) c1 (by omega))
        · rw [if_neg (fun z => c1 (f1.mp z))]
          obtain ⟨i, hi⟩ := ko
          refine ⟨⟨k + 2, by omega, by omega, ⟨i + 1, by omega⟩, noDiv_two h2 hk ⟨i, hi⟩ c1, rfl⟩, ?_⟩
          simp only [mu_law_is_prime, look]
          omega
      · rw [if_neg c]
        unfold w_law_is_prime_4
        walk_at "dl"
        refine lpost_true (prime_of (by omega) hk fun d d2 dd => ?_)
        rcases Int.lt_or_le d k with z | z
        · exact z
        · have := Int.mul_le_mul z z (by omega) (by omega)
          omega

theorem ok_law_is_prime {P : Program} {w : World} {K : Fg} {mg : Str → Option Value} {base : Heap} {fa : Nat → Addr} {fdd : Nat → FuncData} (T : Txt K mg fa fdd) : FnOk P w K mg base CX0 1 (fa 6) (fdd 6) ["n"] (SpD K pre_law_is_prime post_law_is_prime) := by
  exact fn_ok T.F6 sc6 len_law_is_prime (fun cdv A outer s H E hr => ⟨_, w_law_is_prime_0, (dss_cons (ds_if (dt_cmp op_lt sn2_lt (de_name 0) de_int) (dss_one (ds_ret (de_cmp op_gt sn2_gt (de_name 0) de_int))) dss_nil)
      (dss_cons (ds_if (dt_cmp (op_eqP hr.units) sn2_eq (de_op op_modN sn2_mod (de_callTy call_int1 snc_int (by rfl) T.m_int (by decide +kernel) (da_cons (de_name 0) da_nil)) de_int) de_int) (dss_one (ds_ret de_bl)) dss_nil)
      (dss_cons (ds_set (i := 1) sc6.nd de_int)
      (dss_cons (ds_while PassesOwn.never (dt_cmp op_le sn2_le (de_op op_mulD sn2_mul (de_name 1) (de_name 1)) (de_name 0)) (dss_cons (ds_if (dt_cmp (op_eqP hr.units) sn2_eq (de_op op_modN sn2_mod (de_callTy call_int1 snc_int (by rfl) T.m_int (by decide +kernel) (da_cons (de_name 0) da_nil)) (de_name 1)) de_int) (dss_one (ds_ret de_bl)) dss_nil)
      (dss_one (ds_set (i := 1) sc6.nd (de_op op_addD sn2_add (de_name 1) de_int)))))
      (dss_one (ds_ret de_bl)))))), body_law_is_prime⟩)
/-! ### is_prime -/
def pre_is_prime : List D → Prop := fun ds => ∃ n : Int, ds = [.int n] ∧ n.natAbs < 2 ^ 64
theorem len_is_prime (ds : List D) (h : pre_is_prime ds) : ds.length = ["n"].length := by obtain ⟨a, rfl, _⟩ := h; rfl
def post_is_prime : List D → D → Prop := fun ds d => ∃ (n : Int) (b : Bool), ds = [.int n] ∧ d = .bool b ∧ (b = true ↔ Prime n)
theorem is_prime_iff {n : Int} {Q : D → Prop} (hl : n.natAbs < 2 ^ 64) (h : ∀ b : Bool, (b = true ↔ Prime n) → Q (.bool b)) : (pre_is_prime [.int n] ∧ ∀ r, post_is_prime [.int n] r → Q r) := ⟨⟨n, rfl, hl⟩, fun r hr => by
  obtain ⟨n', b, e, rfl, h1⟩ := hr
  cases e
  exact h b h1⟩

def w_is_prime_3 : WS := (wRet (wC (.bool true)))
def w_is_prime_2_b : WS := (wIfS (wOr (wTest (wBin dEq (wBin dMod (wName 0) (wName 1)) (wC (.int 0)))) (wTest (wBin dEq (wBin dMod (wName 0) (wBin dAdd (wName 1) (wC (.int 2)))) (wC (.int 0))))) (wRet (wC (.bool false))) wNext)
def w_is_prime_2 : WS := wSeq (wFor (wiR3 (wCons (wC (.int 5)) (wCons (wBin dAdd (wCall pre_root post_root (wCons (wName 0) wNil)) (wC (.int 1))) (wCons (wC (.int 6)) wNil)))) (wgName 1) w_is_prime_2_b) w_is_prime_3
def w_is_prime_1 : WS := wSeq (wIfS (wOr (wTest (wBin dEq (wBin dMod (wName 0) (wC (.int 2))) (wC (.int 0)))) (wTest (wBin dEq (wBin dMod (wName 0) (wC (.int 3))) (wC (.int 0))))) (wRet (wC (.bool false))) wNext) w_is_prime_2
def w_is_prime_0 : WS := wSeq (wIfS (wTest (wBin dLt (wName 0) (wC (.int 4)))) (wRet (wBin dGt (wName 0) (wC (.int 1)))) wNext) w_is_prime_1

theorem post_true {n : Int} (h : Prime n) : post_is_prime [.int n] (.bool true) := ⟨n, true, rfl, rfl, ⟨fun _ => h, fun _ => rfl⟩⟩
theorem post_false {n : Int} (h : ¬ Prime n) : post_is_prime [.int n] (.bool false) := ⟨n, false, rfl, rfl, ⟨(fun z => nomatch z), (fun z => absurd z h)⟩⟩
theorem emod_dvd {a b : Int} (hb : 0 < b) : a.fmod b = 0 ↔ b ∣ a := by
  rw [Int.fmod_eq_emod_of_nonneg _ (by omega)]
  exact ⟨Int.dvd_of_emod_eq_zero, Int.emod_eq_zero_of_dvd⟩
set_option exponentiation.threshold 20000 in
theorem body_is_prime : ∀ ds, pre_is_prime ds → w_is_prime_0 { nx := fun _ => post_is_prime ds .none, rt := post_is_prime ds } (env0 ["n", "k"] ds) := by
  intro ds h
  obtain ⟨n, rfl, hn⟩ := h
  have p64 : (2 : Nat) ^ 64 = 18446744073709551616 := by decide
  unfold w_is_prime_0
  walk_at "dl"
  by_cases h4 : n < 4
  · rw [if_pos h4]
    exact ⟨n, _, rfl, rfl, by rw [decide_eq_true_eq, prime_small h4]⟩
  · rw [if_neg h4]
    unfold w_is_prime_1
    walk_at "dl"
    refine ⟨by decide, ?_⟩
    have e2 := emod_dvd (a := n) (b := 2) (by decide)
    by_cases h2 : (2 : Int) ∣ n
    · rw [if_pos (e2.mpr h2)]
      exact post_false (notPrime (by decide) h2 (by omega))
    · rw [if_neg (fun z => h2 (e2.mp z))]
      refine ⟨by decide, ?_⟩
      have e3 := emod_dvd (a := n) (b := 3) (by decide)
      by_cases h3 : (3 : Int) ∣ n
      · rw [if_pos (e3.mpr h3)]
        exact post_false (notPrime (by decide) h3 (by omega))
      · rw [if_neg (fun z => h3 (e3.mp z))]
        unfold w_is_prime_2
        walk_at "dl"
        have up : (2 : Nat) ^ 64 ≤ 2 ^ 12000 := Nat.pow_le_pow_right (by decide) (by decide)
        refine root_iff (by omega) (Nat.lt_of_lt_of_le hn up) fun r hr1 hr2 => ?_
        have rb : r < 4294967296 := by
          rcases Nat.lt_or_ge r 4294967296 with z | z
          · exact z
          · have := Nat.mul_le_mul z z
            omega
        refine ⟨⟨by decide, by decide⟩, ⟨by omega, by omega⟩, by decide, by decide, ?_⟩
        have r5 : ∀ k : Int, k ≤ (r : Int) → 0 ≤ k → k * k ≤ n := fun k hk h0 => by
          have := Int.mul_le_mul hk hk h0 (by omega)
          rw [Int.natCast_mul] at hr1
          omega
        refine wForC_of (fun i ρ => ∃ x, NoDiv n (5 + (i : Int) * 6) ∧ ρ = [.val (.int n), x]) ⟨.un, fun d d2 dl hd => ?_, rfl⟩ (fun i ρ hi hI => ?_) fun ρ hI => ?_
        · have : d = 2 ∨ d = 3 ∨ d = 4 := by omega
          rcases this with e | e | e <;> subst e
          · exact h2 hd
          · exact h3 hd
          · exact h2 (Int.dvd_trans ⟨2, rfl⟩ hd)
        · obtain ⟨x, hI, rfl⟩ := hI
          unfold stepN at hi
          have hk : 5 + (i : Int) * 6 ≤ r := by omega
          walk_at "dl"
          unfold w_is_prime_2_b
          walk_at "dl"
          refine ⟨by omega, ?_⟩
          have f1 := emod_dvd (a := n) (b := 5 + (i : Int) * 6) (by omega)
          have kk := r5 _ hk (by omega)
          by_cases c1 : (5 + (i : Int) * 6) ∣ n
          · rw [if_pos (f1.mpr c1)]
            have := Int.mul_le_mul (show 2 ≤ 5 + (i : Int) * 6 by omega) (Int.le_refl (5 + (i : Int) * 6)) (by omega) (by omega)
            exact post_false (notPrime (by omega) c1 (by omega))
          · rw [if_neg (fun z => c1 (f1.mp z))]
            refine ⟨by omega, ?_⟩
            have f2 := emod_dvd (a := n) (b := 5 + (i : Int) * 6 + 2) (by omega)
            by_cases c2 : (5 + (i : Int) * 6 + 2) ∣ n
            · rw [if_pos (f2.mpr c2)]
              have := Int.mul_le_mul (show 5 ≤ 5 + (i : Int) * 6 by omega) (Int.le_refl (5 + (i : Int) * 6)) (by omega) (by omega)
              exact post_false (notPrime (by omega) c2 (by omega))
            · rw [if_neg (fun z => c2 (f2.mp z))]
              refine ⟨_, ?_, rfl⟩
              have := noDiv_six h2 h3 hI ⟨i, by omega⟩ c1 c2
              rwa [show 5 + ((i + 1 : Nat) : Int) * 6 = 5 + (i : Int) * 6 + 6 by omega]
        · obtain ⟨x, hI, rfl⟩ := hI
          unfold w_is_prime_3
          walk_at "dl"
          refine post_true (prime_of (by omega) hI fun d d2 dd => ?_)
          have : d ≤ r := by
            rcases Int.lt_or_le (r : Int) d with z | z
            · have := Int.mul_le_mul (show (r : Int) + 1 ≤ d by omega) (show (r : Int) + 1 ≤ d by omega) (by omega) (by omega)
              have e : (((r + 1) * (r + 1) : Nat) : Int) = ((r : Int) + 1) * ((r : Int) + 1) := by rw [Int.natCast_mul, Int.natCast_add]; rfl
              omega
            · exact z
          unfold stepN
          omega

theorem ok_is_prime {P : Program} {w : World} {K : Fg} {mg : Str → Option Value} {base : Heap} {fa : Nat → Addr} {fdd : Nat → FuncData} (T : Txt K mg fa fdd) : FnOk P w K mg base CX0 2 (fa 0) (fdd 0) ["n"] (SpD K pre_is_prime post_is_prime) := by
  have G2 : FnOk P w K mg base CX0 1 (fa 2) (fdd 2) ["n"] (SpD K pre_root post_root) := ok_root T
  exact fn_ok T.F0 sc0 len_is_prime (fun cdv A outer s H E hr => ⟨_, w_is_prime_0, (dss_cons (ds_if (dt_cmp op_lt sn2_lt (de_name 0) de_int) (dss_one (ds_ret (de_cmp op_gt sn2_gt (de_name 0) de_int))) dss_nil)
      (dss_cons (ds_if (DW.dt (dw_or (dt_cmp (op_eqP hr.units) sn2_eq (de_op op_modN sn2_mod (de_name 0) de_int) de_int) (dw_or1 (dt_cmp (op_eqP hr.units) sn2_eq (de_op op_modN sn2_mod (de_name 0) de_int) de_int)))) (dss_one (ds_ret de_bl)) dss_nil)
      (dss_cons (ds_for PassesOwn.never rfl (di_rng3 (by rfl) T.m_range (da_cons de_int (da_cons (de_op op_addD sn2_add (de_call G2 hr (by rfl) T.g2 T.F2.kp T.b2 pass0 (da_cons (de_name 0) da_nil)) de_int) (da_cons de_int da_nil)))) (dg_name (i := 1) sc0.nd) (dss_one (ds_if (DW.dt (dw_or (dt_cmp (op_eqP hr.units) sn2_eq (de_op op_modN sn2_mod (de_name 0) (de_name 1)) de_int) (dw_or1 (dt_cmp (op_eqP hr.units) sn2_eq (de_op op_modN sn2_mod (de_name 0) (de_op op_addD sn2_add (de_name 1) de_int)) de_int)))) (dss_one (ds_ret de_bl)) dss_nil)))
      (dss_one (ds_ret de_bl))))), body_is_prime⟩)
/-! ### law_next -/
def pre_law_next : List D → Prop := fun ds => ∃ n : Int, ds = [.int n] ∧ 0 ≤ n ∧ n < PP
theorem len_law_next (ds : List D) (h : pre_law_next ds) : ds.length = ["n"].length := by obtain ⟨a, rfl, _⟩ := h; rfl
def post_law_next : List D → D → Prop := fun ds d => ∃ n q : Int, ds = [.int n] ∧ d = .int q ∧ Next n q
theorem law_next_iff {n : Int} {Q : D → Prop} (h0 : 0 ≤ n) (hl : n < PP) (h : ∀ q : Int, Next n q → Q (.int q)) : (pre_law_next [.int n] ∧ ∀ r, post_law_next [.int n] r → Q r) := ⟨⟨n, rfl, h0, hl⟩, fun r hr => by
  obtain ⟨n', b, e, rfl, h1⟩ := hr
  cases e
  exact h b h1⟩
def mu_law_next (ρ : Rho) : Nat := match look ρ 0 with
  | .val (.int k) => (PP - k).toNat
  | _ => 0

def w_law_next_2 : WS := (wRet (wName 0))
def w_law_next_1_b : WS := (wAsg (wBin dAdd (wName 0) (wC (.int 1))) (wgName 0))
def w_law_next_1 : WS := wSeq (wWhile (wNotT (wTruT (wCall pre_law_is_prime post_law_is_prime (wCons (wName 0) wNil)))) w_law_next_1_b) w_law_next_2
def w_law_next_0 : WS := wSeq (wAsg (wBin dAdd (wName 0) (wC (.int 1))) (wgName 0)) w_law_next_1

theorem body_law_next : ∀ ds, pre_law_next ds → w_law_next_0 { nx := fun _ => post_law_next ds .none, rt := post_law_next ds } (env0 ["n"] ds) := by
  intro ds h
  obtain ⟨n, rfl, h0, hn⟩ := h
  have hpp : PP = 4294967291 := rfl
  have p64 : (2 : Nat) ^ 64 = 18446744073709551616 := by decide
  unfold w_law_next_0 w_law_next_1
  walk_at "dl"
  refine ⟨fun ρ => ∃ c : Int, n < c ∧ c ≤ PP ∧ (∀ x : Int, n < x → x < c → ¬ Prime x) ∧ ρ = [.val (.int c)], mu_law_next, ⟨n + 1, by omega, by omega, fun x x1 x2 hp => by omega, rfl⟩, ?_⟩
  rintro ρ ⟨c, c1, c2, c3, rfl⟩
  walk_at "dl"
  refine law_is_prime_iff (by omega) fun b hb => ?_
  walk_at "dl"
  cases b with
  | false =>
    rw [if_pos rfl]
    have np : ¬ Prime c := fun z => Bool.false_ne_true (hb.mpr z)
    have ne : c ≠ PP := fun z => np (z ▸ primePP)
    unfold w_law_next_1_b
    walk_at "dl"
    refine ⟨⟨c + 1, by omega, by omega, fun x x1 x2 => ?_, rfl⟩, ?_⟩
    · by_cases e : x = c
      · rw [e]; exact np
      · exact c3 x x1 (by omega)
    · simp only [mu_law_next, look]
      omega
  | true =>
    rw [if_neg (by decide)]
    unfold w_law_next_2
    walk_at "dl"
    exact ⟨n, c, rfl, rfl, c1, hb.mp rfl, c2, c3⟩

theorem ok_law_next {P : Program} {w : World} {K : Fg} {mg : Str → Option Value} {base : Heap} {fa : Nat → Addr} {fdd : Nat → FuncData} (T : Txt K mg fa fdd) : FnOk P w K mg base CX0 2 (fa 7) (fdd 7) ["n"] (SpD K pre_law_next post_law_next) := by
  have G6 : FnOk P w K mg base CX0 1 (fa 6) (fdd 6) ["n"] (SpD K pre_law_is_prime post_law_is_prime) := ok_law_is_prime T
  exact fn_ok T.F7 sc7 len_law_next (fun cdv A outer s H E hr => ⟨_, w_law_next_0, (dss_cons (ds_set (i := 0) sc7.nd (de_op op_addD sn2_add (de_name 0) de_int))
      (dss_cons (ds_while PassesOwn.never (dt_not (dt_tru (de_call G6 hr (by rfl) T.g6 T.F6.kp T.b6 pass0 (da_cons (de_name 0) da_nil)))) (dss_one (ds_set (i := 0) sc7.nd (de_op op_addD sn2_add (de_name 0) de_int))))
      (dss_one (ds_ret (de_name 0))))), body_law_next⟩)
/-! ### next_prime -/
def pre_next_prime : List D → Prop := fun ds => ∃ n : Int, ds = [.int n] ∧ 0 ≤ n ∧ n < PP
theorem len_next_prime (ds : List D) (h : pre_next_prime ds) : ds.length = ["n"].length := by obtain ⟨a, rfl, _⟩ := h; rfl
def post_next_prime : List D → D → Prop := fun ds d => ∃ n q : Int, ds = [.int n] ∧ d = .int q ∧ Next n q
theorem next_prime_iff {n : Int} {Q : D → Prop} (h0 : 0 ≤ n) (hl : n < PP) (h : ∀ q : Int, Next n q → Q (.int q)) : (pre_next_prime [.int n] ∧ ∀ r, post_next_prime [.int n] r → Q r) := ⟨⟨n, rfl, h0, hl⟩, fun r hr => by
  obtain ⟨n', b, e, rfl, h1⟩ := hr
  cases e
  exact h b h1⟩
def mu_next_prime (ρ : Rho) : Nat := match look ρ 1 with
  | .val (.int k) => (PP - k).toNat
  | _ => 0

def w_next_prime_2 : WS := (wRet (wName 1))
def w_next_prime_1_b : WS := (wAug 1 dAddI (wC (.int 1)))
def w_next_prime_1 : WS := wSeq (wWhile (wNotT (wTruT (wCall pre_is_prime post_is_prime (wCons (wName 1) wNil)))) w_next_prime_1_b) w_next_prime_2
def w_next_prime_0 : WS := wSeq (wAsg (wB bMax (wCons (wBin dAdd (wName 0) (wC (.int 1))) (wCons (wC (.int 2)) wNil))) (wgName 1)) w_next_prime_1

theorem body_next_prime : ∀ ds, pre_next_prime ds → w_next_prime_0 { nx := fun _ => post_next_prime ds .none, rt := post_next_prime ds } (env0 ["n", "candidate"] ds) := by
  intro ds h
  obtain ⟨n, rfl, h0, hn⟩ := h
  have hpp : PP = 4294967291 := rfl
  have p64 : (2 : Nat) ^ 64 = 18446744073709551616 := by decide
  unfold w_next_prime_0 w_next_prime_1
  walk_at "dl"
  refine ⟨fun ρ => ∃ c : Int, n < c ∧ c ≤ PP ∧ (∀ x : Int, n < x → x < c → ¬ Prime x) ∧ ρ = [.val (.int n), .val (.int c)], mu_next_prime, ⟨_, ?_, ?_, fun x x1 x2 hp => ?_, rfl⟩, ?_⟩
  · split <;> omega
  · split <;> omega
  · have := hp.1
    split at x2 <;> omega
  rintro ρ ⟨c, c1, c2, c3, rfl⟩
  walk_at "dl"
  refine is_prime_iff (by omega) fun b hb => ?_
  walk_at "dl"
  cases b with
  | false =>
    rw [if_pos rfl]
    have np : ¬ Prime c := fun z => Bool.false_ne_true (hb.mpr z)
    have ne : c ≠ PP := fun z => np (z ▸ primePP)
    unfold w_next_prime_1_b
    walk_at "dl"
    refine ⟨⟨c + 1, by omega, by omega, fun x x1 x2 => ?_, rfl⟩, ?_⟩
    · by_cases e : x = c
      · rw [e]; exact np
      · exact c3 x x1 (by omega)
    · simp only [mu_next_prime, look]
      omega
  | true =>
    rw [if_neg (by decide)]
    unfold w_next_prime_2
    walk_at "dl"
    exact ⟨n, c, rfl, rfl, c1, hb.mp rfl, c2, c3⟩

theorem ok_next_prime {P : Program} {w : World} {K : Fg} {mg : Str → Option Value} {base : Heap} {fa : Nat → Addr} {fdd : Nat → FuncData} (T : Txt K mg fa fdd) : FnOk P w K mg base CX0 3 (fa 1) (fdd 1) ["n"] (SpD K pre_next_prime post_next_prime) := by
  have G0 : FnOk P w K mg base CX0 2 (fa 0) (fdd 0) ["n"] (SpD K pre_is_prime post_is_prime) := ok_is_prime T
  exact fn_ok T.F1 sc1 len_next_prime (fun cdv A outer s H E hr => ⟨_, w_next_prime_0, (dss_cons (ds_set (i := 1) sc1.nd (de_callB (call_max2 rfl) snc_max (by rfl) T.m_max (by decide +kernel) (da_cons (de_op op_addD sn2_add (de_name 0) de_int) (da_cons de_int da_nil))))
      (dss_cons (ds_while PassesOwn.never (dt_not (dt_tru (de_call G0 hr (by rfl) T.g0 T.F0.kp T.b0 pass0 (da_cons (de_name 1) da_nil)))) (dss_one (ds_aug (i := 1) sc1.nd ip_add sn2_iadd de_int)))
      (dss_one (ds_ret (de_name 1))))), body_next_prime⟩)
def w_law_8 : WS := (wRet (wBin dEq (wCall pre_next_prime post_next_prime (wCons (wName 3) wNil)) (wCall pre_law_next post_law_next (wCons (wName 3) wNil))))
def w_law_7 : WS := wSeq (wAsg (wBin dIx (wLst (wCons (wCall pre_law_take post_law_take (wCons (wName 1) (wCons (wC (.int 200)) wNil))) (wCons (wCall pre_law_take post_law_take (wCons (wName 1) (wCons (wC (.int 70000)) wNil))) (wCons (wCall pre_law_take post_law_take (wCons (wName 1) (wCons (wBin dAdd (wBin dPow (wC (.int 2)) (wC (.int 31))) (wC (.int 1))) wNil))) (wCons (wBin dAdd (wC (.int 32768)) (wCall pre_law_take post_law_take (wCons (wName 1) (wCons (wC (.int 99)) wNil)))) wNil))))) (wCall pre_law_take post_law_take (wCons (wName 1) (wCons (wC (.int 4)) wNil)))) (wgName 3)) w_law_8
def w_law_6 : WS := wSeq (wIfS (wOr (wNotT (wTruT (wIsi "bool" (wCall pre_is_prime post_is_prime (wCons (wName 3) wNil))))) (wTest (wBin dNe (wCall pre_is_prime post_is_prime (wCons (wName 3) wNil)) (wCall pre_law_is_prime post_law_is_prime (wCons (wName 3) wNil))))) (wRet (wC (.bool false))) wNext) w_law_7
def w_law_5 : WS := wSeq (wIfS (wTest (wBin dEq (wName 2) (wC (.int 0)))) (wAsg (wBin dSub (wName 3) (wCall pre_law_take post_law_take (wCons (wName 1) (wCons (wC (.int 5000)) wNil)))) (wgName 3)) wNext) w_law_6
def w_law_4 : WS := wSeq (wIfS (wTest (wBin dGt (wName 2) (wC (.int 5)))) (wSeq (wAsg (wCall pre_law_next post_law_next (wCons (wCall pre_law_take post_law_take (wCons (wName 1) (wCons (wC (.int 65000)) wNil))) wNil)) (wgName 5))
    (wSeq (wAsg (wBin dIx (wLst (wCons (wName 5) (wCons (wCall pre_law_next post_law_next (wCons (wCall pre_law_take post_law_take (wCons (wName 1) (wCons (wC (.int 65000)) wNil))) wNil)) wNil))) (wBin dSub (wName 2) (wC (.int 6)))) (wgName 6))
    (wAsg (wBin dMul (wName 5) (wName 6)) (wgName 3)))) wNext) w_law_5
def w_law_3 : WS := wSeq (wIfS (wTest (wBin dEq (wName 2) (wC (.int 5)))) (wSeq (wAsg (wCall pre_law_next post_law_next (wCons (wCall pre_law_take post_law_take (wCons (wName 1) (wCons (wC (.int 46000)) wNil))) wNil)) (wgName 5))
    (wAsg (wB bMin (wCons (wBin dMul (wName 5) (wBin dSub (wBin dMul (wC (.int 2)) (wName 5)) (wC (.int 1)))) (wCons (wBin dSub (wBin dPow (wC (.int 2)) (wC (.int 32))) (wC (.int 1))) wNil))) (wgName 3))) wNext) w_law_4
def w_law_2 : WS := wSeq (wIfS (wOr (wTest (wBin dEq (wName 2) (wC (.int 4)))) (wTest (wBin dEq (wName 2) (wC (.int 5))))) (wSeq (wAsg (wBin dAdd (wC (.int 1)) (wCall pre_law_take post_law_take (wCons (wName 1) (wCons (wC (.int 148)) wNil)))) (wgName 4))
    (wAsg (wBin dMul (wBin dMul (wBin dAdd (wBin dMul (wC (.int 6)) (wName 4)) (wC (.int 1))) (wBin dAdd (wBin dMul (wC (.int 12)) (wName 4)) (wC (.int 1)))) (wBin dAdd (wBin dMul (wC (.int 18)) (wName 4)) (wC (.int 1)))) (wgName 3))) wNext) w_law_3
def w_law_1 : WS := wSeq (wAsg (wBin dIx (wLst (wCons (wBin dSub (wCall pre_law_take post_law_take (wCons (wName 1) (wCons (wC (.int 300)) wNil))) (wC (.int 20))) (wCons (wCall pre_law_take post_law_take (wCons (wName 1) (wCons (wC (.int 3000)) wNil))) (wCons (wCall pre_law_take post_law_take (wCons (wName 1) (wCons (wBin dPow (wC (.int 2)) (wC (.int 32))) wNil))) (wCons (wCall pre_law_take post_law_take (wCons (wName 1) (wCons (wBin dPow (wC (.int 10)) (wC (.int 6))) wNil))) (wCons (wC (.int 0)) (wCons (wC (.int 0)) (wCons (wC (.int 0)) (wCons (wC (.int 0)) wNil))))))))) (wName 2)) (wgName 3)) w_law_2
def w_law_0 : WS := wSeq (wAsg (wCall pre_law_take post_law_take (wCons (wName 1) (wCons (wC (.int 8)) wNil))) (wgName 2)) w_law_1
/-! ### the law -/
abbrev LE : DEnds := { nx := fun _ => False, rt := fun d => d = .bool true }
theorem q64 : (2 : Nat) ^ 64 = 18446744073709551616 := by decide
theorem e32 : (2 : Int) ^ (32 : Int).toNat = 4294967296 := by decide
theorem e31 : (2 : Int) ^ (31 : Int).toNat = 2147483648 := by decide
theorem e6 : (10 : Int) ^ (6 : Int).toNat = 1000000 := by decide
theorem law8 (n : Int) (a b x y z : Slot) (h0 : 0 ≤ n) (h1 : n < PP) : w_law_8 LE [a, .val (.dict []), b, .val (.int n), x, y, z] := by
  unfold w_law_8
  walk_at "dl"
  refine next_prime_iff h0 h1 fun q hq => ?_
  refine law_next_iff h0 h1 fun r hr => ?_
  walk_at "dl"
  rw [hq.uniq hr]
  simp
theorem law7 (a b n x y z : Slot) : w_law_7 LE [a, .val (.dict []), b, n, x, y, z] := by
  have hpp : PP = 4294967291 := rfl
  unfold w_law_7
  walk_at "dl"
  (rw [take_iff]; refine ⟨by decide, fun t0 t00 t01 => ?_⟩; walk_at "dl")
  (rw [take_iff]; refine ⟨by decide, fun t1 t10 t11 => ?_⟩; walk_at "dl")
  refine ⟨⟨by decide, by decide, by decide⟩, ?_⟩
  rw [e31]
  (rw [take_iff]; refine ⟨by decide, fun t2 t20 t21 => ?_⟩; walk_at "dl")
  (rw [take_iff]; refine ⟨by decide, fun t3 t30 t31 => ?_⟩; walk_at "dl")
  rw [take_iff]
  refine ⟨by decide, fun r1 _ hr => dIx_mem (by assumption) hr fun d hd => ?_⟩
  have hs : ∃ s : Int, d = .int s ∧ 0 ≤ s ∧ s < 4294967291 := by
    have := List.mem_of_getElem? hd
    simp only [List.mem_cons, List.not_mem_nil, or_false] at this
    rcases this with h | h | h | h <;> exact ⟨_, h, by omega, by omega⟩
  obtain ⟨s, rfl, s0, s1⟩ := hs
  walk_at "dl"
  exact law8 s _ _ _ _ _ s0 (by omega)
theorem law6 (n : Int) (a b x y z : Slot) (hn : n.natAbs < 2 ^ 64) : w_law_6 LE [a, .val (.dict []), b, .val (.int n), x, y, z] := by
  unfold w_law_6
  walk_at "dl"
  refine is_prime_iff hn fun b1 hb1 => ?_
  walk_at "dl"
  refine is_prime_iff hn fun b2 hb2 => ?_
  refine law_is_prime_iff hn fun b3 hb3 => ?_
  have e : b2 = b3 := by
    cases b2 <;> cases b3
    · rfl
    · exact absurd (hb2.mpr (hb3.mp rfl)) (by decide)
    · exact absurd (hb3.mpr (hb2.mp rfl)) (by decide)
    · rfl
  subst e
  walk_at "dl"
  rw [if_neg (by simp)]
  exact law7 _ _ _ _ _ _
theorem law5 (kind n : Int) (a x y z : Slot) (hn : n.natAbs < 18446744073709000000) : w_law_5 LE [a, .val (.dict []), .val (.int kind), .val (.int n), x, y, z] := by
  have := q64
  unfold w_law_5
  walk_at "dl"
  split
  · (rw [take_iff]; refine ⟨by decide, fun t0 t00 t01 => ?_⟩; walk_at "dl")
    exact law6 _ _ _ _ _ _ (by omega)
  · exact law6 _ _ _ _ _ _ (by omega)
theorem law4 (kind n : Int) (a x y z : Slot) (hk : kind < 8) (hn : n.natAbs < 18446744073709000000) : w_law_4 LE [a, .val (.dict []), .val (.int kind), .val (.int n), x, y, z] := by
  have hpp : PP = 4294967291 := rfl
  unfold w_law_4
  walk_at "dl"
  split
  · (rw [take_iff]; refine ⟨by decide, fun t0 t00 t01 => ?_⟩; walk_at "dl")
    refine law_next_iff (by omega) (by omega) fun p hp => ?_
    walk_at "dl"
    (rw [take_iff]; refine ⟨by decide, fun t1 t10 t11 => ?_⟩; walk_at "dl")
    refine law_next_iff (by omega) (by omega) fun p2 hp2 => ?_
    walk_at "dl"
    have hpl := hp.le
    have hpl2 := hp2.le
    have hp0 := hp.lt
    have hp20 := hp2.lt
    refine dIx_mem (by omega) (by simp; omega) fun d hd => ?_
    have hs : ∃ s : Int, d = .int s ∧ 0 ≤ s ∧ s ≤ 4294967291 := by
      have := List.mem_of_getElem? hd
      simp only [List.mem_cons, List.not_mem_nil, or_false] at this
      rcases this with h | h <;> exact ⟨_, h, by omega, by omega⟩
    obtain ⟨s, rfl, s0, s1⟩ := hs
    walk_at "dl"
    refine ⟨mulOk_of (a := 70) (b := 70) (by omega) (by omega) (by decide) (by decide) (by decide), ?_⟩
    have : (p * s).natAbs ≤ 4294967291 * 4294967291 := abs_mul_le (by omega) (by omega)
    exact law5 _ _ _ _ _ _ (by omega)
  · exact law5 _ _ _ _ _ _ hn
theorem law3 (kind n : Int) (a x y z : Slot) (hk : kind < 8) (hn : n.natAbs < 18446744073709000000) : w_law_3 LE [a, .val (.dict []), .val (.int kind), .val (.int n), x, y, z] := by
  have hpp : PP = 4294967291 := rfl
  unfold w_law_3
  walk_at "dl"
  split
  · (rw [take_iff]; refine ⟨by decide, fun t0 t00 t01 => ?_⟩; walk_at "dl")
    refine law_next_iff (by omega) (by omega) fun p hp => ?_
    walk_at "dl"
    have hpl := hp.le
    have hp0 := hp.lt
    refine ⟨mulOk_of (a := 70) (b := 70) (by omega) (by omega) (by decide) (by decide) (by decide), ?_⟩
    refine ⟨mulOk_of (a := 70) (b := 70) (by omega) (by omega) (by decide) (by decide) (by decide), ?_⟩
    refine ⟨⟨by decide, by decide, by decide⟩, ?_⟩
    rw [e32]
    have := Int.mul_nonneg (show 0 ≤ p by omega) (show 0 ≤ 2 * p - 1 by omega)
    exact law4 _ _ _ _ _ _ hk (by omega)
  · exact law4 _ _ _ _ _ _ hk hn
theorem law2 (kind n : Int) (a x y z : Slot) (hk : kind < 8) (hn : n.natAbs < 18446744073709000000) : w_law_2 LE [a, .val (.dict []), .val (.int kind), .val (.int n), x, y, z] := by
  unfold w_law_2
  walk_at "dl"
  have go : ∀ t : Int, 0 ≤ t → t < 148 → (mulOk 6 (1 + t) ∧ mulOk 12 (1 + t) ∧ mulOk (6 * (1 + t) + 1) (12 * (1 + t) + 1) ∧ mulOk 18 (1 + t) ∧ mulOk ((6 * (1 + t) + 1) * (12 * (1 + t) + 1)) (18 * (1 + t) + 1)) ∧ ((6 * (1 + t) + 1) * (12 * (1 + t) + 1) * (18 * (1 + t) + 1)).natAbs < 18446744073709000000 := fun t t0 t1 => by
    have m1 : ((6 * (1 + t) + 1) * (12 * (1 + t) + 1)).natAbs ≤ 1000 * 2000 := abs_mul_le (by omega) (by omega)
    have m2 : ((6 * (1 + t) + 1) * (12 * (1 + t) + 1) * (18 * (1 + t) + 1)).natAbs ≤ (1000 * 2000) * 3000 := abs_mul_le m1 (by omega)
    refine ⟨⟨mulOk_of (a := 70) (b := 70) (by omega) (by omega) (by decide) (by decide) (by decide), mulOk_of (a := 70) (b := 70) (by omega) (by omega) (by decide) (by decide) (by decide), mulOk_of (a := 70) (b := 70) (by omega) (by omega) (by decide) (by decide) (by decide), mulOk_of (a := 70) (b := 70) (by omega) (by omega) (by decide) (by decide) (by decide), mulOk_of (a := 70) (b := 70) (by omega) (by omega) (by decide) (by decide) (by decide)⟩, by omega⟩
  split
  · (rw [take_iff]; refine ⟨by decide, fun t t0 t1 => ?_⟩; walk_at "dl")
    obtain ⟨⟨a1, a2, a3, a4, a5⟩, a6⟩ := go t t0 t1
    exact ⟨a1, a2, a3, a4, a5, law3 _ _ _ _ _ _ hk a6⟩
  · split
    · (rw [take_iff]; refine ⟨by decide, fun t t0 t1 => ?_⟩; walk_at "dl")
      obtain ⟨⟨a1, a2, a3, a4, a5⟩, a6⟩ := go t t0 t1
      exact ⟨a1, a2, a3, a4, a5, law3 _ _ _ _ _ _ hk a6⟩
    · exact law3 _ _ _ _ _ _ hk hn
set_option exponentiation.threshold 20000 in
theorem body_law : w_law_0 { nx := fun _ => False, rt := fun d => d = .bool true } (put (List.replicate 7 .un) 1 (.val (.dict []))) := by
  unfold w_law_0
  walk_at "dl"
  rw [take_iff]
  refine ⟨by decide, fun kind k0 k1 => ?_⟩
  walk_at "dl"
  unfold w_law_1
  walk_at "dl"
  (rw [take_iff]; refine ⟨by decide, fun t0 t00 t01 => ?_⟩; walk_at "dl")
  (rw [take_iff]; refine ⟨by decide, fun t1 t10 t11 => ?_⟩; walk_at "dl")
  refine ⟨⟨by decide, by decide, by decide⟩, ?_⟩
  rw [e32]
  (rw [take_iff]; refine ⟨by decide, fun t2 t20 t21 => ?_⟩; walk_at "dl")
  refine ⟨⟨by decide, by decide, by decide⟩, ?_⟩
  rw [e6]
  (rw [take_iff]; refine ⟨by decide, fun t3 t30 t31 => ?_⟩; walk_at "dl")
  refine dIx_mem k0 k1 fun d hd => ?_
  have hs : ∃ s : Int, d = .int s ∧ s.natAbs < 18446744073709000000 := by
    have := List.mem_of_getElem? hd
    simp only [List.mem_cons, List.not_mem_nil, or_false] at this
    rcases this with h | h | h | h | h | h | h | h <;> exact ⟨_, h, by omega⟩
  obtain ⟨s, rfl, s1⟩ := hs
  walk_at "dl"
  exact law2 _ _ _ _ _ _ k1 s1

theorem ok_law {P : Program} {w : World} {K : Fg} {mg : Str → Option Value} {base : Heap} {fa : Nat → Addr} {fdd : Nat → FuncData} (T : Txt K mg fa fdd) : FnOk P w K mg base CX0 4 (fa 8) (fdd 8) ["script"] (spLaw K) := by
  have GS : FnOk P w K mg base CX0 1 (fa 3) (fdd 3) ["script"] (spStart K) := ok_law_start T
  have G5 : FnOk P w K mg base CX0 2 (fa 5) (fdd 5) ["c", "many"] (SpD K pre_law_take post_law_take) := ok_law_take T
  have G7 : FnOk P w K mg base CX0 2 (fa 7) (fdd 7) ["n"] (SpD K pre_law_next post_law_next) := ok_law_next T
  have G1 : FnOk P w K mg base CX0 3 (fa 1) (fdd 1) ["n"] (SpD K pre_next_prime post_next_prime) := ok_next_prime T
  have G0 : FnOk P w K mg base CX0 2 (fa 0) (fdd 0) ["n"] (SpD K pre_is_prime post_is_prime) := ok_is_prime T
  have G6 : FnOk P w K mg base CX0 1 (fa 6) (fdd 6) ["n"] (SpD K pre_law_is_prime post_law_is_prime) := ok_law_is_prime T
  refine T.F8.ok sc8 (fun vs H Q E h => ?_) (fun cdv A outer s H vs Q E hr h => ?_)
  · obtain ⟨a, ns, rfl, _⟩ := h
    rfl
  · obtain ⟨a, ns, rfl, hS, hlen, q⟩ := h
    have rest : DSs (cxOf CX0 P w K mg base ["script", "c", "kind", "n", "k", "p", "q"] "law" (defScope s8) (fa 8) cdv A outer s H E).nox ((defBody s8).drop 1) _ w_law_0 := (dss_cons (ds_set (i := 2) sc8.nd (de_call G5 (hr.mono (by decide)) (by rfl) T.g5 T.F5.kp T.b5 pass0 (da_cons (de_name 1) (da_cons de_int da_nil))))
      (dss_cons (ds_set (i := 3) sc8.nd (de_ix ix_D sn2_ix (de_lst (da_cons (de_op op_sub sn2_sub (de_call G5 (hr.mono (by decide)) (by rfl) T.g5 T.F5.kp T.b5 pass0 (da_cons (de_name 1) (da_cons de_int da_nil))) de_int) (da_cons (de_call G5 (hr.mono (by decide)) (by rfl) T.g5 T.F5.kp T.b5 pass0 (da_cons (de_name 1) (da_cons de_int da_nil))) (da_cons (de_call G5 (hr.mono (by decide)) (by rfl) T.g5 T.F5.kp T.b5 pass0 (da_cons (de_name 1) (da_cons (de_op op_pow sn2_pow de_int de_int) da_nil))) (da_cons (de_call G5 (hr.mono (by decide)) (by rfl) T.g5 T.F5.kp T.b5 pass0 (da_cons (de_name 1) (da_cons (de_op op_pow sn2_pow de_int de_int) da_nil))) (da_cons de_int (da_cons de_int (da_cons de_int (da_cons de_int da_nil))))))))) (de_name 2)))
      (dss_cons (ds_if (DW.dt (dw_or (dt_cmp (op_eqP hr.units) sn2_eq (de_name 2) de_int) (dw_or1 (dt_cmp (op_eqP hr.units) sn2_eq (de_name 2) de_int)))) (dss_cons (ds_set (i := 4) sc8.nd (de_op op_addD sn2_add de_int (de_call G5 (hr.mono (by decide)) (by rfl) T.g5 T.F5.kp T.b5 pass0 (da_cons (de_name 1) (da_cons de_int da_nil)))))
      (dss_one (ds_set (i := 3) sc8.nd (de_op op_mulD sn2_mul (de_op op_mulD sn2_mul (de_op op_addD sn2_add (de_op op_mulD sn2_mul de_int (de_name 4)) de_int) (de_op op_addD sn2_add (de_op op_mulD sn2_mul de_int (de_name 4)) de_int)) (de_op op_addD sn2_add (de_op op_mulD sn2_mul de_int (de_name 4)) de_int))))) dss_nil)
      (dss_cons (ds_if (dt_cmp (op_eqP hr.units) sn2_eq (de_name 2) de_int) (dss_cons (ds_set (i := 5) sc8.nd (de_call G7 (hr.mono (by decide)) (by rfl) T.g7 T.F7.kp T.b7 pass0 (da_cons (de_call G5 (hr.mono (by decide)) (by rfl) T.g5 T.F5.kp T.b5 pass0 (da_cons (de_name 1) (da_cons de_int da_nil))) da_nil)))
      (dss_one (ds_set (i := 3) sc8.nd (de_callB (call_min2 rfl) snc_min (by rfl) T.m_min (by decide +kernel) (da_cons (de_op op_mulD sn2_mul (de_name 5) (de_op op_sub sn2_sub (de_op op_mulD sn2_mul de_int (de_name 5)) de_int)) (da_cons (de_op op_sub sn2_sub (de_op op_pow sn2_pow de_int de_int) de_int) da_nil)))))) dss_nil)
      (dss_cons (ds_if (dt_cmp op_gt sn2_gt (de_name 2) de_int) (dss_cons (ds_set (i := 5) sc8.nd (de_call G7 (hr.mono (by decide)) (by rfl) T.g7 T.F7.kp T.b7 pass0 (da_cons (de_call G5 (hr.mono (by decide)) (by rfl) T.g5 T.F5.kp T.b5 pass0 (da_cons (de_name 1) (da_cons de_int da_nil))) da_nil)))
      (dss_cons (ds_set (i := 6) sc8.nd (de_ix ix_D sn2_ix (de_lst (da_cons (de_name 5) (da_cons (de_call G7 (hr.mono (by decide)) (by rfl) T.g7 T.F7.kp T.b7 pass0 (da_cons (de_call G5 (hr.mono (by decide)) (by rfl) T.g5 T.F5.kp T.b5 pass0 (da_cons (de_name 1) (da_cons de_int da_nil))) da_nil)) da_nil))) (de_op op_sub sn2_sub (de_name 2) de_int)))
      (dss_one (ds_set (i := 3) sc8.nd (de_op op_mulD sn2_mul (de_name 5) (de_name 6)))))) dss_nil)
      (dss_cons (ds_if (dt_cmp (op_eqP hr.units) sn2_eq (de_name 2) de_int) (dss_one (ds_set (i := 3) sc8.nd (de_op op_sub sn2_sub (de_name 3) (de_call G5 (hr.mono (by decide)) (by rfl) T.g5 T.F5.kp T.b5 pass0 (da_cons (de_name 1) (da_cons de_int da_nil)))))) dss_nil)
      (dss_cons (ds_if (DW.dt (dw_or (dt_not (dt_tru (de_isi (Tn := "bool") (by rfl) T.m_isinstance (de_call G0 (hr.mono (by decide)) (by rfl) T.g0 T.F0.kp T.b0 pass0 (da_cons (de_name 3) da_nil)) (by rfl) T.m_bool (by decide +kernel)))) (dw_or1 (dt_cmp (op_neP hr.units) sn2_ne (de_call G0 (hr.mono (by decide)) (by rfl) T.g0 T.F0.kp T.b0 pass0 (da_cons (de_name 3) da_nil)) (de_call G6 (hr.mono (by decide)) (by rfl) T.g6 T.F6.kp T.b6 pass0 (da_cons (de_name 3) da_nil)))))) (dss_one (ds_ret de_bl)) dss_nil)
      (dss_cons (ds_set (i := 3) sc8.nd (de_ix ix_D sn2_ix (de_lst (da_cons (de_call G5 (hr.mono (by decide)) (by rfl) T.g5 T.F5.kp T.b5 pass0 (da_cons (de_name 1) (da_cons de_int da_nil))) (da_cons (de_call G5 (hr.mono (by decide)) (by rfl) T.g5 T.F5.kp T.b5 pass0 (da_cons (de_name 1) (da_cons de_int da_nil))) (da_cons (de_call G5 (hr.mono (by decide)) (by rfl) T.g5 T.F5.kp T.b5 pass0 (da_cons (de_name 1) (da_cons (de_op op_addD sn2_add (de_op op_pow sn2_pow de_int de_int) de_int) da_nil))) (da_cons (de_op op_addD sn2_add de_int (de_call G5 (hr.mono (by decide)) (by rfl) T.g5 T.F5.kp T.b5 pass0 (da_cons (de_name 1) (da_cons de_int da_nil)))) da_nil))))) (de_call G5 (hr.mono (by decide)) (by rfl) T.g5 T.F5.kp T.b5 pass0 (da_cons (de_name 1) (da_cons de_int da_nil)))))
      (dss_one (ds_ret (de_cmp (op_eqP hr.units) sn2_eq (de_call G1 hr (by rfl) T.g1 T.F1.kp T.b1 pass0 (da_cons (de_name 3) da_nil)) (de_call G7 (hr.mono (by decide)) (by rfl) T.g7 T.F7.kp T.b7 pass0 (da_cons (de_name 3) da_nil)))))))))))))
    refine ⟨_, pss_cons (ps_set (i := 1) sc8.nd rfl (.inl rfl) (pe_call GS (hr.mono (by decide)) (by rfl) T.g3 T.F3.kp T.b3 .nil pass0 (pa_cons (pv 0) pa_nil))) rest.ps, ?_⟩
    refine ⟨.ref a, rfl, a, ns, rfl, hS, hlen, fun H' b p ms _ npb hb hp hl => ?_⟩
    refine rest.sd _ _ H' _ [] [] { nx := fun _ => False, rt := fun d => d = .bool true } _ (at_law (σ := (L2.start ["script", "c", "kind", "n", "k", "p", "q"] [V.ref a]).set 1 (some (.ref b))) rfl npb hb hp hl) body_law ⟨fun _ _ _ _ h => h.elim, fun v d H2 _ _ g e => ?_, fun _ _ _ _ h => h.elim, fun _ _ _ _ h => h.elim⟩
    subst e
    cases g
    exact q H2

theorem all_mk {l : PySem.W.OpenLaw} {w : World} {K : PySem.W.Frag} {h : Heap} {mg : Str → Option Value} {fa f0 f1 f2 f3 f4 f5 f6 f7 f8 : Addr} (X : K.In h) (G : h.Ns mainGlobals mg) (hfa : mg "law" = some (.ref fa))
    {od0 an0 : Option Addr} {sl0 : Array (Option Value)} {oc0 kV0 dc0 pm0 cd0 ct0 : Value}
    {od1 an1 : Option Addr} {sl1 : Array (Option Value)} {oc1 kV1 dc1 pm1 cd1 ct1 : Value}
    {od2 an2 : Option Addr} {sl2 : Array (Option Value)} {oc2 kV2 dc2 pm2 cd2 ct2 : Value}
    {od3 an3 : Option Addr} {sl3 : Array (Option Value)} {oc3 kV3 dc3 pm3 cd3 ct3 : Value}
    {od4 an4 : Option Addr} {sl4 : Array (Option Value)} {oc4 kV4 dc4 pm4 cd4 ct4 : Value}
    {od5 an5 : Option Addr} {sl5 : Array (Option Value)} {oc5 kV5 dc5 pm5 cd5 ct5 : Value}
    {od6 an6 : Option Addr} {sl6 : Array (Option Value)} {oc6 kV6 dc6 pm6 cd6 ct6 : Value}
    {od7 an7 : Option Addr} {sl7 : Array (Option Value)} {oc7 kV7 dc7 pm7 cd7 ct7 : Value}
    {od8 an8 : Option Addr} {sl8 : Array (Option Value)} {oc8 kV8 dc8 pm8 cd8 ct8 : Value}
    (a0 : PySem.W.nsIn K mainGlobals "is_prime" = some (some (.ref f0))) (l0 : K.lookup f0 = some ⟨oc0, od0, .func (PySem.W.fnOf "is_prime" "is_prime" (defArgs s0) (defBody s0) (defScope s0) .none kV0 dc0 pm0 an0 cd0 ct0), sl0⟩) (c0 : PySem.W.codeIn K cd0 "is_prime" = true) (k0 : PySem.W.keepIn K (.ref f0) = true)
    (a1 : PySem.W.nsIn K mainGlobals "next_prime" = some (some (.ref f1))) (l1 : K.lookup f1 = some ⟨oc1, od1, .func (PySem.W.fnOf "next_prime" "next_prime" (defArgs s1) (defBody s1) (defScope s1) .none kV1 dc1 pm1 an1 cd1 ct1), sl1⟩) (c1 : PySem.W.codeIn K cd1 "next_prime" = true) (k1 : PySem.W.keepIn K (.ref f1) = true)
    (a2 : PySem.W.nsIn K mainGlobals "root" = some (some (.ref f2))) (l2 : K.lookup f2 = some ⟨oc2, od2, .func (PySem.W.fnOf "root" "root" (defArgs s2) (defBody s2) (defScope s2) .none kV2 dc2 pm2 an2 cd2 ct2), sl2⟩) (c2 : PySem.W.codeIn K cd2 "root" = true) (k2 : PySem.W.keepIn K (.ref f2) = true)
    (a3 : PySem.W.nsIn K mainGlobals "_law_start" = some (some (.ref f3))) (l3 : K.lookup f3 = some ⟨oc3, od3, .func (PySem.W.fnOf "_law_start" "_law_start" (defArgs s3) (defBody s3) (defScope s3) .none kV3 dc3 pm3 an3 cd3 ct3), sl3⟩) (c3 : PySem.W.codeIn K cd3 "_law_start" = true) (k3 : PySem.W.keepIn K (.ref f3) = true)
    (a4 : PySem.W.nsIn K mainGlobals "_law_fill" = some (some (.ref f4))) (l4 : K.lookup f4 = some ⟨oc4, od4, .func (PySem.W.fnOf "_law_fill" "_law_fill" (defArgs s4) (defBody s4) (defScope s4) .none kV4 dc4 pm4 an4 cd4 ct4), sl4⟩) (c4 : PySem.W.codeIn K cd4 "_law_fill" = true) (k4 : PySem.W.keepIn K (.ref f4) = true)
    (a5 : PySem.W.nsIn K mainGlobals "_law_take" = some (some (.ref f5))) (l5 : K.lookup f5 = some ⟨oc5, od5, .func (PySem.W.fnOf "_law_take" "_law_take" (defArgs s5) (defBody s5) (defScope s5) .none kV5 dc5 pm5 an5 cd5 ct5), sl5⟩) (c5 : PySem.W.codeIn K cd5 "_law_take" = true) (k5 : PySem.W.keepIn K (.ref f5) = true)
    (a6 : PySem.W.nsIn K mainGlobals "_law_is_prime" = some (some (.ref f6))) (l6 : K.lookup f6 = some ⟨oc6, od6, .func (PySem.W.fnOf "_law_is_prime" "_law_is_prime" (defArgs s6) (defBody s6) (defScope s6) .none kV6 dc6 pm6 an6 cd6 ct6), sl6⟩) (c6 : PySem.W.codeIn K cd6 "_law_is_prime" = true) (k6 : PySem.W.keepIn K (.ref f6) = true)
    (a7 : PySem.W.nsIn K mainGlobals "_law_next" = some (some (.ref f7))) (l7 : K.lookup f7 = some ⟨oc7, od7, .func (PySem.W.fnOf "_law_next" "_law_next" (defArgs s7) (defBody s7) (defScope s7) .none kV7 dc7 pm7 an7 cd7 ct7), sl7⟩) (c7 : PySem.W.codeIn K cd7 "_law_next" = true) (k7 : PySem.W.keepIn K (.ref f7) = true)
    (a8 : PySem.W.nsIn K mainGlobals "law" = some (some (.ref f8))) (l8 : K.lookup f8 = some ⟨oc8, od8, .func (PySem.W.fnOf "law" "law" (defArgs s8) (defBody s8) (defScope s8) .none kV8 dc8 pm8 an8 cd8 ct8), sl8⟩) (c8 : PySem.W.codeIn K cd8 "law" = true) (k8 : PySem.W.keepIn K (.ref f8) = true)
    (z_bool : PySem.W.nsIn K mainGlobals "bool" = some none)
    (z_int : PySem.W.nsIn K mainGlobals "int" = some none)
    (z_isinstance : PySem.W.nsIn K mainGlobals "isinstance" = some none)
    (z_isqrt : PySem.W.nsIn K mainGlobals "isqrt" = some (some (.builtin "math.isqrt")))
    (z_len : PySem.W.nsIn K mainGlobals "len" = some none)
    (z_max : PySem.W.nsIn K mainGlobals "max" = some none)
    (z_min : PySem.W.nsIn K mainGlobals "min" = some none)
    (z_range : PySem.W.nsIn K mainGlobals "range" = some none) :
    ∃ fd : FuncData, (∀ (s : Shared) (v : Value), BindsTo s fd ⟨[v], []⟩ [("script", v)]) ∧ ∀ base : Heap, K.In base → base.Ns mainGlobals mg → FnOk l.prog w K mg base CX0 4 fa fd ["script"] (spLaw K) := by
  have e := hfa.symm.trans (PySem.W.mg_of X G a8)
  cases e
  have T : Txt K mg (fun n => match n with | 0 => f0 | 1 => f1 | 2 => f2 | 3 => f3 | 4 => f4 | 5 => f5 | 6 => f6 | 7 => f7 | _ => fa) (fun n => match n with | 0 => PySem.W.fnOf "is_prime" "is_prime" (defArgs s0) (defBody s0) (defScope s0) .none kV0 dc0 pm0 an0 cd0 ct0 | 1 => PySem.W.fnOf "next_prime" "next_prime" (defArgs s1) (defBody s1) (defScope s1) .none kV1 dc1 pm1 an1 cd1 ct1 | 2 => PySem.W.fnOf "root" "root" (defArgs s2) (defBody s2) (defScope s2) .none kV2 dc2 pm2 an2 cd2 ct2 | 3 => PySem.W.fnOf "_law_start" "_law_start" (defArgs s3) (defBody s3) (defScope s3) .none kV3 dc3 pm3 an3 cd3 ct3 | 4 => PySem.W.fnOf "_law_fill" "_law_fill" (defArgs s4) (defBody s4) (defScope s4) .none kV4 dc4 pm4 an4 cd4 ct4 | 5 => PySem.W.fnOf "_law_take" "_law_take" (defArgs s5) (defBody s5) (defScope s5) .none kV5 dc5 pm5 an5 cd5 ct5 | 6 => PySem.W.fnOf "_law_is_prime" "_law_is_prime" (defArgs s6) (defBody s6) (defScope s6) .none kV6 dc6 pm6 an6 cd6 ct6 | 7 => PySem.W.fnOf "_law_next" "_law_next" (defArgs s7) (defBody s7) (defScope s7) .none kV7 dc7 pm7 an7 cd7 ct7 | 8 => PySem.W.fnOf "law" "law" (defArgs s8) (defBody s8) (defScope s8) .none kV8 dc8 pm8 an8 cd8 ct8 | _ => PySem.W.fnOf "law" "law" (defArgs s8) (defBody s8) (defScope s8) .none kV8 dc8 pm8 an8 cd8 ct8) := {
    F0 := fun_mk (st := s0) l0 c0 k0
    g0 := PySem.W.mg_of X G a0
    b0 := (fun_mk (st := s0) l0 c0 k0).binds (ps := ["n"]) fun _ _ _ _ _ _ us hl => match us, hl with | [_], _ => rfl
    F1 := fun_mk (st := s1) l1 c1 k1
    g1 := PySem.W.mg_of X G a1
    b1 := (fun_mk (st := s1) l1 c1 k1).binds (ps := ["n"]) fun _ _ _ _ _ _ us hl => match us, hl with | [_], _ => rfl
    F2 := fun_mk (st := s2) l2 c2 k2
    g2 := PySem.W.mg_of X G a2
    b2 := (fun_mk (st := s2) l2 c2 k2).binds (ps := ["n"]) fun _ _ _ _ _ _ us hl => match us, hl with | [_], _ => rfl
    F3 := fun_mk (st := s3) l3 c3 k3
    g3 := PySem.W.mg_of X G a3
    b3 := (fun_mk (st := s3) l3 c3 k3).binds (ps := ["script"]) fun _ _ _ _ _ _ us hl => match us, hl with | [_], _ => rfl
    F4 := fun_mk (st := s4) l4 c4 k4
    g4 := PySem.W.mg_of X G a4
    b4 := (fun_mk (st := s4) l4 c4 k4).binds (ps := ["c"]) fun _ _ _ _ _ _ us hl => match us, hl with | [_], _ => rfl
    F5 := fun_mk (st := s5) l5 c5 k5
    g5 := PySem.W.mg_of X G a5
    b5 := (fun_mk (st := s5) l5 c5 k5).binds (ps := ["c", "many"]) fun _ _ _ _ _ _ us hl => match us, hl with | [_, _], _ => rfl
    F6 := fun_mk (st := s6) l6 c6 k6
    g6 := PySem.W.mg_of X G a6
    b6 := (fun_mk (st := s6) l6 c6 k6).binds (ps := ["n"]) fun _ _ _ _ _ _ us hl => match us, hl with | [_], _ => rfl
    F7 := fun_mk (st := s7) l7 c7 k7
    g7 := PySem.W.mg_of X G a7
    b7 := (fun_mk (st := s7) l7 c7 k7).binds (ps := ["n"]) fun _ _ _ _ _ _ us hl => match us, hl with | [_], _ => rfl
    F8 := fun_mk (st := s8) l8 c8 k8
    g8 := PySem.W.mg_of X G a8
    b8 := (fun_mk (st := s8) l8 c8 k8).binds (ps := ["script"]) fun _ _ _ _ _ _ us hl => match us, hl with | [_], _ => rfl
    m_bool := PySem.W.mg_none_of X G z_bool
    m_int := PySem.W.mg_none_of X G z_int
    m_isinstance := PySem.W.mg_none_of X G z_isinstance
    m_isqrt := PySem.W.mg_of X G z_isqrt
    m_len := PySem.W.mg_none_of X G z_len
    m_max := PySem.W.mg_none_of X G z_max
    m_min := PySem.W.mg_none_of X G z_min
    m_range := PySem.W.mg_none_of X G z_range }
  exact ⟨PySem.W.fnOf "law" "law" (defArgs s8) (defBody s8) (defScope s8) .none kV8 dc8 pm8 an8 cd8 ct8, fun s v => .of_eq rfl, fun base _ _ => ok_law T⟩

end My
open PySem PySem.W PyProof.Rows
set_option maxHeartbeats 0 in
theorem PySem.Challenge.cw_echelon_k04_primes_holds : PySem.Challenge.rw_echelon_k04_primes.Holds := by
  w_on; o_law; k_head; (case hw => w_witness2)
  k_fill
  refine L2.walk_of (l := PySem.Challenge.rw_echelon_k04_primes) (n := 63) (k := 4) (x := "script") (CX := fun _ => L2.CX0) (sp := fun w => My.spLaw _) rfl (by decide) rfl ⟨rfl, by decide, by decide⟩ (fun w h Y => PySem.W.kIn_of Y) ?F (fun _ _ a ns hl _ hS => ⟨a, ns, rfl, hS, hl, fun _ => rfl⟩) (fun _ _ _ _ _ h => h)
  case F =>
    intro w mg fa h KX G hmg
    refine' My.all_mk KX G hmg ?a0 ?l0 ?c0 ?k0 ?a1 ?l1 ?c1 ?k1 ?a2 ?l2 ?c2 ?k2 ?a3 ?l3 ?c3 ?k3 ?a4 ?l4 ?c4 ?k4 ?a5 ?l5 ?c5 ?k5 ?a6 ?l6 ?c6 ?k6 ?a7 ?l7 ?c7 ?k7 ?a8 ?l8 ?c8 ?k8 ?z_bool ?z_int ?z_isinstance ?z_isqrt ?z_len ?z_max ?z_min ?z_range
    (case a0 => k_is); (case l0 => k_is); (case c0 => k_is); (case k0 => k_is); (case a1 => k_is); (case l1 => k_is); (case c1 => k_is); (case k1 => k_is); (case a2 => k_is); (case l2 => k_is); (case c2 => k_is); (case k2 => k_is); (case a3 => k_is); (case l3 => k_is); (case c3 => k_is); (case k3 => k_is); (case a4 => k_is); (case l4 => k_is); (case c4 => k_is); (case k4 => k_is); (case a5 => k_is); (case l5 => k_is); (case c5 => k_is); (case k5 => k_is); (case a6 => k_is); (case l6 => k_is); (case c6 => k_is); (case k6 => k_is); (case a7 => k_is); (case l7 => k_is); (case c7 => k_is); (case k7 => k_is); (case a8 => k_is); (case l8 => k_is); (case c8 => k_is); (case k8 => k_is); (case z_bool => k_is); (case z_int => k_is); (case z_isinstance => k_is); (case z_isqrt => k_is); (case z_len => k_is); (case z_max => k_is); (case z_min => k_is); (case z_range => k_is)
