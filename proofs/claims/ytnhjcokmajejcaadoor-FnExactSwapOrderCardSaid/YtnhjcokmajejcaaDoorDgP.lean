/- Diagrams: places, forks that are found and added, and what operations make of places (plain). -/
import Derived.Test.YtnhjcokmajejcaaDoorDg
namespace Go.Proofs.YtnhjcokmajejcaaDoor
open Go.RowKit
set_option maxRecDepth 100000

/-- A place of a diagram. -/
def isP (d : Dg) (n : Int) : Bool := decide (0 ≤ n ∧ n < 2 + d.forks.length)
theorem isP_iff {d : Dg} {n : Int} : isP d n = true ↔ 0 ≤ n ∧ n < 2 + d.forks.length := by unfold isP; simp
theorem isP_no {d : Dg} {n : Int} (h : isP d n = false) : n < 0 ∨ 2 + d.forks.length ≤ n := by
  unfold isP at h
  have := of_decide_eq_false h
  omega
/-- The fork at a place. -/
def fkA (d : Dg) (n : Int) : Fk := el d.forks (n - 2).toNat
/-- The variable at a place. -/
def varP (d : Dg) (n : Int) : Int := if n < 2 then d.vars else (fkA d n).v
/-- A fork that may be one of a diagram. -/
structure fitK (d : Dg) (f : Fk) (most : Int) : Prop where
  v0 : 0 ≤ f.v
  v1 : f.v < d.vars
  l0 : 0 ≤ f.lo
  l1 : f.lo ≤ most
  h0 : 0 ≤ f.hi
  h1 : f.hi ≤ most
  lv : f.v < varP d f.lo
  hv : f.v < varP d f.hi
/-- A diagram that is one. -/
structure Dg.Ok (d : Dg) : Prop where
  lo : 0 ≤ d.vars
  hi : d.vars ≤ 12
  few : d.forks.length ≤ 2000
  fork : ∀ k : Nat, k < d.forks.length → fitK d (el d.forks k) (k + 1)
  apart : ∀ k : Nat, k < d.forks.length → (el d.forks k).lo ≠ (el d.forks k).hi
  one : ∀ j k : Nat, j < k → k < d.forks.length → el d.forks j ≠ el d.forks k
noncomputable def dgB (d : Dg) : Bool := @decide d.Ok (Classical.propDecidable _)
theorem dgB_yes {d : Dg} (h : d.Ok) : dgB d = true := by unfold dgB; exact @decide_eq_true _ (Classical.propDecidable _) h
theorem dgB_no {d : Dg} (h : ¬ d.Ok) : dgB d = false := by unfold dgB; exact @decide_eq_false _ (Classical.propDecidable _) h
theorem dgB_iff {d : Dg} : dgB d = true ↔ d.Ok := by
  by_cases h : d.Ok
  · simp [dgB_yes h, h]
  · simp [dgB_no h, h]
theorem dgB_false {d : Dg} (h : dgB d = false) : ¬ d.Ok := fun ok => by rw [dgB_yes ok] at h; cases h

theorem fk_ext {f g : Fk} (h : f.v = g.v ∧ f.lo = g.lo ∧ f.hi = g.hi) : f = g := by
  obtain ⟨a, b, c⟩ := f; obtain ⟨a', b', c'⟩ := g
  obtain ⟨rfl, rfl, rfl⟩ := h
  rfl
theorem fk_ne {f g : Fk} (h : f ≠ g) : ¬ (f.v = g.v ∧ f.lo = g.lo ∧ f.hi = g.hi) := fun e => h (fk_ext e)
/-- The first of the first k forks that is f. -/
def fkTo (fs : List Fk) (f : Fk) : Nat → Option Nat
  | 0 => none
  | k + 1 => match fkTo fs f k with
    | some i => some i
    | none => if (el fs k).v = f.v ∧ (el fs k).lo = f.lo ∧ (el fs k).hi = f.hi then some k else none
def fkB (fs : List Fk) (f : Fk) : Option Nat := fkTo fs f fs.length
theorem fkTo_none {fs : List Fk} {f : Fk} : ∀ {k : Nat}, (∀ j, j < k → el fs j ≠ f) → fkTo fs f k = none
  | 0, _ => rfl
  | k + 1, h => by
    unfold fkTo
    rw [fkTo_none fun j hj => h j (by omega)]
    dsimp only
    rw [if_neg (fk_ne (h k (by omega)))]
theorem fkTo_hit {fs : List Fk} {f : Fk} {k : Nat} (h : ∀ j, j < k → el fs j ≠ f) (e : el fs k = f) : ∀ {m : Nat}, k < m → fkTo fs f m = some k
  | 0, hm => by omega
  | m + 1, hm => by
    unfold fkTo
    by_cases q : k < m
    · rw [fkTo_hit h e q]
    · obtain rfl : k = m := by omega
      rw [fkTo_none h]
      dsimp only
      rw [if_pos (by rw [e]; exact ⟨rfl, rfl, rfl⟩)]
theorem fkTo_some {fs : List Fk} {f : Fk} : ∀ {m i : Nat}, fkTo fs f m = some i → i < m ∧ el fs i = f ∧ ∀ j, j < i → el fs j ≠ f
  | 0, i, h => by cases h
  | m + 1, i, h => by
    unfold fkTo at h
    cases q : fkTo fs f m with
    | some j =>
      rw [q] at h
      injection h with h
      subst h
      have := fkTo_some q
      exact ⟨by omega, this.2⟩
    | none =>
      rw [q] at h
      dsimp only at h
      split at h
      · rename_i e
        injection h with h
        subst h
        refine ⟨by omega, fk_ext e, fun j hj ej => ?_⟩
        have : ∀ m, fkTo fs f m = none → j < m → False := fun m => by
          induction m with
          | zero => intro _ h; omega
          | succ m ih =>
            intro hq hj2
            unfold fkTo at hq
            cases q2 : fkTo fs f m with
            | some x => rw [q2] at hq; cases hq
            | none =>
              rw [q2] at hq
              dsimp only at hq
              by_cases hjm : j < m
              · exact ih q2 hjm
              · obtain rfl : j = m := by omega
                rw [if_pos (by rw [ej]; exact ⟨rfl, rfl, rfl⟩)] at hq
                cases hq
        exact this m q hj
      · cases h
theorem fkTo_not {fs : List Fk} {f : Fk} : ∀ {m : Nat}, fkTo fs f m = none → ∀ j, j < m → el fs j ≠ f
  | 0, _, j, hj => by omega
  | m + 1, h, j, hj => by
    unfold fkTo at h
    cases q : fkTo fs f m with
    | some x => rw [q] at h; cases h
    | none =>
      rw [q] at h
      dsimp only at h
      by_cases hjm : j < m
      · exact fkTo_not q j hjm
      · obtain rfl : j = m := by omega
        intro e
        rw [if_pos (by rw [e]; exact ⟨rfl, rfl, rfl⟩)] at h
        cases h
theorem fkB_app {fs l : List Fk} {f : Fk} {i : Nat} (h : fkB fs f = some i) : fkB (fs ++ l) f = some i := by
  obtain ⟨hi, e, hn⟩ := fkTo_some h
  exact fkTo_hit (fun j hj => by rw [el_left (by omega)]; exact hn j hj) (by rw [el_left hi]; exact e) (by rw [List.length_append]; omega)
theorem fkB_last {fs l : List Fk} {f : Fk} (h : fkB fs f = none) : fkB (fs ++ f :: l) f = some fs.length :=
  fkTo_hit (fun j hj => by rw [el_left hj]; exact fkTo_not h j hj) (by unfold el; rw [List.getElem?_append_right (Nat.le_refl _)]; simp) (by rw [List.length_append]; simp)
theorem fkB_snoc {fs : List Fk} {x f : Fk} : fkB (fs ++ [x]) f = match fkB fs f with | some i => some i | none => if x.v = f.v ∧ x.lo = f.lo ∧ x.hi = f.hi then some fs.length else none := by
  cases q : fkB fs f with
  | some i => exact fkB_app q
  | none =>
    dsimp only
    split
    · rename_i e
      rw [fk_ext e]
      exact fkB_last q
    · rename_i e
      refine fkTo_none fun j hj => ?_
      rw [List.length_append] at hj
      simp only [List.length_cons, List.length_nil] at hj
      by_cases hj2 : j < fs.length
      · rw [el_left hj2]; exact fkTo_not q j hj2
      · obtain rfl : j = fs.length := by omega
        rw [el_last]
        rintro rfl
        exact e ⟨rfl, rfl, rfl⟩

/-- One diagram begins another. -/
structure Ext (d d' : Dg) : Prop where
  vars : d'.vars = d.vars
  more : ∃ l, d'.forks = d.forks ++ l
theorem Ext.refl (d : Dg) : Ext d d := ⟨rfl, [], by simp⟩
theorem Ext.trans {a b c : Dg} (h : Ext a b) (g : Ext b c) : Ext a c := by
  obtain ⟨l, hl⟩ := h.more
  obtain ⟨m, hm⟩ := g.more
  exact ⟨g.vars.trans h.vars, l ++ m, by rw [hm, hl, List.append_assoc]⟩
theorem Ext.len {d d' : Dg} (h : Ext d d') : d.forks.length ≤ d'.forks.length := by
  obtain ⟨l, hl⟩ := h.more
  rw [hl, List.length_append]; omega
theorem Ext.el {d d' : Dg} (h : Ext d d') {k : Nat} (hk : k < d.forks.length) : el d'.forks k = el d.forks k := by
  obtain ⟨l, hl⟩ := h.more
  rw [hl, el_left hk]
theorem Ext.isP {d d' : Dg} (h : Ext d d') {n : Int} (hn : isP d n = true) : isP d' n = true := by
  have := h.len
  have := isP_iff.1 hn
  exact isP_iff.2 (by omega)
theorem Ext.fkA {d d' : Dg} (h : Ext d d') {n : Int} (h2 : 2 ≤ n) (hn : n < 2 + d.forks.length) : fkA d' n = fkA d n := h.el (by omega)
theorem Ext.varP {d d' : Dg} (h : Ext d d') {n : Int} (hn : n < 2 + d.forks.length) : varP d' n = varP d n := by
  unfold Go.Proofs.YtnhjcokmajejcaaDoor.varP
  by_cases h2 : n < 2
  · rw [if_pos h2, if_pos h2, h.vars]
  · rw [if_neg h2, if_neg h2, h.fkA (by omega) hn]
theorem Ext.fkB {d d' : Dg} (h : Ext d d') {f : Fk} {i : Nat} (e : fkB d.forks f = some i) : fkB d'.forks f = some i := by
  obtain ⟨l, hl⟩ := h.more
  rw [hl]; exact fkB_app e
theorem ext_snoc (d : Dg) (f : Fk) : Ext d ⟨d.vars, d.forks ++ [f]⟩ := ⟨rfl, [f], rfl⟩

/-- A fork that is added. -/
def adF (d : Dg) (f : Fk) : Dg × Int :=
  if f.lo < 0 ∨ f.hi < 0 then (d, -1)
  else if f.lo = f.hi then (d, f.lo)
  else match fkB d.forks f with
    | some i => (d, (i : Int) + 2)
    | none => if 2000 ≤ d.forks.length then (d, -1) else (⟨d.vars, d.forks ++ [f]⟩, (d.forks.length : Int) + 2)

theorem Dg.Ok.fit {d : Dg} (h : d.Ok) {n : Int} (h2 : 2 ≤ n) (hn : n < 2 + d.forks.length) : fitK d (fkA d n) (n - 1) := by
  have := h.fork (n - 2).toNat (by omega)
  rwa [show ((((n - 2).toNat : Nat) : Int) + 1) = n - 1 by omega] at this
theorem Dg.Ok.var {d : Dg} (h : d.Ok) {n : Int} (hn : isP d n = true) : 0 ≤ varP d n ∧ varP d n ≤ d.vars := by
  have hp := isP_iff.1 hn
  have := h.lo
  unfold varP
  by_cases h2 : n < 2
  · rw [if_pos h2]; omega
  · rw [if_neg h2]
    have := h.fit (n := n) (by omega) hp.2
    have := this.v0
    have := (h.fit (n := n) (by omega) hp.2).v1
    omega
theorem varP_lt {d : Dg} (h : d.Ok) {n : Int} (hn : isP d n = true) (h2 : 2 ≤ n) : varP d n < d.vars := by
  unfold varP
  rw [if_neg (by omega)]
  exact (h.fit h2 (isP_iff.1 hn).2).v1
theorem fitK.low {d : Dg} {f : Fk} {m : Int} (h : fitK d f m) (hm : m ≤ d.forks.length + 1) : isP d f.lo = true := isP_iff.2 ⟨h.l0, by have := h.l1; omega⟩
theorem fitK.high {d : Dg} {f : Fk} {m : Int} (h : fitK d f m) (hm : m ≤ d.forks.length + 1) : isP d f.hi = true := isP_iff.2 ⟨h.h0, by have := h.h1; omega⟩
theorem fitK.ext {d d' : Dg} {f : Fk} {m : Int} (h : fitK d f m) (e : Ext d d') (hm : m ≤ d.forks.length + 1) : fitK d' f m := by
  have l1 := h.l1
  have h1 := h.h1
  exact ⟨h.v0, by rw [e.vars]; exact h.v1, h.l0, h.l1, h.h0, h.h1, by rw [e.varP (by omega)]; exact h.lv, by rw [e.varP (by omega)]; exact h.hv⟩
theorem fitK.back {d d' : Dg} {f : Fk} {m : Int} (h : fitK d' f m) (e : Ext d d') (hm : m ≤ d.forks.length + 1) : fitK d f m := by
  have l1 := h.l1
  have h1 := h.h1
  exact ⟨h.v0, by rw [← e.vars]; exact h.v1, h.l0, h.l1, h.h0, h.h1, by rw [← e.varP (by omega)]; exact h.lv, by rw [← e.varP (by omega)]; exact h.hv⟩
theorem ok_snoc {d : Dg} {f : Fk} (h : d.Ok) (hf : fitK d f (d.forks.length + 1)) (hne : f.lo ≠ f.hi) (hn : fkB d.forks f = none) (hl : d.forks.length < 2000) : Dg.Ok ⟨d.vars, d.forks ++ [f]⟩ := by
  have E := ext_snoc d f
  have len : (d.forks ++ [f]).length = d.forks.length + 1 := by rw [List.length_append]; rfl
  refine ⟨h.lo, h.hi, by dsimp only; omega, fun k hk => ?_, fun k hk => ?_, fun j k hjk hk => ?_⟩
  · dsimp only at hk ⊢
    by_cases q : k < d.forks.length
    · rw [el_left q]; exact (h.fork k q).ext E (by omega)
    · obtain rfl : k = d.forks.length := by omega
      rw [el_last]; exact hf.ext E (Int.le_refl _)
  · dsimp only at hk ⊢
    by_cases q : k < d.forks.length
    · rw [el_left q]; exact h.apart k q
    · obtain rfl : k = d.forks.length := by omega
      rw [el_last]; exact hne
  · dsimp only at hk ⊢
    by_cases q : k < d.forks.length
    · rw [el_left q, el_left (by omega)]; exact h.one j k hjk q
    · obtain rfl : k = d.forks.length := by omega
      rw [el_last, el_left hjk]; exact fkTo_not hn j hjk
theorem adF_ok {d : Dg} {f : Fk} (h : d.Ok) (hf : fitK d f (d.forks.length + 1)) (hx : 0 ≤ (adF d f).2) :
    Ext d (adF d f).1 ∧ (adF d f).1.Ok ∧ isP (adF d f).1 (adF d f).2 = true ∧ f.v ≤ varP (adF d f).1 (adF d f).2 := by
  have l0 := hf.l0
  have h0 := hf.h0
  unfold adF at hx ⊢
  rw [if_neg (by omega)] at hx ⊢
  by_cases e : f.lo = f.hi
  · rw [if_pos e]
    exact ⟨Ext.refl d, h, hf.low (Int.le_refl _), Int.le_of_lt hf.lv⟩
  · rw [if_neg e] at hx ⊢
    cases q : fkB d.forks f with
    | some i =>
      obtain ⟨hi, ei, _⟩ := fkTo_some q
      refine ⟨Ext.refl d, h, isP_iff.2 (by dsimp only; omega), ?_⟩
      dsimp only
      unfold varP fkA
      rw [if_neg (by omega), show ((i : Int) + 2 - 2).toNat = i by omega, ei]
      exact Int.le_refl _
    | none =>
      rw [q] at hx
      dsimp only at hx ⊢
      by_cases hl : 2000 ≤ d.forks.length
      · rw [if_pos hl] at hx
        exact absurd hx (show ¬ (0 : Int) ≤ -1 by decide)
      · rw [if_neg hl]
        refine ⟨ext_snoc d f, ok_snoc h hf e q (by omega), isP_iff.2 ?_, ?_⟩
        · dsimp only; rw [List.length_append]; simp only [List.length_cons, List.length_nil]; omega
        · dsimp only
          unfold varP fkA
          rw [if_neg (by omega), show ((d.forks.length : Int) + 2 - 2).toNat = d.forks.length by omega]
          dsimp only
          rw [el_last]
          exact Int.le_refl _
theorem adF_ext {d d' : Dg} {f : Fk} (hx : 0 ≤ (adF d f).2) (E : Ext (adF d f).1 d') : adF d' f = (d', (adF d f).2) := by
  unfold adF at hx E ⊢
  by_cases c : f.lo < 0 ∨ f.hi < 0
  · rw [if_pos c] at hx; exact absurd hx (show ¬ (0 : Int) ≤ -1 by decide)
  · rw [if_neg c] at hx E ⊢
    rw [if_neg c]
    by_cases e : f.lo = f.hi
    · rw [if_pos e, if_pos e]
    · rw [if_neg e] at hx E ⊢
      rw [if_neg e]
      cases q : fkB d.forks f with
      | some i =>
        rw [q] at E
        rw [E.fkB q]
      | none =>
        rw [q] at hx E
        dsimp only at hx E ⊢
        by_cases hl : 2000 ≤ d.forks.length
        · rw [if_pos hl] at hx; exact absurd hx (show ¬ (0 : Int) ≤ -1 by decide)
        · rw [if_neg hl] at E ⊢
          rw [E.fkB (f := f) (i := d.forks.length) (fkB_last q)]
theorem adF_low (d : Dg) (f : Fk) : -1 ≤ (adF d f).2 := by
  unfold adF
  by_cases c : f.lo < 0 ∨ f.hi < 0
  · rw [if_pos c]; show (-1 : Int) ≤ -1; decide
  · rw [if_neg c]
    by_cases e : f.lo = f.hi
    · rw [if_pos e]; show -1 ≤ f.lo; omega
    · rw [if_neg e]
      cases fkB d.forks f with
      | some i => dsimp only; omega
      | none =>
        dsimp only
        by_cases hl : 2000 ≤ d.forks.length
        · rw [if_pos hl]; show (-1 : Int) ≤ -1; decide
        · rw [if_neg hl]; dsimp only; omega

/-- Where one goes from a place for the value of a variable. -/
def atP (d : Dg) (n v value : Int) : Int := if varP d n ≠ v then n else if value = 1 then (fkA d n).hi else (fkA d n).lo
/-- The least variable of two places. -/
def minV (d : Dg) (a b : Int) : Int := if varP d b < varP d a then varP d b else varP d a
/-- What an operation does: it has a value, or it goes on twice. -/
inductive Stp
  | val (x : Int)
  | two (v a0 b0 a1 b1 : Int)
def stp (d : Dg) (op a b : Int) : Stp :=
  if op < 3 then
    if op = 1 ∧ (a = 0 ∨ b = 0) then .val 0
    else if op = 2 ∧ (a = 1 ∨ b = 1) then .val 1
    else if 2 ≤ a ∨ 2 ≤ b then .two (minV d a b) (atP d a (minV d a b) 0) (atP d b (minV d a b) 0) (atP d a (minV d a b) 1) (atP d b (minV d a b) 1)
    else if op = 0 then .val (1 - a) else .val a
  else if b ≤ varP d a then .val (atP d a b (op - 3))
  else .two (varP d a) (fkA d a).lo b (fkA d a).hi b
/-- Arguments that an operation may have. -/
structure fitA (d : Dg) (op a b : Int) : Prop where
  o0 : 0 ≤ op
  o1 : op ≤ 4
  pa : isP d a = true
  pb : op < 3 → isP d b = true
  n : op = 0 → b = 1
  v0 : 3 ≤ op → 0 ≤ b
  v1 : 3 ≤ op → b < d.vars
def rk (d : Dg) (op a b : Int) : Int := if op < 3 then minV d a b else varP d a
theorem fitA.ext {d d' : Dg} {op a b : Int} (h : fitA d op a b) (e : Ext d d') : fitA d' op a b :=
  ⟨h.o0, h.o1, e.isP h.pa, fun o => e.isP (h.pb o), h.n, h.v0, fun o => by rw [e.vars]; exact h.v1 o⟩
theorem minV_le (d : Dg) (a b : Int) : minV d a b ≤ varP d a ∧ minV d a b ≤ varP d b ∧ (minV d a b = varP d a ∨ minV d a b = varP d b) := by
  unfold minV; split <;> omega
theorem minV_ext {d d' : Dg} {a b : Int} (e : Ext d d') (ha : isP d a = true) (hb : isP d b = true) : minV d' a b = minV d a b := by
  unfold minV
  rw [e.varP (isP_iff.1 ha).2, e.varP (isP_iff.1 hb).2]
theorem atP_ext {d d' : Dg} {n v x : Int} (e : Ext d d') (h : isP d n = true) (hv : v < d.vars) : atP d' n v x = atP d n v x := by
  have hn := isP_iff.1 h
  unfold atP
  rw [e.varP hn.2]
  by_cases q : varP d n ≠ v
  · rw [if_pos q, if_pos q]
  · have : 2 ≤ n := by
      refine Int.not_lt.1 fun h2 => ?_
      unfold varP at q
      rw [if_pos h2] at q
      exact q (by omega)
    rw [if_neg q, if_neg q, e.fkA this hn.2]
theorem atP_ok {d : Dg} (h : d.Ok) {n v x : Int} (hn : isP d n = true) (hv : v ≤ varP d n) (hvv : v < d.vars) : isP d (atP d n v x) = true ∧ v < varP d (atP d n v x) := by
  have hp := isP_iff.1 hn
  unfold atP
  by_cases q : varP d n ≠ v
  · rw [if_pos q]; exact ⟨hn, by omega⟩
  · rw [if_neg q]
    have h2 : 2 ≤ n := by
      refine Int.not_lt.1 fun h2 => ?_
      unfold varP at q
      rw [if_pos h2] at q
      exact q (by omega)
    have F := h.fit h2 hp.2
    have e : (fkA d n).v = v := by
      unfold varP at q
      rw [if_neg (by omega)] at q
      exact Classical.not_not.1 q
    have lv := F.lv
    have hv := F.hv
    split
    · exact ⟨F.high (by omega), by omega⟩
    · exact ⟨F.low (by omega), by omega⟩
theorem stp_ext {d d' : Dg} {op a b : Int} (h : d.Ok) (g : fitA d op a b) (e : Ext d d') : stp d' op a b = stp d op a b := by
  have ha := isP_iff.1 g.pa
  unfold stp
  by_cases o : op < 3
  · rw [if_pos o, if_pos o]
    by_cases c1 : op = 1 ∧ (a = 0 ∨ b = 0)
    · rw [if_pos c1, if_pos c1]
    · rw [if_neg c1, if_neg c1]
      by_cases c2 : op = 2 ∧ (a = 1 ∨ b = 1)
      · rw [if_pos c2, if_pos c2]
      · rw [if_neg c2, if_neg c2]
        by_cases c3 : 2 ≤ a ∨ 2 ≤ b
        · rw [if_pos c3, if_pos c3]
          have m := minV_ext e g.pa (g.pb o)
          have lt : minV d a b < d.vars := by
            have := minV_le d a b
            rcases c3 with c3 | c3
            · have := varP_lt h g.pa c3; omega
            · have := varP_lt h (g.pb o) c3; omega
          rw [m, atP_ext e g.pa lt, atP_ext e (g.pb o) lt, atP_ext e g.pa lt, atP_ext e (g.pb o) lt]
        · rw [if_neg c3, if_neg c3]
  · rw [if_neg o, if_neg o, e.varP ha.2]
    by_cases c : b ≤ varP d a
    · rw [if_pos c, if_pos c, atP_ext e g.pa (g.v1 (by omega))]
    · rw [if_neg c, if_neg c]
      have : 2 ≤ a := by
        refine Int.not_lt.1 fun h2 => ?_
        unfold varP at c
        rw [if_pos h2] at c
        have := g.v1 (by omega)
        omega
      rw [e.fkA this ha.2]
theorem rk_ext {d d' : Dg} {op a b : Int} (g : fitA d op a b) (e : Ext d d') : rk d' op a b = rk d op a b := by
  unfold rk
  by_cases o : op < 3
  · rw [if_pos o, if_pos o, minV_ext e g.pa (g.pb o)]
  · rw [if_neg o, if_neg o, e.varP (isP_iff.1 g.pa).2]
theorem rk_le {d : Dg} {op a b : Int} (h : d.Ok) (g : fitA d op a b) : 0 ≤ rk d op a b ∧ rk d op a b ≤ d.vars := by
  unfold rk
  have := h.var g.pa
  by_cases o : op < 3
  · rw [if_pos o]
    have := h.var (g.pb o)
    have := minV_le d a b
    omega
  · rw [if_neg o]; exact this
theorem stp_val {d : Dg} {op a b x : Int} (h : d.Ok) (g : fitA d op a b) (e : stp d op a b = .val x) : isP d x = true ∧ rk d op a b ≤ varP d x := by
  have ha := isP_iff.1 g.pa
  have two : ∀ n : Int, 0 ≤ n → n < 2 → isP d n = true ∧ rk d op a b ≤ varP d n := fun n h0 h1 => by
    refine ⟨isP_iff.2 (by omega), ?_⟩
    have := (rk_le h g).2
    unfold varP
    rw [if_pos h1]; exact this
  unfold stp at e
  by_cases o : op < 3
  · rw [if_pos o] at e
    have hb := isP_iff.1 (g.pb o)
    split at e
    · injection e with e; subst e; exact two 0 (by omega) (by omega)
    · split at e
      · injection e with e; subst e; exact two 1 (by omega) (by omega)
      · split at e
        · cases e
        · split at e
          · injection e with e; subst e; exact two _ (by omega) (by omega)
          · injection e with e; subst e; exact two _ (by omega) (by omega)
  · rw [if_neg o] at e
    by_cases c : b ≤ varP d a
    · rw [if_pos c] at e
      injection e with e
      subst e
      by_cases q : varP d a = b
      · have := atP_ok h (x := op - 3) g.pa c (g.v1 (by omega))
        refine ⟨this.1, ?_⟩
        unfold rk
        rw [if_neg o]; omega
      · unfold atP
        rw [if_pos q]
        refine ⟨g.pa, ?_⟩
        unfold rk
        rw [if_neg o]; exact Int.le_refl _
    · rw [if_neg c] at e; cases e
theorem stp_two {d : Dg} {op a b v a0 b0 a1 b1 : Int} (h : d.Ok) (g : fitA d op a b) (e : stp d op a b = .two v a0 b0 a1 b1) :
    v = rk d op a b ∧ 0 ≤ v ∧ v < d.vars ∧ fitA d op a0 b0 ∧ fitA d op a1 b1 ∧ v < rk d op a0 b0 ∧ v < rk d op a1 b1 := by
  have ha := isP_iff.1 g.pa
  have r0 := (rk_le h g).1
  unfold stp at e
  by_cases o : op < 3
  · have re : ∀ x y, rk d op x y = minV d x y := fun x y => if_pos o
    rw [if_pos o] at e
    split at e
    · cases e
    · split at e
      · cases e
      · split at e
        · rename_i c3
          injection e with e1 e2 e3 e4 e5
          have lt : minV d a b < d.vars := by
            have := minV_le d a b
            rcases c3 with c3 | c3
            · have := varP_lt h g.pa c3; omega
            · have := varP_lt h (g.pb o) c3; omega
          have hb := g.pb o
          have key : ∀ x, fitA d op (atP d a (minV d a b) x) (atP d b (minV d a b) x) ∧ minV d a b < rk d op (atP d a (minV d a b) x) (atP d b (minV d a b) x) := fun x => by
            have A := atP_ok h (x := x) g.pa (minV_le d a b).1 lt
            have B := atP_ok h (x := x) hb (minV_le d a b).2.1 lt
            refine ⟨⟨g.o0, g.o1, A.1, fun _ => B.1, fun n0 => ?_, fun h3 => by omega, fun h3 => by omega⟩, ?_⟩
            · have := g.n n0
              subst this
              unfold atP
              rw [if_pos]
              unfold varP
              rw [if_pos (by decide)]
              omega
            · rw [re]
              rcases (minV_le d (atP d a (minV d a b) x) (atP d b (minV d a b) x)).2.2 with q | q <;> omega
          subst e1; subst e2; subst e3; subst e4; subst e5
          have k0 := key 0
          have k1 := key 1
          rw [re] at r0
          exact ⟨(re a b).symm, r0, lt, k0.1, k1.1, k0.2, k1.2⟩
        · split at e <;> cases e
  · have re : ∀ x y, rk d op x y = varP d x := fun x y => if_neg o
    rw [if_neg o] at e
    by_cases c : b ≤ varP d a
    · rw [if_pos c] at e; cases e
    · rw [if_neg c] at e
      injection e with e1 e2 e3 e4 e5
      subst e1; subst e2; subst e3; subst e4; subst e5
      have h2 : 2 ≤ a := by
        refine Int.not_lt.1 fun h2 => ?_
        unfold varP at c
        rw [if_pos h2] at c
        have := g.v1 (by omega)
        omega
      have F := h.fit h2 ha.2
      have ev : varP d a = (fkA d a).v := if_neg (by omega)
      rw [re] at r0
      refine ⟨(re a b).symm, r0, varP_lt h g.pa h2, ⟨g.o0, g.o1, F.low (by omega), fun q => absurd q o, g.n, g.v0, g.v1⟩, ⟨g.o0, g.o1, F.high (by omega), fun q => absurd q o, g.n, g.v0, g.v1⟩, ?_, ?_⟩
      · rw [re, ev]; exact F.lv
      · rw [re, ev]; exact F.hv

/-- What an operation makes: a diagram and a place; -1 if there was no room. -/
def runF (op : Int) : Nat → Dg → Int → Int → Dg × Int
  | 0, d, _, _ => (d, -1)
  | k + 1, d, a, b => match stp d op a b with
    | .val x => (d, x)
    | .two v a0 b0 a1 b1 =>
      if (runF op k d a0 b0).2 < 0 then (d, -1)
      else adF (runF op k (runF op k d a0 b0).1 a1 b1).1 ⟨v, (runF op k d a0 b0).2, (runF op k (runF op k d a0 b0).1 a1 b1).2⟩
theorem runF_val {op : Int} {k : Nat} {d : Dg} {a b x : Int} (e : stp d op a b = .val x) : runF op (k + 1) d a b = (d, x) := by
  show (match stp d op a b with | .val x => _ | .two v a0 b0 a1 b1 => _) = _
  rw [e]
theorem runF_two {op : Int} {k : Nat} {d : Dg} {a b v a0 b0 a1 b1 : Int} (e : stp d op a b = .two v a0 b0 a1 b1) : runF op (k + 1) d a b =
    if (runF op k d a0 b0).2 < 0 then (d, -1)
      else adF (runF op k (runF op k d a0 b0).1 a1 b1).1 ⟨v, (runF op k d a0 b0).2, (runF op k (runF op k d a0 b0).1 a1 b1).2⟩ := by
  show (match stp d op a b with | .val x => _ | .two v a0 b0 a1 b1 => _) = _
  rw [e]
theorem adF_pos {d : Dg} {f : Fk} (hx : 0 ≤ (adF d f).2) : 0 ≤ f.lo ∧ 0 ≤ f.hi := by
  unfold adF at hx
  by_cases c : f.lo < 0 ∨ f.hi < 0
  · rw [if_pos c] at hx; exact absurd hx (show ¬ (0 : Int) ≤ -1 by decide)
  · omega
theorem run_ok {op : Int} : ∀ {k : Nat} {d : Dg} {a b : Int}, d.Ok → fitA d op a b → d.vars - rk d op a b < k → 0 ≤ (runF op k d a b).2 →
    Ext d (runF op k d a b).1 ∧ (runF op k d a b).1.Ok ∧ isP (runF op k d a b).1 (runF op k d a b).2 = true ∧ rk d op a b ≤ varP (runF op k d a b).1 (runF op k d a b).2
  | 0, d, a, b, _, _, _, hx => absurd hx (show ¬ (0 : Int) ≤ -1 by decide)
  | k + 1, d, a, b, h, g, hk, hx => by
    cases e : stp d op a b with
    | val x =>
      rw [runF_val e]
      have := stp_val h g e
      exact ⟨Ext.refl d, h, this⟩
    | two v a0 b0 a1 b1 =>
      rw [runF_two e] at hx ⊢
      obtain ⟨ev, v0, v1, g0, g1, r0, r1⟩ := stp_two h g e
      split at hx
      · exact absurd hx (show ¬ (0 : Int) ≤ -1 by decide)
      · rename_i h0
        rw [if_neg h0]
        obtain ⟨E0, K0, P0, V0⟩ := run_ok (k := k) h g0 (by omega) (by omega)
        obtain ⟨_, p1⟩ := adF_pos hx
        have g1' := g1.ext E0
        obtain ⟨E1, K1, P1, V1⟩ := run_ok (k := k) K0 g1' (by rw [rk_ext g1 E0, E0.vars]; omega) p1
        rw [rk_ext g1 E0] at V1
        have p0 := isP_iff.1 (E1.isP P0)
        have q1 := isP_iff.1 P1
        have := adF_ok K1 (f := ⟨v, (runF op k d a0 b0).2, (runF op k (runF op k d a0 b0).1 a1 b1).2⟩) ⟨v0, by rw [E1.vars, E0.vars]; exact v1, p0.1, by dsimp only; omega, q1.1, by dsimp only; omega,
          by dsimp only; rw [E1.varP (isP_iff.1 P0).2]; omega, by dsimp only; omega⟩ hx
        rw [← ev]
        exact ⟨(E0.trans E1).trans this.1, this.2.1, this.2.2.1, this.2.2.2⟩
theorem run_ext {op : Int} : ∀ {k : Nat} {d d' : Dg} {a b : Int}, d.Ok → fitA d op a b → d.vars - rk d op a b < k → 0 ≤ (runF op k d a b).2 → Ext (runF op k d a b).1 d' →
    runF op k d' a b = (d', (runF op k d a b).2)
  | 0, d, d', a, b, _, _, _, hx, _ => absurd hx (show ¬ (0 : Int) ≤ -1 by decide)
  | k + 1, d, d', a, b, h, g, hk, hx, E => by
    cases e : stp d op a b with
    | val x =>
      rw [runF_val e] at E ⊢
      rw [runF_val (d := d') (by rw [stp_ext h g E]; exact e)]
    | two v a0 b0 a1 b1 =>
      obtain ⟨ev, v0, v1, g0, g1, r0, r1⟩ := stp_two h g e
      have hx' := hx
      rw [runF_two e] at hx' E
      split at hx'
      · exact absurd hx' (show ¬ (0 : Int) ≤ -1 by decide)
      · rename_i h0
        rw [if_neg h0] at E
        obtain ⟨E0, K0, P0, V0⟩ := run_ok (k := k) h g0 (by omega) (by omega)
        obtain ⟨_, p1⟩ := adF_pos hx'
        have g1' := g1.ext E0
        have hk1 : (runF op k d a0 b0).1.vars - rk (runF op k d a0 b0).1 op a1 b1 < k := by rw [rk_ext g1 E0, E0.vars]; omega
        obtain ⟨E1, K1, P1, V1⟩ := run_ok (k := k) K0 g1' hk1 p1
        rw [rk_ext g1 E0] at V1
        have q0 := isP_iff.1 (E1.isP P0)
        have q1 := isP_iff.1 P1
        have A := adF_ok K1 (f := ⟨v, (runF op k d a0 b0).2, (runF op k (runF op k d a0 b0).1 a1 b1).2⟩) ⟨v0, by rw [E1.vars, E0.vars]; exact v1, q0.1, by dsimp only; omega, q1.1, by dsimp only; omega,
          by dsimp only; rw [E1.varP (isP_iff.1 P0).2]; omega, by dsimp only; omega⟩ hx'
        have F1 : Ext (runF op k (runF op k d a0 b0).1 a1 b1).1 d' := A.1.trans E
        have F0 : Ext (runF op k d a0 b0).1 d' := E1.trans F1
        have R0 := run_ext (k := k) (d' := d') h g0 (by omega) (by omega) F0
        have R1 := run_ext (k := k) (d' := d') K0 g1' hk1 p1 F1
        rw [runF_two (d := d') (by rw [stp_ext h g (E0.trans F0)]; exact e), R0]
        dsimp only
        rw [if_neg h0, R1]
        dsimp only
        rw [adF_ext hx' E, runF_two e, if_neg h0]
theorem run_fuel {op : Int} : ∀ {k m : Nat} {d : Dg} {a b : Int}, d.Ok → fitA d op a b → d.vars - rk d op a b < k → d.vars - rk d op a b < m → runF op k d a b = runF op m d a b
  | 0, m, d, a, b, h, g, hk, _ => by have := rk_le h g; omega
  | k + 1, 0, d, a, b, h, g, _, hm => by have := rk_le h g; omega
  | k + 1, m + 1, d, a, b, h, g, hk, hm => by
    cases e : stp d op a b with
    | val x => rw [runF_val e, runF_val e]
    | two v a0 b0 a1 b1 =>
      obtain ⟨ev, v0, v1, g0, g1, r0, r1⟩ := stp_two h g e
      rw [runF_two e, runF_two e]
      rw [← run_fuel (k := k) (m := m) h g0 (by omega) (by omega)]
      by_cases h0 : (runF op k d a0 b0).2 < 0
      · rw [if_pos h0, if_pos h0]
      · rw [if_neg h0, if_neg h0]
        obtain ⟨E0, K0, P0, V0⟩ := run_ok (k := k) h g0 (by omega) (by omega)
        have hr : rk (runF op k d a0 b0).1 op a1 b1 = rk d op a1 b1 := rk_ext g1 E0
        rw [run_fuel (k := k) (m := m) K0 (g1.ext E0) (by rw [hr, E0.vars]; omega) (by rw [hr, E0.vars]; omega)]
theorem run_low {op : Int} : ∀ {k : Nat} {d : Dg} {a b : Int}, d.Ok → fitA d op a b → -1 ≤ (runF op k d a b).2
  | 0, _, _, _, _, _ => by show (-1 : Int) ≤ -1; decide
  | k + 1, d, a, b, h, g => by
    cases e : stp d op a b with
    | val x => rw [runF_val e]; have := isP_iff.1 (stp_val h g e).1; dsimp only; omega
    | two v a0 b0 a1 b1 =>
      rw [runF_two e]
      split
      · show (-1 : Int) ≤ -1; decide
      · exact adF_low _ _
end Go.Proofs.YtnhjcokmajejcaaDoor
