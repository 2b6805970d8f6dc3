/- Systems in memory. -/
import Derived.Test.YtmlhnnkdecabpaaDoorMem
namespace Go.Proofs.YtmlhnnkdecabpaaDoor
open Go.RowKit

/-- A variable. -/
structure Vr where
  low : Int
  high : Int
  first : Int
def Vr.cs (v : Vr) : List Value := [.int .i64 v.low, .int .i64 v.high, .int .i64 v.first]
def Vr.v (v : Vr) : Value := .agg #[.int .i64 v.low, .int .i64 v.high, .int .i64 v.first]
instance : Mem Vr where
  default := ⟨0, 0, 0⟩
  size := 3
  rd _ _ cs a := cs = a.cs
  own _ fp cs a := fp = [] ∧ cs = a.cs
  rd_len h := by subst h; rfl
  rd_keep h _ := h
  rd_more h _ := h
  own_rd h := h.2
  own_keep h _ := h
  own_lt h b hb := by rw [h.1] at hb; cases hb
instance : Flat Vr := ⟨Vr.cs, fun _ => rfl, Iff.rfl, Iff.rfl⟩

/-- A rule. -/
structure Rl where
  cond : List Tm
  sets : List Int
  terms : List (List Tm)
instance : Mem Rl where
  default := ⟨[], [], []⟩
  size := Mem.size (List Tm × List Int × List (List Tm))
  rd w B cs a := Mem.rd w B cs (a.cond, a.sets, a.terms)
  own w fp cs a := Mem.own w fp cs (a.cond, a.sets, a.terms)
  rd_len h := Mem.rd_len h
  rd_keep h k := Mem.rd_keep h k
  rd_more h k := Mem.rd_more h k
  own_rd h := Mem.own_rd h
  own_keep h k := Mem.own_keep h k
  own_lt h := Mem.own_lt h

/-- A system. -/
structure Sy where
  vars : List Vr
  rules : List Rl
instance : Mem Sy where
  default := ⟨[], []⟩
  size := Mem.size (List Vr × List Rl)
  rd w B cs a := Mem.rd w B cs (a.vars, a.rules)
  own w fp cs a := Mem.own w fp cs (a.vars, a.rules)
  rd_len h := Mem.rd_len h
  rd_keep h k := Mem.rd_keep h k
  rd_more h k := Mem.rd_more h k
  own_rd h := Mem.own_rd h
  own_keep h k := Mem.own_keep h k
  own_lt h := Mem.own_lt h

section
variable {w : World} {B n c : Nat} {A : Option Addr}
theorem pos1 (ad : Addr) (k s : Nat) {j : Nat} (hj : 0 < j) : (⟨(ad.add (k * s)).block, (ad.add (k * s)).off + j, none⟩ : Addr) = ad.add (k * s + j) := by rw [← add_add', add_pos _ hj]
theorem vr_at {l : List Vr} (h : Mem.rd w B [.slice A n c] l) {k : Nat} (hk : k < n) : ∃ ad, A = some ad ∧ ad.block < B ∧ w.cell? (ad.add (k * 3)) = some (.int .i64 (el l k).low) ∧
    w.cell? ⟨(ad.add (k * 3)).block, (ad.add (k * 3)).off + 1, none⟩ = some (.int .i64 (el l k).high) ∧ w.cell? ⟨(ad.add (k * 3)).block, (ad.add (k * 3)).off + 2, none⟩ = some (.int .i64 (el l k).first) := by
  obtain ⟨A', n', c', e, hm, hl, h⟩ := h
  injection e with e _
  injection e with e1 e2 e3
  subst e1; subst e2; subst e3
  obtain ⟨ad, ecs, hA, hb, hc, hr⟩ := h k hk
  cases (show ecs = (el l k).cs from hr)
  refine ⟨ad, hA, hb, ?_⟩
  rw [pos1 ad k 3 (j := 1) (by omega), pos1 ad k 3 (j := 2) (by omega)]
  exact ⟨hc 0 _ rfl, hc 1 _ rfl, hc 2 _ rfl⟩
theorem rd_len {α : Type} [Mem α] {l : List α} (h : Mem.rd w B [.slice A n c] l) : l.length = n := by
  obtain ⟨A', n', c', e, hm, hl, h⟩ := h
  injection e with e _
  injection e with e1 e2 e3
  omega
theorem rd_max {α : Type} [Mem α] {l : List α} (h : Mem.rd w B [.slice A n c] l) : n ≤ maxLen := by
  obtain ⟨A', n', c', e, hm, hl, h⟩ := h
  injection e with e _
  injection e with e1 e2 e3
  omega
/-- A slice of slices at a place. -/
theorem ll_at {α : Type} [Mem α] {l : List (List α)} (h : Mem.rd w B [.slice A n c] l) {k : Nat} (hk : k < n) : ∃ ad A1 n1 c1, A = some ad ∧ ad.block < B ∧ w.cell? (ad.add k) = some (.slice A1 n1 c1) ∧ Mem.rd w B [.slice A1 n1 c1] (el l k) := by
  obtain ⟨A', n', c', e, hm, hl, h⟩ := h
  injection e with e _
  injection e with e1 e2 e3
  subst e1; subst e2; subst e3
  obtain ⟨ad, ecs, hA, hb, hc, hr⟩ := h k hk
  have hr' := hr
  obtain ⟨A1, n1, c1, rfl, _⟩ := hr'
  have := hc 0 _ rfl
  rw [show Mem.size (List α) = 1 from rfl, Nat.mul_one, Nat.add_zero] at this
  exact ⟨ad, A1, n1, c1, hA, hb, this, hr⟩
/-- A rule at a place. -/
theorem rl_at {l : List Rl} (h : Mem.rd w B [.slice A n c] l) {k : Nat} (hk : k < n) : ∃ ad A1 n1 c1 A2 n2 c2 A3 n3 c3, A = some ad ∧ ad.block < B ∧ w.cell? (ad.add (k * 3)) = some (.slice A1 n1 c1) ∧
    w.cell? ⟨(ad.add (k * 3)).block, (ad.add (k * 3)).off + 1, none⟩ = some (.slice A2 n2 c2) ∧ w.cell? ⟨(ad.add (k * 3)).block, (ad.add (k * 3)).off + 2, none⟩ = some (.slice A3 n3 c3) ∧
    Mem.rd w B [.slice A1 n1 c1] (el l k).cond ∧ Mem.rd w B [.slice A2 n2 c2] (el l k).sets ∧ Mem.rd w B [.slice A3 n3 c3] (el l k).terms := by
  obtain ⟨A', n', c', e, hm, hl, h⟩ := h
  injection e with e _
  injection e with e1 e2 e3
  subst e1; subst e2; subst e3
  obtain ⟨ad, ecs, hA, hb, hc, hr⟩ := h k hk
  obtain ⟨x1, x2, rfl, h1, y1, y2, rfl, h2, h3⟩ := hr
  have g1 := h1; have g2 := h2; have g3 := h3
  obtain ⟨A1, n1, c1, rfl, _⟩ := h1
  obtain ⟨A2, n2, c2, rfl, _⟩ := h2
  obtain ⟨A3, n3, c3, rfl, _⟩ := h3
  refine ⟨ad, A1, n1, c1, A2, n2, c2, A3, n3, c3, hA, hb, ?_, ?_, ?_, g1, g2, g3⟩
  · exact hc 0 _ rfl
  · rw [pos1 ad k 3 (j := 1) (by omega)]; exact hc 1 _ rfl
  · rw [pos1 ad k 3 (j := 2) (by omega)]; exact hc 2 _ rfl
end
end Go.Proofs.YtmlhnnkdecabpaaDoor
