/- The exact laws' comparisons, of lists that are the same. -/
import Derived.Test.YtmlhnnkdecabpaaDoorLaw
namespace Go.Proofs.YtmlhnnkdecabpaaDoor
open Go.RowKit

theorem cell_below {w w' : World} {B : Nat} {p : Addr} {v : Value} (hb : Below B w w') (hp : p.block < B) (h : w.cell? p = some v) : w'.cell? p = some v := (hb.cell hp).trans h
/-- The four cells of a term stay. -/
theorem four_below {w w' : World} {a : Addr} {m : Nat} {v0 v1 v2 v3 : Value} (hb : Below w.heap.size w w') (ha : a.block < w.heap.size) (h0 : w.cell? (a.add m) = some v0) (h1 : w.cell? ⟨(a.add m).block, (a.add m).off + 1, none⟩ = some v1)
    (h2 : w.cell? ⟨(a.add m).block, (a.add m).off + 2, none⟩ = some v2) (h3 : w.cell? ⟨(a.add m).block, (a.add m).off + 3, none⟩ = some v3) :
    w'.cell? (a.add m) = some v0 ∧ w'.cell? ⟨(a.add m).block, (a.add m).off + 1, none⟩ = some v1 ∧ w'.cell? ⟨(a.add m).block, (a.add m).off + 2, none⟩ = some v2 ∧ w'.cell? ⟨(a.add m).block, (a.add m).off + 3, none⟩ = some v3 := by
  have e : (a.add m).block < w.heap.size := by rw [add_block]; exact ha
  exact ⟨cell_below hb e h0, cell_below hb e h1, cell_below hb e h2, cell_below hb e h3⟩
theorem Tm.eq_self (t : Tm) : t.eq t = true := by simp [Tm.eq]
theorem eqTerm_same (t : Tm) (w : World) : Calls Tryd.prog 49 #[.agg #[.int .i64 t.op, .int .i64 t.n, .int .i64 t.a, .int .i64 t.b], .agg #[.int .i64 t.op, .int .i64 t.n, .int .i64 t.a, .int .i64 t.b]] w (GivesBool w true) := by
  have h := eqTerm_any t t w
  rw [t.eq_self] at h
  exact h

set_option maxHeartbeats 1000000 in
theorem eqTermS_same (A A' : Option Addr) (n c c' : Nat) (l : List Tm) (w : World) (h : Rd w w.heap.size 4 A n (tms l)) (h' : Rd w w.heap.size 4 A' n (tms l)) (hn : n ≤ 1048576) :
    Calls Tryd.prog 17 #[.slice A n c, .slice A' n c'] w (GivesBool w true) := by
  go_enter Tryd.func17, Tryd.ntmps17
  go_wp2
  go_loopg [5] n (fun m i wr => ∃ k : Nat, k + m = n ∧ i = .int .i64 k ∧ Below w.heap.size w wr)
  case atStart => exact ⟨0, by omega, rfl, Below.refl _ _⟩
  case round =>
    obtain ⟨k, hk, rfl, hb⟩ := hrel
    by_cases hlt : k < n
    · obtain ⟨ad, rfl, b1, h0, h1, h2, h3⟩ := (h.below hb).tm hlt
      obtain ⟨ad', rfl, b2, i0, i1, i2, i3⟩ := (h'.below hb).tm hlt
      go_wp2
      go_region_held3 (fun w' => w'.cell? (ad.add (k * 4)) = some (.int .i64 (tx l k).op) ∧ w'.cell? ⟨(ad.add (k * 4)).block, (ad.add (k * 4)).off + 1, none⟩ = some (.int .i64 (tx l k).n) ∧ w'.cell? ⟨(ad.add (k * 4)).block, (ad.add (k * 4)).off + 2, none⟩ = some (.int .i64 (tx l k).a) ∧ w'.cell? ⟨(ad.add (k * 4)).block, (ad.add (k * 4)).off + 3, none⟩ = some (.int .i64 (tx l k).b) ∧
          w'.cell? (ad'.add (k * 4)) = some (.int .i64 (tx l k).op) ∧ w'.cell? ⟨(ad'.add (k * 4)).block, (ad'.add (k * 4)).off + 1, none⟩ = some (.int .i64 (tx l k).n) ∧ w'.cell? ⟨(ad'.add (k * 4)).block, (ad'.add (k * 4)).off + 2, none⟩ = some (.int .i64 (tx l k).a) ∧ w'.cell? ⟨(ad'.add (k * 4)).block, (ad'.add (k * 4)).off + 3, none⟩ = some (.int .i64 (tx l k).b))
        (go_keep) ((go_at_call 49; refine (eqTerm_same (tx l k) _).mono ?_; rintro e w2 ⟨rfl, hb2⟩; obtain ⟨p0, p1, p2, p3⟩ := four_below hb2 (Nat.lt_of_lt_of_le b1 hb.size) h0 h1 h2 h3; obtain ⟨q0, q1, q2, q3⟩ := four_below hb2 (Nat.lt_of_lt_of_le b2 hb.size) i0 i1 i2 i3))
      all_goals
        go_wp2
        go_roundg (n - (k + 1))
        case measure => omega
        case rel => exact ⟨k + 1, by omega, by go_num, hb.trans (Below.mono (B' := w.heap.size) ⟨hb2.os, hb2.tape, hb2.output, hb2.size, hb2.block⟩ hb.size)⟩
    · obtain rfl : k = n := by omega
      go_wp2
      go_ret
      exact ⟨rfl, hb⟩
end Go.Proofs.YtmlhnnkdecabpaaDoor
