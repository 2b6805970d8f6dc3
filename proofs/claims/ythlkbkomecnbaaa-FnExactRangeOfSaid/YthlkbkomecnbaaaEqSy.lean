/- The exact laws' comparisons of systems that are the same. -/
import Derived.Test.YthlkbkomecnbaaaMarkSy
import Derived.Test.YthlkbkomecnbaaaLaw3
namespace Go.Proofs.Ythlkbkomecnbaaa
open Go.RowKit

theorem eqTermS_M (A A' : Option Addr) (n c n' c' : Nat) (l : List Tm) (w : World) (h : Mem.rd w w.heap.size [.slice A n c] l) (h' : Mem.rd w w.heap.size [.slice A' n' c'] l) (hn : l.length ≤ 1048576) :
    Calls Try.prog 40 #[.slice A n c, .slice A' n' c'] w (GivesBool w true) := by
  have e1 := rd_len h
  have e2 := rd_len h'
  obtain rfl : n = n' := by omega
  exact eqTermS_same A A' n c c' l w (rd_tms.1 h).2 (rd_tms.1 h').2 (by omega)
theorem eqIntS_M (A A' : Option Addr) (n c n' c' : Nat) (l : List Int) (w : World) (h : Mem.rd w w.heap.size [.slice A n c] l) (h' : Mem.rd w w.heap.size [.slice A' n' c'] l) :
    Calls Try.prog 14 #[.slice A n c, .slice A' n' c'] w (GivesBool w true) := by
  have e1 := rd_len h
  have e2 := rd_len h'
  obtain rfl : n = n' := by omega
  exact eqIntS_same A A' n c c' l w (rd_ints.1 h).2 (rd_ints.1 h').2 (rd_max h)

set_option maxHeartbeats 1000000 in
theorem eqVar_same (t : Vr) (w : World) : Calls Try.prog 134 #[.agg #[.int .i64 t.low, .int .i64 t.high, .int .i64 t.first], .agg #[.int .i64 t.low, .int .i64 t.high, .int .i64 t.first]] w (GivesBool w true) := by
  obtain ⟨a, b, c⟩ := t
  dsimp only
  have g1 : (a != a) = false := by simp
  have g2 : (b != b) = false := by simp
  have g3 : (c != c) = false := by simp
  go_enter Try.func134, Try.ntmps134
  go_wp2
  go_ret
  exact ⟨rfl, ((Below.refl _ _).alloc (Nat.le_refl _) _).alloc (by simp) _⟩

theorem three_below {w w' : World} {a : Addr} {m : Nat} {v0 v1 v2 : Value} (hb : Below w.heap.size w w') (ha : a.block < w.heap.size) (h0 : w.cell? (a.add m) = some v0) (h1 : w.cell? ⟨(a.add m).block, (a.add m).off + 1, none⟩ = some v1)
    (h2 : w.cell? ⟨(a.add m).block, (a.add m).off + 2, none⟩ = some v2) :
    w'.cell? (a.add m) = some v0 ∧ w'.cell? ⟨(a.add m).block, (a.add m).off + 1, none⟩ = some v1 ∧ w'.cell? ⟨(a.add m).block, (a.add m).off + 2, none⟩ = some v2 := by
  have e : (a.add m).block < w.heap.size := by rw [add_block]; exact ha
  exact ⟨cell_below hb e h0, cell_below hb e h1, cell_below hb e h2⟩

set_option maxHeartbeats 1000000 in
theorem eqVarS_same (A A' : Option Addr) (n c n' c' : Nat) (l : List Vr) (w : World) (h : Mem.rd w w.heap.size [.slice A n c] l) (h' : Mem.rd w w.heap.size [.slice A' n' c'] l) (hn : l.length ≤ 1048576) :
    Calls Try.prog 98 #[.slice A n c, .slice A' n' c'] w (GivesBool w true) := by
  have e1 := rd_len h
  have e2 := rd_len h'
  obtain rfl : n = n' := by omega
  have hn' : n ≤ 1048576 := by omega
  clear e1 e2 hn
  go_enter Try.func98, Try.ntmps98
  go_wp2
  go_loopg [5] n (fun m i wr => ∃ k : Nat, k + m = n ∧ i = .int .i64 k ∧ Below w.heap.size w wr)
  case atStart => exact ⟨0, by omega, rfl, Below.refl _ _⟩
  case round =>
    obtain ⟨k, hk, rfl, hb⟩ := hrel
    by_cases hlt : k < n
    · obtain ⟨ad, rfl, b1, h0, h1, h2⟩ := vr_at (Mem.rd_below h hb) hlt
      obtain ⟨ad', rfl, b2, i0, i1, i2⟩ := vr_at (Mem.rd_below h' hb) hlt
      go_wp2
      go_region_held3 (fun w' => w'.cell? (ad.add (k * 3)) = some (.int .i64 (el l k).low) ∧ w'.cell? ⟨(ad.add (k * 3)).block, (ad.add (k * 3)).off + 1, none⟩ = some (.int .i64 (el l k).high) ∧ w'.cell? ⟨(ad.add (k * 3)).block, (ad.add (k * 3)).off + 2, none⟩ = some (.int .i64 (el l k).first) ∧
          w'.cell? (ad'.add (k * 3)) = some (.int .i64 (el l k).low) ∧ w'.cell? ⟨(ad'.add (k * 3)).block, (ad'.add (k * 3)).off + 1, none⟩ = some (.int .i64 (el l k).high) ∧ w'.cell? ⟨(ad'.add (k * 3)).block, (ad'.add (k * 3)).off + 2, none⟩ = some (.int .i64 (el l k).first))
        (go_keep) ((go_at_call 134; refine (eqVar_same (el l k) _).mono ?_; rintro e w2 ⟨rfl, hb2⟩; obtain ⟨p0, p1, p2⟩ := three_below hb2 (Nat.lt_of_lt_of_le b1 hb.size) h0 h1 h2; obtain ⟨q0, q1, q2⟩ := three_below hb2 (Nat.lt_of_lt_of_le b2 hb.size) i0 i1 i2))
      all_goals
        go_wp2
        go_roundg (n - (k + 1))
        case measure => omega
        case rel => exact ⟨k + 1, by omega, by go_num, hb.trans (Below.mono (B' := w.heap.size) ⟨hb2.os, hb2.tape, hb2.output, hb2.size, hb2.block⟩ hb.size)⟩
    · obtain rfl : k = n := by omega
      go_wp2
      go_ret
      exact ⟨rfl, hb⟩

set_option maxHeartbeats 1000000 in
theorem eqTermSS_same (A A' : Option Addr) (n c n' c' : Nat) (l : List (List Tm)) (w : World) (h : Mem.rd w w.heap.size [.slice A n c] l) (h' : Mem.rd w w.heap.size [.slice A' n' c'] l) (hs : ∀ k, k < l.length → (el l k).length ≤ 1048576) :
    Calls Try.prog 167 #[.slice A n c, .slice A' n' c'] w (GivesBool w true) := by
  have e1 := rd_len h
  have e2 := rd_len h'
  obtain rfl : n = n' := by omega
  rw [e1] at hs
  have hm := rd_max h
  unfold maxLen at hm
  clear e1 e2
  go_enter Try.func167, Try.ntmps167
  go_wp2
  go_loopg [5] n (fun m i wr => ∃ k : Nat, k + m = n ∧ i = .int .i64 k ∧ Below w.heap.size w wr)
  case atStart => exact ⟨0, by omega, rfl, Below.refl _ _⟩
  case round =>
    obtain ⟨k, hk, rfl, hb⟩ := hrel
    by_cases hlt : k < n
    · obtain ⟨ad, A1, n1, c1, rfl, b1, h0, r1⟩ := ll_at (Mem.rd_below h hb) hlt
      obtain ⟨ad', A2, n2, c2, rfl, b2, i0, r2⟩ := ll_at (Mem.rd_below h' hb) hlt
      have hs1 := hs k hlt
      have r1 := Mem.rd_more r1 hb.size
      have r2 := Mem.rd_more r2 hb.size
      go_wp2
      go_region_held3 (fun w' => w'.cell? (ad.add k) = some (.slice A1 n1 c1) ∧ w'.cell? (ad'.add k) = some (.slice A2 n2 c2)) (go_keep)
        ((go_at_call 40; refine (eqTermS_M A1 A2 n1 c1 n2 c2 (el l k) _ (Mem.rd_drew r1) (Mem.rd_drew r2) hs1).mono ?_; rintro e w2 ⟨rfl, hb2⟩
          have p0 := cell_below hb2 (p := ad.add k) (by rw [add_block]; exact Nat.lt_of_lt_of_le b1 hb.size) h0
          have q0 := cell_below hb2 (p := ad'.add k) (by rw [add_block]; exact Nat.lt_of_lt_of_le b2 hb.size) i0))
      all_goals
        go_wp2
        go_roundg (n - (k + 1))
        case measure => omega
        case rel => exact ⟨k + 1, by omega, by go_num, hb.trans (Below.mono (B' := w.heap.size) ⟨hb2.os, hb2.tape, hb2.output, hb2.size, hb2.block⟩ hb.size)⟩
    · obtain rfl : k = n := by omega
      go_wp2
      go_ret
      exact ⟨rfl, hb⟩

set_option maxHeartbeats 1000000 in
theorem eqRule_same (r : Rl) (A1 : Option Addr) (n1 c1 : Nat) (A2 : Option Addr) (n2 c2 : Nat) (A3 : Option Addr) (n3 c3 : Nat) (A4 : Option Addr) (n4 c4 : Nat) (A5 : Option Addr) (n5 c5 : Nat) (A6 : Option Addr) (n6 c6 : Nat) (w : World)
    (h1 : Mem.rd w w.heap.size [.slice A1 n1 c1] r.cond) (h2 : Mem.rd w w.heap.size [.slice A2 n2 c2] r.sets) (h3 : Mem.rd w w.heap.size [.slice A3 n3 c3] r.terms)
    (h4 : Mem.rd w w.heap.size [.slice A4 n4 c4] r.cond) (h5 : Mem.rd w w.heap.size [.slice A5 n5 c5] r.sets) (h6 : Mem.rd w w.heap.size [.slice A6 n6 c6] r.terms) (hf : r.Fits) :
    Calls Try.prog 135 #[.agg #[.slice A1 n1 c1, .slice A2 n2 c2, .slice A3 n3 c3], .agg #[.slice A4 n4 c4, .slice A5 n5 c5, .slice A6 n6 c6]] w (GivesBool w true) := by
  have i1 := hf.cond
  have i4 := Lib.hid hf.term
  clear hf
  go_enter Try.func135, Try.ntmps135
  go_wp2_with fail
  have L0 : ∀ o o' : Obj, Below w.heap.size w ((w.alloc o).alloc o') := fun o o' => (below_alloc w o).alloc (by simp) o'
  refine (eqTermS_M A1 A4 n1 c1 n4 c4 r.cond _ (Mem.rd_on h1 (L0 _ _)) (Mem.rd_on h4 (L0 _ _)) i1).mono ?_
  rintro e w2 ⟨rfl, b1⟩
  obtain ⟨hc1, hf1⟩ := bcell b1
  have hz1 := b1.size
  have L1 : Below w.heap.size w w2 := (L0 _ _).trans (b1.mono (by simp; omega))
  simp only [World.size_alloc] at hz1
  have p1 : w.heap.size + 1 < w2.heap.size := by omega
  have q1 : w.heap.size < w2.heap.size := by omega
  go_wp2_with fail
  refine (eqIntS_M A2 A5 n2 c2 n5 c5 r.sets _ (Mem.rd_on h2 L1) (Mem.rd_on h5 L1)).mono ?_
  rintro e w3 ⟨rfl, b2⟩
  obtain ⟨hc2, hf2⟩ := bcell b2
  have hz2 := b2.size
  have L2 := L1.trans (b2.mono L1.size)
  have p2 : w.heap.size + 1 < w3.heap.size := by omega
  have q2 : w.heap.size < w3.heap.size := by omega
  go_wp2_with fail
  refine (eqTermSS_same A3 A6 n3 c3 n6 c6 r.terms _ (Mem.rd_on h3 L2) (Mem.rd_on h6 L2) i4.out).mono ?_
  rintro e w4 ⟨rfl, b3⟩
  have L3 := L2.trans (b3.mono L2.size)
  go_wp2
  go_ret
  exact ⟨rfl, L3⟩

theorem six_below {w w' : World} {a : Addr} {m : Nat} {v0 v1 v2 : Value} (hb : Below w.heap.size w w') (ha : a.block < w.heap.size) (h0 : w.cell? (a.add m) = some v0) (h1 : w.cell? ⟨(a.add m).block, (a.add m).off + 1, none⟩ = some v1)
    (h2 : w.cell? ⟨(a.add m).block, (a.add m).off + 2, none⟩ = some v2) :
    w'.cell? (a.add m) = some v0 ∧ w'.cell? ⟨(a.add m).block, (a.add m).off + 1, none⟩ = some v1 ∧ w'.cell? ⟨(a.add m).block, (a.add m).off + 2, none⟩ = some v2 := three_below hb ha h0 h1 h2

set_option maxHeartbeats 1000000 in
theorem eqRuleS_same (A A' : Option Addr) (n c n' c' : Nat) (l : List Rl) (w : World) (h : Mem.rd w w.heap.size [.slice A n c] l) (h' : Mem.rd w w.heap.size [.slice A' n' c'] l) (hs : ∀ k, k < l.length → (el l k).Fits) :
    Calls Try.prog 99 #[.slice A n c, .slice A' n' c'] w (GivesBool w true) := by
  have e1 := rd_len h
  have e2 := rd_len h'
  obtain rfl : n = n' := by omega
  rw [e1] at hs
  have hm := rd_max h
  unfold maxLen at hm
  clear e1 e2
  go_enter Try.func99, Try.ntmps99
  go_wp2
  go_loopg [5] n (fun m i wr => ∃ k : Nat, k + m = n ∧ i = .int .i64 k ∧ Below w.heap.size w wr)
  case atStart => exact ⟨0, by omega, rfl, Below.refl _ _⟩
  case round =>
    obtain ⟨k, hk, rfl, hb⟩ := hrel
    by_cases hlt : k < n
    · obtain ⟨ad, A1, n1, c1, A2, n2, c2, A3, n3, c3, rfl, b1, h0, h1, h2, r1, r2, r3⟩ := rl_at (Mem.rd_below h hb) hlt
      obtain ⟨ad', A4, n4, c4, A5, n5, c5, A6, n6, c6, rfl, b2, i0, i1, i2, r4, r5, r6⟩ := rl_at (Mem.rd_below h' hb) hlt
      have hs1 := hs k hlt
      have r1 := Mem.rd_more r1 hb.size
      have r2 := Mem.rd_more r2 hb.size
      have r3 := Mem.rd_more r3 hb.size
      have r4 := Mem.rd_more r4 hb.size
      have r5 := Mem.rd_more r5 hb.size
      have r6 := Mem.rd_more r6 hb.size
      go_wp2
      go_region_held3 (fun w' => w'.cell? (ad.add (k * 3)) = some (.slice A1 n1 c1) ∧ w'.cell? ⟨(ad.add (k * 3)).block, (ad.add (k * 3)).off + 1, none⟩ = some (.slice A2 n2 c2) ∧ w'.cell? ⟨(ad.add (k * 3)).block, (ad.add (k * 3)).off + 2, none⟩ = some (.slice A3 n3 c3) ∧
          w'.cell? (ad'.add (k * 3)) = some (.slice A4 n4 c4) ∧ w'.cell? ⟨(ad'.add (k * 3)).block, (ad'.add (k * 3)).off + 1, none⟩ = some (.slice A5 n5 c5) ∧ w'.cell? ⟨(ad'.add (k * 3)).block, (ad'.add (k * 3)).off + 2, none⟩ = some (.slice A6 n6 c6))
        (go_keep)
        ((go_at_call 135; refine (eqRule_same (el l k) A1 n1 c1 A2 n2 c2 A3 n3 c3 A4 n4 c4 A5 n5 c5 A6 n6 c6 _ (Mem.rd_drew r1) (Mem.rd_drew r2) (Mem.rd_drew r3) (Mem.rd_drew r4) (Mem.rd_drew r5) (Mem.rd_drew r6) hs1).mono ?_; rintro e w2 ⟨rfl, hb2⟩
          obtain ⟨p0, p1, p2⟩ := three_below hb2 (Nat.lt_of_lt_of_le b1 hb.size) h0 h1 h2; obtain ⟨q0, q1, q2⟩ := three_below hb2 (Nat.lt_of_lt_of_le b2 hb.size) i0 i1 i2))
      all_goals
        go_wp2
        go_roundg (n - (k + 1))
        case measure => omega
        case rel => exact ⟨k + 1, by omega, by go_num, hb.trans (Below.mono (B' := w.heap.size) ⟨hb2.os, hb2.tape, hb2.output, hb2.size, hb2.block⟩ hb.size)⟩
    · obtain rfl : k = n := by omega
      go_wp2
      go_ret
      exact ⟨rfl, hb⟩

set_option maxHeartbeats 1000000 in
theorem eqSystem_same (s : Sy) (A1 : Option Addr) (n1 c1 : Nat) (A2 : Option Addr) (n2 c2 : Nat) (A4 : Option Addr) (n4 c4 : Nat) (A5 : Option Addr) (n5 c5 : Nat) (w : World)
    (h1 : Mem.rd w w.heap.size [.slice A1 n1 c1] s.vars) (h2 : Mem.rd w w.heap.size [.slice A2 n2 c2] s.rules) (h4 : Mem.rd w w.heap.size [.slice A4 n4 c4] s.vars) (h5 : Mem.rd w w.heap.size [.slice A5 n5 c5] s.rules) (hf : s.Fits) :
    Calls Try.prog 45 #[.agg #[.slice A1 n1 c1, .slice A2 n2 c2], .agg #[.slice A4 n4 c4, .slice A5 n5 c5]] w (GivesBool w true) := by
  have i1 := hf.vars
  have i4 := Lib.hid hf.rule
  clear hf
  go_enter Try.func45, Try.ntmps45
  go_wp2_with fail
  have L0 : ∀ o o' : Obj, Below w.heap.size w ((w.alloc o).alloc o') := fun o o' => (below_alloc w o).alloc (by simp) o'
  refine (eqVarS_same A1 A4 n1 c1 n4 c4 s.vars _ (Mem.rd_on h1 (L0 _ _)) (Mem.rd_on h4 (L0 _ _)) i1).mono ?_
  rintro e w2 ⟨rfl, b1⟩
  obtain ⟨hc1, hf1⟩ := bcell b1
  have hz1 := b1.size
  have L1 : Below w.heap.size w w2 := (L0 _ _).trans (b1.mono (by simp; omega))
  simp only [World.size_alloc] at hz1
  have p1 : w.heap.size + 1 < w2.heap.size := by omega
  have q1 : w.heap.size < w2.heap.size := by omega
  go_wp2_with fail
  refine (eqRuleS_same A2 A5 n2 c2 n5 c5 s.rules _ (Mem.rd_on h2 L1) (Mem.rd_on h5 L1) i4.out).mono ?_
  rintro e w3 ⟨rfl, b2⟩
  have L2 := L1.trans (b2.mono L1.size)
  go_wp2
  go_ret
  exact ⟨rfl, L2⟩
end Go.Proofs.Ythlkbkomecnbaaa
