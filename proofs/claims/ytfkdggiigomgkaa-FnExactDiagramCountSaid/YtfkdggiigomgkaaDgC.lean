/- Diagrams: how many rows a place is true for. -/
import Derived.Test.YtfkdggiigomgkaaDgT
import Derived.Test.YtfkdggiigomgkaaDgK
import Derived.Test.YtfkdggiigomgkaaDgV
namespace Go.Proofs.Ytfkdggiigomgkaa
open Go.RowKit

/-- For how many rows a place is true. -/
def fN (d : Dg) : Nat → Int → Nat
  | 0, n => if n = 1 then 2 ^ d.vars.toNat else 0
  | k + 1, n => if n < 2 then (if n = 1 then 2 ^ d.vars.toNat else 0) else (fN d k (fkA d n).lo + fN d k (fkA d n).hi) / 2
theorem fN_succ (d : Dg) (k : Nat) (n : Int) : fN d (k + 1) n = if n < 2 then (if n = 1 then 2 ^ d.vars.toNat else 0) else (fN d k (fkA d n).lo + fN d k (fkA d n).hi) / 2 := rfl
theorem fN_const {d : Dg} {n : Int} (h : n < 2) : ∀ k : Nat, fN d k n = if n = 1 then 2 ^ d.vars.toNat else 0
  | 0 => rfl
  | k + 1 => by rw [fN_succ, if_pos h]
theorem fk_places {d : Dg} (ok : d.Ok) {n : Int} (hn : isP d n = true) (h2 : 2 ≤ n) : (isP d (fkA d n).lo = true ∧ (fkA d n).lo < n) ∧ (isP d (fkA d n).hi = true ∧ (fkA d n).hi < n) := by
  have hp := isP_iff.1 hn
  have F := ok.fit h2 hp.2
  have := F.l1
  have := F.h1
  exact ⟨⟨F.low (by omega), by omega⟩, F.high (by omega), by omega⟩
theorem fN_fuel {d : Dg} (ok : d.Ok) : ∀ {k m : Nat} {n : Int}, isP d n = true → n < k + 2 → n < m + 2 → fN d k n = fN d m n
  | 0, m, n, _, hk, _ => by rw [fN_const (by omega), fN_const (by omega)]
  | k + 1, 0, n, _, _, hm => by rw [fN_const (by omega), fN_const (by omega)]
  | k + 1, m + 1, n, hn, hk, hm => by
    rw [fN_succ, fN_succ]
    by_cases h2 : n < 2
    · rw [if_pos h2, if_pos h2]
    · rw [if_neg h2, if_neg h2]
      have := fk_places ok hn (by omega)
      rw [fN_fuel ok (k := k) (m := m) this.1.1 (by omega) (by omega), fN_fuel ok (k := k) (m := m) this.2.1 (by omega) (by omega)]
def fullP (d : Dg) (n : Int) : Nat := fN d 3000 n
theorem full_fork {d : Dg} (ok : d.Ok) {n : Int} (hn : isP d n = true) (h2 : 2 ≤ n) : fullP d n = (fullP d (fkA d n).lo + fullP d (fkA d n).hi) / 2 := by
  have hp := isP_iff.1 hn
  have few := ok.few
  have := fk_places ok hn h2
  show fN d 3000 n = _
  rw [show (3000 : Nat) = 2999 + 1 from rfl, fN_succ, if_neg (by omega)]
  rw [fN_fuel ok (k := 2999) (m := 3000) this.1.1 (by omega) (by omega), fN_fuel ok (k := 2999) (m := 3000) this.2.1 (by omega) (by omega)]
  rfl
theorem pow_split {V j a : Nat} : 2 ^ (V + 1 + j) * a = 2 ^ V * (2 * (2 ^ j * a)) := by
  rw [Nat.pow_add, Nat.pow_succ]
  simp only [Nat.mul_assoc]
theorem full_dvd {d : Dg} (ok : d.Ok) : ∀ (k : Nat) {n : Int}, isP d n = true → n < k + 2 → ∃ V a : Nat, varP d n = V ∧ fullP d n = 2 ^ V * a ∧ fullP d n ≤ 2 ^ d.vars.toNat
  | 0, n, hn, hk => by
    have hv := ok.var hn
    have lo := ok.lo
    refine ⟨d.vars.toNat, if n = 1 then 1 else 0, ?_, ?_, ?_⟩
    · rw [show varP d n = d.vars from if_pos (by omega)]; omega
    · show fN d 3000 n = _
      rw [fN_const (by omega)]
      split <;> simp
    · show fN d 3000 n ≤ _
      rw [fN_const (by omega)]
      split <;> simp
  | k + 1, n, hn, hk => by
    by_cases h2 : n < 2
    · exact full_dvd ok 0 hn (by omega)
    · have h2' : 2 ≤ n := by omega
      have hp := isP_iff.1 hn
      have F := ok.fit h2' hp.2
      have P := fk_places ok hn h2'
      obtain ⟨V1, a1, v1, e1, l1⟩ := full_dvd ok k P.1.1 (by omega)
      obtain ⟨V2, a2, v2, e2, l2⟩ := full_dvd ok k P.2.1 (by omega)
      have lv := F.lv
      have hv := F.hv
      obtain ⟨V, hV⟩ : ∃ V : Nat, (fkA d n).v = V := ⟨(fkA d n).v.toNat, by have := F.v0; omega⟩
      obtain ⟨j1, rfl⟩ : ∃ j, V1 = V + 1 + j := ⟨V1 - (V + 1), by omega⟩
      obtain ⟨j2, rfl⟩ : ∃ j, V2 = V + 1 + j := ⟨V2 - (V + 1), by omega⟩
      have ff := full_fork ok hn h2'
      have e3 : fullP d n = 2 ^ V * (2 ^ j1 * a1 + 2 ^ j2 * a2) := by
        rw [ff, e1, e2, pow_split, pow_split, ← Nat.mul_add, ← Nat.mul_add, Nat.mul_left_comm, Nat.mul_div_cancel_left _ (by omega)]
      refine ⟨V, _, ?_, e3, by omega⟩
      rw [show varP d n = (fkA d n).v from if_neg (by omega)]; exact hV
/-- The count from a variable on. -/
def cntAt (d : Dg) (n v : Int) : Int := ((fullP d n / 2 ^ v.toNat : Nat) : Int)
theorem cnt_const {d : Dg} (_ok : d.Ok) {n v : Int} (hn : isP d n = true) (h2 : n < 2) (h0 : 0 ≤ v) (hv : v ≤ d.vars) : cntAt d n v = n * 2 ^ (d.vars - v).toNat := by
  have hp := isP_iff.1 hn
  unfold cntAt fullP
  rw [fN_const h2]
  obtain rfl | rfl : n = 0 ∨ n = 1 := by omega
  · simp
  · rw [if_pos rfl, show d.vars.toNat = v.toNat + (d.vars - v).toNat by omega, Nat.pow_add, Nat.mul_div_cancel_left _ (Nat.pow_pos (by omega))]
    simp
theorem cnt_fork {d : Dg} (ok : d.Ok) {n v : Int} (hn : isP d n = true) (h2 : 2 ≤ n) (h0 : 0 ≤ v) (hv : v ≤ (fkA d n).v) :
    cntAt d n v = (cntAt d (fkA d n).lo ((fkA d n).v + 1) + cntAt d (fkA d n).hi ((fkA d n).v + 1)) * 2 ^ ((fkA d n).v - v).toNat := by
  have hp := isP_iff.1 hn
  have few := ok.few
  have F := ok.fit h2 hp.2
  have P := fk_places ok hn h2
  obtain ⟨V1, a1, v1, e1, l1⟩ := full_dvd ok 3000 P.1.1 (by omega)
  obtain ⟨V2, a2, v2, e2, l2⟩ := full_dvd ok 3000 P.2.1 (by omega)
  have lv := F.lv
  have hv' := F.hv
  obtain ⟨V, hV⟩ : ∃ V : Nat, (fkA d n).v = V := ⟨(fkA d n).v.toNat, by have := F.v0; omega⟩
  obtain ⟨j1, rfl⟩ : ∃ j, V1 = V + 1 + j := ⟨V1 - (V + 1), by omega⟩
  obtain ⟨j2, rfl⟩ : ∃ j, V2 = V + 1 + j := ⟨V2 - (V + 1), by omega⟩
  have ff := full_fork ok hn h2
  have e3 : fullP d n = 2 ^ V * (2 ^ j1 * a1 + 2 ^ j2 * a2) := by
    rw [ff, e1, e2, pow_split, pow_split, ← Nat.mul_add, ← Nat.mul_add, Nat.mul_left_comm, Nat.mul_div_cancel_left _ (by omega)]
  have q1 : cntAt d (fkA d n).lo ((fkA d n).v + 1) = ((2 ^ j1 * a1 : Nat) : Int) := by
    unfold cntAt
    rw [e1, hV, show ((V : Int) + 1).toNat = V + 1 by omega, Nat.pow_add, Nat.mul_assoc, Nat.mul_div_cancel_left _ (Nat.pow_pos (by omega))]
  have q2 : cntAt d (fkA d n).hi ((fkA d n).v + 1) = ((2 ^ j2 * a2 : Nat) : Int) := by
    unfold cntAt
    rw [e2, hV, show ((V : Int) + 1).toNat = V + 1 by omega, Nat.pow_add, Nat.mul_assoc, Nat.mul_div_cancel_left _ (Nat.pow_pos (by omega))]
  rw [q1, q2, hV]
  unfold cntAt
  rw [hV] at hv
  rw [e3, show V = v.toNat + ((V : Int) - v).toNat by omega, Nat.pow_add, Nat.mul_assoc, Nat.mul_div_cancel_left _ (Nat.pow_pos (by omega)), show ((v.toNat + ((V : Int) - v).toNat : Nat) : Int) - v = ((V : Int) - v) by omega, Nat.mul_comm]
  simp
theorem cnt_le {d : Dg} (ok : d.Ok) {n v : Int} (hn : isP d n = true) : 0 ≤ cntAt d n v ∧ cntAt d n v ≤ 4096 := by
  have hp := isP_iff.1 hn
  have few := ok.few
  obtain ⟨V1, a1, v1, e1, l1⟩ := full_dvd ok 3000 hn (by omega)
  have h2 : 2 ^ d.vars.toNat ≤ 2 ^ 12 := Nat.pow_le_pow_right (by omega) (by have := ok.hi; omega)
  have := Nat.div_le_self (fullP d n) (2 ^ v.toNat)
  unfold cntAt
  generalize fullP d n / 2 ^ v.toNat = q at *
  omega

set_option maxRecDepth 100000 in
theorem l8Count_c (d : Dg) (ok : d.Ok) (A : Option Addr) (c : Nat) (k : Nat) (hk2 : k ≤ 2) : ∀ (n v : Int) (w : World), Mem.rd w w.heap.size [.slice A d.forks.length c] d.forks → isP d n = true → n < k → 0 ≤ v → v ≤ varP d n →
    Calls Try.prog 74 #[.agg #[.int .i64 d.vars, .slice A d.forks.length c], .int .i64 n, .int .i64 v] w (GivesInt w (cntAt d n v)) := by
  intro n v w _ hn hk h0 hv
  have hd := ok.hi
  have h2 : n < 2 := by omega
  rw [show varP d n = d.vars from if_pos h2] at hv
  have hE := cnt_const ok hn h2 h0 hv
  have hE4 := (cnt_le ok hn (v := v))
  generalize cntAt d n v = T at *
  obtain ⟨j, hj⟩ : ∃ j : Nat, d.vars - v = j := ⟨(d.vars - v).toNat, by omega⟩
  rw [hj, Int.toNat_natCast] at hE
  have w4 : IntKind.i64.wrap (d.vars - v) = (j : Int) := by rw [hj]; exact IntWalk.i64_in _ (by omega)
  have w5 : IntKind.i64.wrap (n * 2 ^ j) = n * 2 ^ j := by rw [← hE]; exact IntWalk.i64_in _ (by omega)
  have j12 : (j : Int) ≤ 64 := by omega
  have j0 : 0 ≤ (j : Int) := by omega
  have HE := Lib.hid hE
  clear hE hE4 hj hk hn ok hv
  go_enter Try.func74, Try.ntmps74
  go_wp2
  go_ret
  exact ⟨congrArg (fun z => Ending.returned (.int .i64 z)) HE.out.symm, below_alloc _ _⟩

set_option maxRecDepth 100000 in
set_option maxHeartbeats 2000000 in
theorem l8Count_any (d : Dg) (ok : d.Ok) (A : Option Addr) (c : Nat) (k : Nat) : ∀ (n v : Int) (w : World), Mem.rd w w.heap.size [.slice A d.forks.length c] d.forks → isP d n = true → n < k + 2 → 0 ≤ v → v ≤ varP d n →
    Calls Try.prog 74 #[.agg #[.int .i64 d.vars, .slice A d.forks.length c], .int .i64 n, .int .i64 v] w (GivesInt w (cntAt d n v)) := by
  induction k with
  | zero => exact fun n v w h1 hn hk h0 hv => l8Count_c d ok A c 2 (by omega) n v w h1 hn hk h0 hv
  | succ k ih =>
    intro n v w h1 hn hk h0 hv
    by_cases h2 : n < 2
    · exact l8Count_c d ok A c 2 (by omega) n v w h1 hn (by omega) h0 hv
    · have h2' : 2 ≤ n := by omega
      have few := ok.few
      have hd := ok.hi
      have hp := isP_iff.1 hn
      have F := ok.fit h2' hp.2
      have P := fk_places ok hn h2'
      have BX := Lib.hid (ci_box (w := w) (v1 := .int .i64 d.vars) (v2 := .slice A d.forks.length c) (t := 29))
      have hvf : varP d n = (fkA d n).v := if_neg (by omega)
      have hE := cnt_fork ok hn h2' h0 (by omega)
      have hE4 := (cnt_le ok hn (v := v))
      have IA := Lib.hid (fun W (B : Below w.heap.size w W) => ih (fkA d n).lo ((fkA d n).v + 1) W (Mem.rd_on h1 B) P.1.1 (by have := P.1.2; omega) (by have := F.v0; omega) (by have := F.lv; omega))
      have IB := Lib.hid (fun W (B : Below w.heap.size w W) => ih (fkA d n).hi ((fkA d n).v + 1) W (Mem.rd_on h1 B) P.2.1 (by have := P.2.2; omega) (by have := F.v0; omega) (by have := F.hv; omega))
      have la := cnt_le ok P.1.1 (v := (fkA d n).v + 1)
      have lb := cnt_le ok P.2.1 (v := (fkA d n).v + 1)
      obtain ⟨i, rfl⟩ : ∃ i : Nat, n = 2 + i := ⟨(n - 2).toNat, by omega⟩
      have hi : i < d.forks.length := by omega
      obtain ⟨ad, rfl, hbl, d0, d1, d2⟩ := fk_at (Mem.rd_below h1 (below_alloc w (.cells #[.int .i64 d.vars, .slice A d.forks.length c] 29))) hi
      have hbl' : (ad.add (i * 3)).block < (w.alloc (.cells #[.int .i64 d.vars, .slice (some ad) d.forks.length c] 29)).heap.size := by rw [add_block]; simp; omega
      have w1 : IntKind.i64.wrap (2 + (i : Int) - 2) = (i : Int) := by rw [show 2 + (i : Int) - 2 = i by omega]; exact IntWalk.i64_in _ (by omega)
      have ef : fkA d (2 + (i : Int)) = el d.forks i := by unfold fkA; rw [show (2 + (i : Int) - 2).toNat = i by omega]
      have f0 := F.v0
      have f1 := F.v1
      rw [hvf] at hv
      rw [ef] at IA IB la lb hE f0 f1 hv
      generalize cntAt d (2 + (i : Int)) v = T at *
      generalize el d.forks i = G at *
      obtain ⟨ga, gb, gc⟩ := G
      dsimp only at *
      obtain ⟨V, rfl⟩ : ∃ V : Nat, ga = V := ⟨ga.toNat, by omega⟩
      generalize cntAt d gb ((V : Int) + 1) = Ta at *
      generalize cntAt d gc ((V : Int) + 1) = Tb at *
      obtain ⟨j, hj⟩ : ∃ j : Nat, (V : Int) - v = j := ⟨((V : Int) - v).toNat, by omega⟩
      rw [hj, Int.toNat_natCast] at hE
      have w2 : IntKind.i64.wrap ((V : Int) + 1) = (V : Int) + 1 := IntWalk.i64_in _ (by omega)
      have w3 : IntKind.i64.wrap (Ta + Tb) = Ta + Tb := IntWalk.i64_in _ (by omega)
      have w4 : IntKind.i64.wrap ((V : Int) - v) = (j : Int) := by rw [hj]; exact IntWalk.i64_in _ (by omega)
      have w5 : IntKind.i64.wrap ((Ta + Tb) * 2 ^ j) = (Ta + Tb) * 2 ^ j := by rw [← hE]; exact IntWalk.i64_in _ (by omega)
      have j12 : (j : Int) ≤ 64 := by omega
      have j0 : 0 ≤ (j : Int) := by omega
      have HE := Lib.hid hE
      have gi : (i : Int) < d.forks.length := by omega
      have g2 : ¬ (2 + (i : Int)) < 2 := by omega
      clear F P ih h1 hn hp hE hE4 ef hvf hj la lb hv
      go_enter Try.func74, Try.ntmps74
      go_wp2
      have k5 : Blk ((w.alloc (.cells #[.int .i64 d.vars, .slice (some ad) d.forks.length c] 29)).alloc (.cells #[.int .i64 V, .int .i64 gb, .int .i64 gc] 52)) (w.alloc (.cells #[.int .i64 d.vars, .slice (some ad) d.forks.length c] 29)).heap.size 52 [.int .i64 V, .int .i64 gb, .int .i64 gc] := ci_blk _ #[.int .i64 V, .int .i64 gb, .int .i64 gc] 52
      have b5 : Below (w.alloc (.cells #[.int .i64 d.vars, .slice (some ad) d.forks.length c] 29)).heap.size (w.alloc (.cells #[.int .i64 d.vars, .slice (some ad) d.forks.length c] 29)) ((w.alloc (.cells #[.int .i64 d.vars, .slice (some ad) d.forks.length c] 29)).alloc (.cells #[.int .i64 V, .int .i64 gb, .int .i64 gc] 52)) := below_alloc _ _
      rw [World.size_alloc] at k5
      generalize (w.alloc (.cells #[.int .i64 d.vars, .slice (some ad) d.forks.length c] 29)).alloc (.cells #[.int .i64 V, .int .i64 gb, .int .i64 gc] 52) = W5 at *
      obtain ⟨B5, x0, x1⟩ := BX.out _ b5
      have s5 := k5.lt
      have z5 : w.heap.size < W5.heap.size := by omega
      have y0 := k5.cell 0
      have y1 := k5.cell 1
      have y2 := k5.cell 2
      simp only [List.getElem?_cons_zero, List.getElem?_cons_succ] at y0 y1 y2
      refine wp_region_held_drew (S := (fun w' => w'.cell? ⟨w.heap.size, 0, none⟩ = some (.int .i64 d.vars) ∧ w'.cell? ⟨w.heap.size, 1, none⟩ = some (.slice (some ad) d.forks.length c) ∧ w'.cell? ⟨w.heap.size + 1, 0, none⟩ = some (.int .i64 V) ∧ w'.cell? ⟨w.heap.size + 1, 1, none⟩ = some (.int .i64 gb) ∧ w'.cell? ⟨w.heap.size + 1, 2, none⟩ = some (.int .i64 gc))) (by kernel_rfl) ?_ (fun hHeld => ?_)
      · (try dsimp only); first | with_reducible exact ⟨x0, x1, y0, y1, y2⟩ | go_keep
      refine wpAnyH_take (i := 0) (v := ?rv0) rfl (by kernel_rfl) (by kernel_rfl) (by kernel_rfl) (fun _ _ _ h => h) (Or.inl ⟨by kernel_rfl, ?rh0⟩) (by assumption) ?rr0
      case rh0 => ((intro w hSw; (try dsimp only at hSw); go_simp) <;> with_reducible rfl)
      (try simp only [List.getElem_toArray, List.getElem_cons_zero]); (try simp only [Act.put]); (try simp only [List.setIfInBounds_toArray]); (try simp only [List.set_cons_succ]); (try simp only [List.set_cons_zero])
      refine wpAnyH_take (i := 1) (v := ?rv1) rfl (by kernel_rfl) (by kernel_rfl) (by kernel_rfl) (fun _ _ _ h => h) (Or.inl ⟨by kernel_rfl, ?rh1⟩) (by assumption) ?rr1
      case rh1 => ((intro w hSw; (try dsimp only at hSw); go_simp) <;> with_reducible rfl)
      (try simp only [List.getElem_toArray, List.getElem_cons_zero, List.getElem_cons_succ]); (try simp only [Act.put]); (try simp only [List.setIfInBounds_toArray]); (try simp only [List.set_cons_succ]); (try simp only [List.set_cons_zero])
      refine wpAnyH_take (i := 2) (v := ?rv2) rfl (by kernel_rfl) (by kernel_rfl) (by kernel_rfl) (fun _ _ _ h => h) (Or.inl ⟨by kernel_rfl, ?rh2⟩) (by assumption) ?rr2
      case rh2 => ((intro w hSw; (try dsimp only at hSw); go_simp) <;> with_reducible rfl)
      (try simp only [List.getElem_toArray, List.getElem_cons_zero, List.getElem_cons_succ]); (try simp only [Act.put]); (try simp only [List.setIfInBounds_toArray]); (try simp only [List.set_cons_succ]); (try simp only [List.set_cons_zero])
      refine wpAnyH_take (i := 3) (v := ?rv3) rfl (by kernel_rfl) (by kernel_rfl) (by kernel_rfl) (fun _ _ _ h => h) (Or.inl ⟨by kernel_rfl, ?rh3⟩) (by assumption) ?rr3
      case rh3 => ((intro w hSw; (try dsimp only at hSw); go_simp) <;> with_reducible rfl)
      (try simp only [List.getElem_toArray, List.getElem_cons_zero, List.getElem_cons_succ]); (try simp only [Act.put]); (try simp only [List.setIfInBounds_toArray]); (try simp only [List.set_cons_succ]); (try simp only [List.set_cons_zero])
      refine wpAnyH_take (i := 4) (v := ?rv4) rfl (by kernel_rfl) (by kernel_rfl) (by kernel_rfl) (fun _ _ _ h => h) (Or.inl ⟨by kernel_rfl, ?rh4⟩) (by assumption) ?rr4
      case rh4 => ((intro w hSw; (try dsimp only at hSw); go_simp) <;> with_reducible rfl)
      (try simp only [List.getElem_toArray, List.getElem_cons_zero, List.getElem_cons_succ]); (try simp only [Act.put]); (try simp only [List.setIfInBounds_toArray]); (try simp only [List.set_cons_succ]); (try simp only [List.set_cons_zero])
      refine wpAnyH_take (i := 5) (v := ?rv5) rfl (by kernel_rfl) (by kernel_rfl) (by kernel_rfl) (fun _ _ _ h => h) (Or.inl ⟨by kernel_rfl, ?rh5⟩) (by assumption) ?rr5
      case rh5 => ((intro w hSw; (try dsimp only at hSw); go_simp) <;> with_reducible rfl)
      (try simp only [List.getElem_toArray, List.getElem_cons_zero, List.getElem_cons_succ]); (try simp only [Act.put]); (try simp only [List.setIfInBounds_toArray]); (try simp only [List.set_cons_succ]); (try simp only [List.set_cons_zero])
      refine wpAnyH_take (i := 7) (v := ?rv7) rfl (by kernel_rfl) (by kernel_rfl) (by kernel_rfl) (fun _ _ _ h => h) (Or.inl ⟨by kernel_rfl, ?rh7⟩) (by assumption) ?rr7
      case rh7 => ((intro w hSw; (try dsimp only at hSw); go_simp) <;> with_reducible rfl)
      (try simp only [List.getElem_toArray, List.getElem_cons_zero, List.getElem_cons_succ]); (try simp only [Act.put]); (try simp only [List.setIfInBounds_toArray]); (try simp only [List.set_cons_succ]); (try simp only [List.set_cons_zero])
      refine wpAnyH_take (i := 8) (v := ?rv8) rfl (by kernel_rfl) (by kernel_rfl) (by kernel_rfl) (fun _ _ _ h => h) (Or.inl ⟨by kernel_rfl, ?rh8⟩) (by assumption) ?rr8
      case rh8 => ((intro w hSw; (try dsimp only at hSw); go_simp) <;> with_reducible rfl)
      (try simp only [List.getElem_toArray, List.getElem_cons_zero, List.getElem_cons_succ]); (try simp only [Act.put]); (try simp only [List.setIfInBounds_toArray]); (try simp only [List.set_cons_succ]); (try simp only [List.set_cons_zero])
      refine wpAnyH_take (i := 9) (v := ?rv9) rfl (by kernel_rfl) (by kernel_rfl) (by kernel_rfl) (fun _ _ _ h => h) (Or.inl ⟨by kernel_rfl, ?rh9⟩) (by assumption) ?rr9
      case rh9 => ((intro w hSw; (try dsimp only at hSw); go_simp) <;> with_reducible rfl)
      (try simp only [List.getElem_toArray, List.getElem_cons_zero, List.getElem_cons_succ]); (try simp only [Act.put]); (try simp only [List.setIfInBounds_toArray]); (try simp only [List.set_cons_succ]); (try simp only [List.set_cons_zero])
      refine wpAnyH_take (i := 10) (v := ?rv10) rfl (by kernel_rfl) (by kernel_rfl) (by kernel_rfl) (fun _ _ _ h => h) (Or.inl ⟨by kernel_rfl, ?rh10⟩) (by assumption) ?rr10
      case rh10 => ((intro w hSw; (try dsimp only at hSw); go_simp) <;> with_reducible rfl)
      (try simp only [List.getElem_toArray, List.getElem_cons_zero, List.getElem_cons_succ]); (try simp only [Act.put]); (try simp only [List.setIfInBounds_toArray]); (try simp only [List.set_cons_succ]); (try simp only [List.set_cons_zero])
      refine wpAnyH_take (i := 11) (v := ?rv11) rfl (by kernel_rfl) (by kernel_rfl) (by kernel_rfl) (fun _ _ _ h => h) (Or.inl ⟨by kernel_rfl, ?rh11⟩) (by assumption) ?rr11
      case rh11 => ((intro w hSw; (try dsimp only at hSw); go_simp) <;> with_reducible rfl)
      (try simp only [List.getElem_toArray, List.getElem_cons_zero, List.getElem_cons_succ]); (try simp only [Act.put]); (try simp only [List.setIfInBounds_toArray]); (try simp only [List.set_cons_succ]); (try simp only [List.set_cons_zero])
      refine wpAnyH_take (i := 12) (v := ?rv12) rfl (by kernel_rfl) (by kernel_rfl) (by kernel_rfl) (fun _ _ _ h => h) (Or.inl ⟨by kernel_rfl, ?rh12⟩) (by assumption) ?rr12
      case rh12 => ((intro w hSw; (try dsimp only at hSw); go_simp) <;> with_reducible rfl)
      (try simp only [List.getElem_toArray, List.getElem_cons_zero, List.getElem_cons_succ]); (try simp only [Act.put]); (try simp only [List.setIfInBounds_toArray]); (try simp only [List.set_cons_succ]); (try simp only [List.set_cons_zero])
      refine wpAnyH_take (i := 15) (v := ?rv15) rfl (by kernel_rfl) (by kernel_rfl) (by kernel_rfl) (fun _ _ _ h => h) (Or.inl ⟨by kernel_rfl, ?rh15⟩) (by assumption) ?rr15
      case rh15 => ((intro w hSw; (try dsimp only at hSw); go_simp) <;> with_reducible rfl)
      (try simp only [List.getElem_toArray, List.getElem_cons_zero, List.getElem_cons_succ]); (try simp only [Act.put]); (try simp only [List.setIfInBounds_toArray]); (try simp only [List.set_cons_succ]); (try simp only [List.set_cons_zero])
      refine wpAnyH_take (i := 16) (v := ?rv16) rfl (by kernel_rfl) (by kernel_rfl) (by kernel_rfl) (fun _ _ _ h => h) (Or.inl ⟨by kernel_rfl, ?rh16⟩) (by assumption) ?rr16
      case rh16 => ((intro w hSw; (try dsimp only at hSw); go_simp) <;> with_reducible rfl)
      (try simp only [List.getElem_toArray, List.getElem_cons_zero, List.getElem_cons_succ]); (try simp only [Act.put]); (try simp only [List.setIfInBounds_toArray]); (try simp only [List.set_cons_succ]); (try simp only [List.set_cons_zero])
      refine wpAnyH_take (i := 17) (v := ?rv17) rfl (by kernel_rfl) (by kernel_rfl) (by kernel_rfl) (fun _ _ _ h => h) (Or.inl ⟨by kernel_rfl, ?rh17⟩) (by assumption) ?rr17
      case rh17 => ((intro w hSw; (try dsimp only at hSw); go_simp) <;> with_reducible rfl)
      (try simp only [List.getElem_toArray, List.getElem_cons_zero, List.getElem_cons_succ]); (try simp only [Act.put]); (try simp only [List.setIfInBounds_toArray]); (try simp only [List.set_cons_succ]); (try simp only [List.set_cons_zero])
      refine wpAnyH_take (i := 18) (v := ?rv18) rfl (by kernel_rfl) (by kernel_rfl) (by kernel_rfl) (fun _ _ _ h => h) (Or.inl ⟨by kernel_rfl, ?rh18⟩) (by assumption) ?rr18
      case rh18 => ((intro w hSw; (try dsimp only at hSw); go_simp) <;> with_reducible rfl)
      (try simp only [List.getElem_toArray, List.getElem_cons_zero, List.getElem_cons_succ]); (try simp only [Act.put]); (try simp only [List.setIfInBounds_toArray]); (try simp only [List.set_cons_succ]); (try simp only [List.set_cons_zero])
      refine wpAnyH_ready (rs := [6]) (by kernel_rfl) (by simp) ?_
      refine AllReadyH.cons (o := _) rfl (fun K hK => ?_) AllReadyH.nil
      go_simp
      go_at_call 74
      refine (IA.out _ ?_).mono ?_
      · exact ⟨B5.os, B5.tape, B5.output, B5.size, B5.block⟩
      rintro e w6 ⟨rfl, c6⟩
      have c7 : Below W5.heap.size W5 w6 := ⟨c6.os, c6.tape, c6.output, c6.size, c6.block⟩
      have B6 := B5.trans (c7.mono B5.size)
      have x0 := cell_below c7 (p := ⟨w.heap.size, 0, none⟩) z5 x0
      have x1 := cell_below c7 (p := ⟨w.heap.size, 1, none⟩) z5 x1
      have y0 := cell_below c7 (p := ⟨w.heap.size + 1, 0, none⟩) s5 y0
      have y1 := cell_below c7 (p := ⟨w.heap.size + 1, 1, none⟩) s5 y1
      have y2 := cell_below c7 (p := ⟨w.heap.size + 1, 2, none⟩) s5 y2
      have s6 := c7.size
      refine hK.out _ _ ?_ (fun hHeld => ?_)
      · (try dsimp only); first | with_reducible exact ⟨x0, x1, y0, y1, y2⟩ | go_keep
      clear hK K
      (try simp only [List.getElem_toArray, List.getElem_cons_zero, List.getElem_cons_succ]); (try simp only [Act.put]); (try simp only [List.setIfInBounds_toArray]); (try simp only [List.set_cons_succ]); (try simp only [List.set_cons_zero])
      refine wpAnyH_ready (rs := [13]) (by kernel_rfl) (by simp) ?_
      refine AllReadyH.cons (o := _) rfl (fun K hK => ?_) AllReadyH.nil
      go_simp
      go_at_call 74
      refine (IB.out _ ?_).mono ?_
      · exact B6
      rintro e w8 ⟨rfl, c8⟩
      have B8 := B6.trans (c8.mono B6.size)
      have x0 := cell_below c8 (p := ⟨w.heap.size, 0, none⟩) (Nat.lt_of_lt_of_le z5 s6) x0
      have x1 := cell_below c8 (p := ⟨w.heap.size, 1, none⟩) (Nat.lt_of_lt_of_le z5 s6) x1
      have y0 := cell_below c8 (p := ⟨w.heap.size + 1, 0, none⟩) (Nat.lt_of_lt_of_le s5 s6) y0
      have y1 := cell_below c8 (p := ⟨w.heap.size + 1, 1, none⟩) (Nat.lt_of_lt_of_le s5 s6) y1
      have y2 := cell_below c8 (p := ⟨w.heap.size + 1, 2, none⟩) (Nat.lt_of_lt_of_le s5 s6) y2
      refine hK.out _ _ ?_ (fun hHeld => ?_)
      · (try dsimp only); first | with_reducible exact ⟨x0, x1, y0, y1, y2⟩ | go_keep
      clear hK K
      (try simp only [List.getElem_toArray, List.getElem_cons_zero, List.getElem_cons_succ]); (try simp only [Act.put]); (try simp only [List.setIfInBounds_toArray]); (try simp only [List.set_cons_succ]); (try simp only [List.set_cons_zero])
      refine wpAnyH_take (i := 14) (v := ?rv14) rfl (by kernel_rfl) (by kernel_rfl) (by kernel_rfl) (fun _ _ _ h => h) (Or.inl ⟨by kernel_rfl, ?rh14⟩) (by assumption) ?rr14
      case rh14 => ((intro w hSw; (try dsimp only at hSw); go_simp) <;> with_reducible rfl)
      (try simp only [List.getElem_toArray, List.getElem_cons_zero, List.getElem_cons_succ]); (try simp only [Act.put]); (try simp only [List.setIfInBounds_toArray]); (try simp only [List.set_cons_succ]); (try simp only [List.set_cons_zero])
      refine wpAnyH_take (i := 19) (v := ?rv19) rfl (by kernel_rfl) (by kernel_rfl) (by kernel_rfl) (fun _ _ _ h => h) (Or.inl ⟨by kernel_rfl, ?rh19⟩) (by assumption) ?rr19
      case rh19 => ((intro w hSw; (try dsimp only at hSw); go_simp) <;> with_reducible rfl)
      (try simp only [List.getElem_toArray, List.getElem_cons_zero, List.getElem_cons_succ]); (try simp only [Act.put]); (try simp only [List.setIfInBounds_toArray]); (try simp only [List.set_cons_succ]); (try simp only [List.set_cons_zero])
      refine wpAnyH_take (i := 20) (v := ?rv20) rfl (by kernel_rfl) (by kernel_rfl) (by kernel_rfl) (fun _ _ _ h => h) (Or.inl ⟨by kernel_rfl, ?rh20⟩) (by assumption) ?rr20
      case rh20 => ((intro w hSw; (try dsimp only at hSw); go_simp) <;> with_reducible rfl)
      (try simp only [List.getElem_toArray, List.getElem_cons_zero, List.getElem_cons_succ]); (try simp only [Act.put]); (try simp only [List.setIfInBounds_toArray]); (try simp only [List.set_cons_succ]); (try simp only [List.set_cons_zero])
      refine wpAnyH_done (by kernel_rfl) ?_ _
      all_goals
        go_wp2
        go_ret
        exact ⟨congrArg (fun z => Ending.returned (.int .i64 z)) HE.out.symm, B8⟩

noncomputable def dgCountB (d : Dg) (n : Int) : Int := if (dgB d && isP d n) = true then cntAt d n 0 else -1
set_option maxRecDepth 100000 in
set_option maxHeartbeats 2000000 in
theorem dgCount_spec (d : Dg) (n : Int) (A : Option Addr) (n1 c : Nat) (w : World) (h1 : Mem.rd w w.heap.size [.slice A n1 c] d.forks) :
    Calls Try.prog 37 #[.agg #[.int .i64 d.vars, .slice A n1 c], .int .i64 n] w (GivesInt w (dgCountB d n)) := by
  obtain rfl : d.forks.length = n1 := rd_len h1
  have BX := Lib.hid (ci_box (w := w) (v1 := .int .i64 d.vars) (v2 := .slice A d.forks.length c) (t := 29))
  have CK := Lib.hid (fun W (B : Below w.heap.size w W) => dgValid_spec d A d.forks.length c W (Mem.rd_on h1 B))
  cases k1 : dgB d
  · rw [k1] at CK
    have HR := Lib.hid (show dgCountB d n = -1 from if_neg (by rw [k1]; simp))
    generalize dgCountB d n = R at *
    obtain ⟨v, fs⟩ := d
    dsimp only at *
    clear h1 k1
    go_enter Try.func37, Try.ntmps37
    go_wp2_with fail
    refine (CK.out _ (below_alloc _ _)).mono ?_
    rintro e w1 ⟨rfl, b1⟩
    obtain ⟨B1, x0, x1⟩ := BX.out _ b1
    go_wp2
    go_ret
    exact ⟨(congrArg (fun z => Ending.returned (.int .i64 z)) HR.out).symm, B1⟩
  · rw [k1] at CK
    have ok := dgB_iff.1 k1
    have few := ok.few
    have LP := Lib.hid (fun W => l8Place_any d A c n W (by omega))
    cases q1 : isP d n
    · rw [q1] at LP
      have HR := Lib.hid (show dgCountB d n = -1 from if_neg (by rw [k1, q1]; simp))
      generalize dgCountB d n = R at *
      obtain ⟨v, fs⟩ := d
      dsimp only at *
      clear h1 k1 q1 ok
      go_enter Try.func37, Try.ntmps37
      go_wp2_with fail
      refine (CK.out _ (below_alloc _ _)).mono ?_
      rintro e w1 ⟨rfl, b1⟩
      obtain ⟨B1, x0, x1⟩ := BX.out _ b1
      go_wp2_with fail
      refine (LP.out _).mono ?_
      rintro e w2 ⟨rfl, c2⟩
      have b2 := b1.trans (c2.mono b1.size)
      obtain ⟨B2, x0, x1⟩ := BX.out _ b2
      go_wp2
      go_ret
      exact ⟨(congrArg (fun z => Ending.returned (.int .i64 z)) HR.out).symm, B2⟩
    · rw [q1] at LP
      have LC := Lib.hid (fun W (B : Below w.heap.size w W) => l8Count_any d ok A c 3000 n 0 W (Mem.rd_on h1 B) q1 (by have := (isP_iff.1 q1).2; omega) (Int.le_refl _) (ok.var q1).1)
      have HR := Lib.hid (show dgCountB d n = cntAt d n 0 from if_pos (by rw [k1, q1]; rfl))
      generalize dgCountB d n = R at *
      generalize cntAt d n 0 = T at *
      obtain ⟨v, fs⟩ := d
      dsimp only at *
      clear h1 k1 q1 ok
      go_enter Try.func37, Try.ntmps37
      go_wp2_with fail
      refine (CK.out _ (below_alloc _ _)).mono ?_
      rintro e w1 ⟨rfl, b1⟩
      obtain ⟨B1, x0, x1⟩ := BX.out _ b1
      go_wp2_with fail
      refine (LP.out _).mono ?_
      rintro e w2 ⟨rfl, c2⟩
      have b2 := b1.trans (c2.mono b1.size)
      obtain ⟨B2, x0, x1⟩ := BX.out _ b2
      go_wp2_with fail
      refine (LC.out _ B2).mono ?_
      rintro e w4 ⟨rfl, c4⟩
      have b4 := b2.trans (c4.mono b2.size)
      obtain ⟨B4, x0, x1⟩ := BX.out _ b4
      go_wp2
      go_ret
      exact ⟨(congrArg (fun z => Ending.returned (.int .i64 z)) HR.out).symm, B4⟩
end Go.Proofs.Ytfkdggiigomgkaa
