/- A state of a run that goes round for ever. -/
import Derived.Test.YthplpddddaooiaaPt
import Derived.Test.YthplpddddaooiaaOwnW
import Derived.IntWalk
namespace Go.Proofs.Ythplpddddaooiaa
open Go.RowKit

def atL (a b : List (List Int)) (n : Nat) : List Int := if n < a.length then el a n else el b ((n - a.length) % b.length)
def loopB (a b : List (List Int)) : Bool := decide (0 < b.length) && decide (a.length + b.length ≤ 500)
def lassoL (a b : List (List Int)) (n : Int) : List Int := if decide (0 ≤ n) && loopB a b then atL a b n.toNat else []
theorem at_lo {a b : List (List Int)} {n : Nat} (h : n < a.length) : atL a b n = el a n := if_pos h
theorem at_hi {a b : List (List Int)} {n : Nat} (h : ¬ n < a.length) : atL a b n = el b ((n - a.length) % b.length) := if_neg h
theorem loop_parts {a b : List (List Int)} (h : loopB a b = true) : 0 < b.length ∧ a.length + b.length ≤ 500 := by
  unfold loopB at h; simp only [Bool.and_eq_true, decide_eq_true_eq] at h; exact h
theorem atL_len {a b : List (List Int)} {n : Nat} (hb : 0 < b.length) (h1 : ∀ k, k < a.length → (el a k).length ≤ 1048576) (h2 : ∀ k, k < b.length → (el b k).length ≤ 1048576) : (atL a b n).length ≤ 1048576 := by
  by_cases h : n < a.length
  · rw [at_lo h]; exact h1 n h
  · rw [at_hi h]; exact h2 _ (Nat.mod_lt _ hb)
theorem lassoL_len (a b : List (List Int)) (n : Int) (h1 : ∀ k, k < a.length → (el a k).length ≤ 1048576) (h2 : ∀ k, k < b.length → (el b k).length ≤ 1048576) : (lassoL a b n).length ≤ 1048576 := by
  unfold lassoL
  cases h : decide (0 ≤ n) && loopB a b
  · simp
  · rw [Bool.and_eq_true] at h
    rw [if_pos rfl]; exact atL_len (loop_parts h.2).1 h1 h2
/-- The call gives a slice of what was there. -/
def GivesRd (w : World) (l : List Int) (e : Ending) (w' : World) : Prop := ∃ A n c, e = .returned (.slice A n c) ∧ Mem.rd w w.heap.size [.slice A n c] l ∧ Below w.heap.size w w'


def loopW (w : World) (v1 v2 : Value) : World := w.alloc (.cells #[v1, v2] 114)
theorem loop_box {w : World} {v1 v2 : Value} : ∀ W, Below (w.alloc (.cells #[v1, v2] 114)).heap.size (w.alloc (.cells #[v1, v2] 114)) W →
    Below w.heap.size w W ∧ W.cell? ⟨w.heap.size, 0, none⟩ = some v1 ∧ W.cell? ⟨w.heap.size, 1, none⟩ = some v2 :=
  fun W hW => ⟨below_call hW, ((Blk.new w _ _).below hW (by simp)).cell 0, ((Blk.new w _ _).below hW (by simp)).cell 1⟩

theorem l3Loop_any (a b : List (List Int)) (A1 : Option Addr) (n1 c1 : Nat) (A2 : Option Addr) (n2 c2 : Nat) (w : World) (h1 : a.length = n1) (h2 : b.length = n2) (b1 : n1 ≤ 1048576) (b2 : n2 ≤ 1048576) :
    Calls Try.prog 88 #[.slice A1 n1 c1, .slice A2 n2 c2] w (fun e w' => e = .returned (.bool (loopB a b)) ∧ w = w') := by
  have E : Hid (loopB a b = (decide (0 < n2) && decide (n1 + n2 ≤ 500))) := Lib.hid (by unfold loopB; rw [h1, h2])
  clear h1 h2
  by_cases q : 0 < n2
  · have E2 : Hid (loopB a b = decide ((n1 : Int) + n2 ≤ 500)) := Lib.hid (by rw [E.out, decide_eq_true q, Bool.true_and, decide_eq_decide]; omega)
    have ew : IntKind.i64.wrap ((n1 : Int) + n2) = (n1 : Int) + n2 := IntWalk.i64_in _ (by omega)
    go_enter Try.func88, Try.ntmps88
    go_wp2
    go_ret
    exact ⟨(congrArg (fun b => Ending.returned (.bool b)) E2.out).symm, rfl⟩
  · have E2 : Hid (loopB a b = false) := Lib.hid (by rw [E.out, decide_eq_false q]; rfl)
    obtain rfl : n2 = 0 := by omega
    go_enter Try.func88, Try.ntmps88
    go_wp2
    go_ret
    exact ⟨(congrArg (fun b => Ending.returned (.bool b)) E2.out).symm, rfl⟩
theorem loopOne_any (a b : List (List Int)) (A1 : Option Addr) (n1 c1 : Nat) (A2 : Option Addr) (n2 c2 : Nat) (w : World) (h1 : a.length = n1) (h2 : b.length = n2) (b1 : n1 ≤ 1048576) (b2 : n2 ≤ 1048576) :
    Calls Try.prog 91 #[.agg #[.slice A1 n1 c1, .slice A2 n2 c2]] w (GivesBool w (loopB a b)) := by
  have E : Hid (loopB a b = (decide (0 < n2) && decide (n1 + n2 ≤ 500))) := Lib.hid (by unfold loopB; rw [h1, h2])
  clear h1 h2
  by_cases q : 0 < n2
  · have E2 : Hid (loopB a b = decide ((n1 : Int) + n2 ≤ 500)) := Lib.hid (by rw [E.out, decide_eq_true q, Bool.true_and, decide_eq_decide]; omega)
    have ew : IntKind.i64.wrap ((n1 : Int) + n2) = (n1 : Int) + n2 := IntWalk.i64_in _ (by omega)
    go_enter Try.func91, Try.ntmps91
    go_wp2
    go_ret
    exact ⟨(congrArg (fun b => Ending.returned (.bool b)) E2.out).symm, below_alloc _ _⟩
  · have E2 : Hid (loopB a b = false) := Lib.hid (by rw [E.out, decide_eq_false q]; rfl)
    obtain rfl : n2 = 0 := by omega
    go_enter Try.func91, Try.ntmps91
    go_wp2
    go_ret
    exact ⟨(congrArg (fun b => Ending.returned (.bool b)) E2.out).symm, below_alloc _ _⟩

set_option maxHeartbeats 1000000 in
theorem l3At_any (a b : List (List Int)) (n : Nat) (A1 : Option Addr) (n1 c1 : Nat) (A2 : Option Addr) (n2 c2 : Nat) (w : World) (h1 : Mem.rd w w.heap.size [.slice A1 n1 c1] a) (h2 : Mem.rd w w.heap.size [.slice A2 n2 c2] b) (b1 : n1 ≤ 1048576) (b2 : n2 ≤ 1048576) (hb : 0 < n2) (hn : n < 9223372036854775808) :
    Calls Try.prog 90 #[.slice A1 n1 c1, .slice A2 n2 c2, .int .i64 n] w (fun e w' => ∃ A m c, e = .returned (.slice A m c) ∧ Mem.rd w w.heap.size [.slice A m c] (atL a b n) ∧ w = w') := by
  have L1 := rd_len h1
  have L2 := rd_len h2
  by_cases q : n < n1
  · have E : Hid (atL a b n = el a n) := Lib.hid (at_lo (by omega))
    obtain ⟨ad, A3, n3, c3, rfl, _, d0, r0⟩ := ll_at h1 q
    have HR := Lib.hid r0
    clear L1 L2 r0
    go_enter Try.func90, Try.ntmps90
    go_wp2
    go_ret
    exact ⟨_, _, _, rfl, by rw [E.out]; exact HR.out, rfl⟩
  · obtain ⟨j, hj⟩ : ∃ j, j = (n - n1) % n2 := ⟨_, rfl⟩
    have hj2 : j < n2 := by rw [hj]; exact Nat.mod_lt _ hb
    have E : Hid (atL a b n = el b j) := Lib.hid (by rw [at_hi (by omega), L1, L2, hj])
    obtain ⟨ad, A3, n3, c3, rfl, _, d0, r0⟩ := ll_at h2 hj2
    have HR := Lib.hid r0
    have er : ((n : Int) - n1).tmod n2 = (j : Int) := by
      rw [show (n : Int) - n1 = ((n - n1 : Nat) : Int) by omega, Int.tmod_eq_emod_of_nonneg (by omega), hj]; rfl
    have ew : IntKind.i64.wrap ((n : Int) - n1) = (n : Int) - n1 := IntWalk.i64_in _ (by omega)
    clear L1 L2 r0 hj
    go_enter Try.func90, Try.ntmps90
    go_wp2
    go_ret
    exact ⟨_, _, _, rfl, by rw [E.out]; exact HR.out, rfl⟩

set_option maxHeartbeats 1000000 in
theorem loopAt_any (a b : List (List Int)) (n : Nat) (A1 : Option Addr) (n1 c1 : Nat) (A2 : Option Addr) (n2 c2 : Nat) (w : World) (h1 : Mem.rd w w.heap.size [.slice A1 n1 c1] a) (h2 : Mem.rd w w.heap.size [.slice A2 n2 c2] b) (b1 : n1 ≤ 1048576) (b2 : n2 ≤ 1048576) (hb : 0 < n2) (hn : n < 9223372036854775808) :
    Calls Try.prog 92 #[.agg #[.slice A1 n1 c1, .slice A2 n2 c2], .int .i64 n] w (GivesRd w (atL a b n)) := by
  have L1 := rd_len h1
  have L2 := rd_len h2
  by_cases q : n < n1
  · have E : Hid (atL a b n = el a n) := Lib.hid (at_lo (by omega))
    obtain ⟨ad, A3, n3, c3, rfl, hbl, d0, r0⟩ := ll_at h1 q
    have HR := Lib.hid r0
    have d1 := fun o => cell_alloc (k := n) hbl d0 o
    clear L1 L2 r0
    go_enter Try.func92, Try.ntmps92
    go_wp2
    go_ret
    exact ⟨_, _, _, rfl, by rw [E.out]; exact HR.out, below_alloc _ _⟩
  · obtain ⟨j, hj⟩ : ∃ j, j = (n - n1) % n2 := ⟨_, rfl⟩
    have hj2 : j < n2 := by rw [hj]; exact Nat.mod_lt _ hb
    have E : Hid (atL a b n = el b j) := Lib.hid (by rw [at_hi (by omega), L1, L2, hj])
    obtain ⟨ad, A3, n3, c3, rfl, hbl, d0, r0⟩ := ll_at h2 hj2
    have HR := Lib.hid r0
    have d1 := fun o => cell_alloc (k := j) hbl d0 o
    have er : ((n : Int) - n1).tmod n2 = (j : Int) := by
      rw [show (n : Int) - n1 = ((n - n1 : Nat) : Int) by omega, Int.tmod_eq_emod_of_nonneg (by omega), hj]; rfl
    have ew : IntKind.i64.wrap ((n : Int) - n1) = (n : Int) - n1 := IntWalk.i64_in _ (by omega)
    clear L1 L2 r0 hj
    go_enter Try.func92, Try.ntmps92
    go_wp2
    go_quiet (fail)
    go_wp2
    go_ret
    exact ⟨_, _, _, rfl, by rw [E.out]; exact HR.out, (below_alloc _ _).trans ⟨rfl, rfl, rfl, Nat.le_refl _, fun _ _ => rfl⟩⟩

set_option maxHeartbeats 1000000 in
theorem l3Copy_any (A : Option Addr) (n c : Nat) (l : List Int) (w : World) (h : Mem.rd w w.heap.size [.slice A n c] l) (hn : n ≤ 1048576) :
    Calls Try.prog 89 #[.slice A n c] w (GivesL w l) := by
  have L := Lib.hid (rd_len h)
  have h' := (rd_ints.1 h).2
  have hown0 := World.ownsRow_lit (base := w.heap.size) (e := 3) (size := 1) w #[] 0 (Nat.le_refl _) (by unfold maxLen; omega) rfl
  go_enter Try.func89, Try.ntmps89
  go_wp2
  go_loopg [3, 4] n (fun m v i wr => ∃ k : Nat, k + m = n ∧ i = .int .i64 k ∧ wr.ownsRow w.heap.size 3 1 v k (ints (l.take k)) ∧ Below w.heap.size w wr)
  case atStart => exact ⟨0, by omega, rfl, hown0, below_alloc _ _⟩
  case round =>
    clear hown0
    obtain ⟨k, hk, rfl, ho, hb⟩ := hrel
    by_cases hlt : k < n
    · obtain ⟨ad3, rfl, hbl3, d3⟩ := (h'.below hb).int hlt
      have HO := Lib.hid ho
      go_wp2_with (first
        | (at_builtin; refine app_int_at rfl _ _ rfl w.heap.size _ k _ _ _ rfl (HO.out.alloc _) rfl (World.cell?_alloc_at _ _ _ _ (by simp)) (by omega) (by have := hb.size; simp; omega) ?_; intro v' w4 ho4 hb4))
      go_roundg (n - (k + 1))
      case measure => omega
      case rel => exact ⟨k + 1, by omega, by go_num, by rw [take_el (by rw [L.out]; omega)]; exact ho4, (hb.alloc hb.size _).trans hb4⟩
    · obtain rfl : k = n := by omega
      go_wp2
      go_ret
      rw [List.take_of_length_le (by rw [L.out]; omega)] at ho
      have hl := L.out
      have hk : k = l.length := hl.symm
      rw [hk] at ho
      obtain ⟨A4, c4, rfl, _, _⟩ := own_form ho
      obtain ⟨fp, om, nd, lo⟩ := mem_ints ho (by unfold maxLen; omega)
      exact ⟨A4, _, c4, fp, rfl, om, nd, lo, hb⟩

set_option maxRecDepth 100000 in
set_option maxHeartbeats 2000000 in
theorem lassoAt_spec (a b : List (List Int)) (n : Int) (A1 : Option Addr) (n1 c1 : Nat) (A2 : Option Addr) (n2 c2 : Nat) (w : World) (h1 : Mem.rd w w.heap.size [.slice A1 n1 c1] a) (h2 : Mem.rd w w.heap.size [.slice A2 n2 c2] b) (b1 : n1 ≤ 1048576) (b2 : n2 ≤ 1048576) (wn : n < 9223372036854775808)
    (s1 : ∀ k, k < a.length → (el a k).length ≤ 1048576) (s2 : ∀ k, k < b.length → (el b k).length ≤ 1048576) :
    Calls Try.prog 44 #[.slice A1 n1 c1, .slice A2 n2 c2, .int .i64 n] w (GivesL w (lassoL a b n)) := by
  obtain ⟨F, hF⟩ : ∃ F, F = lassoL a b n := ⟨_, rfl⟩
  rw [← hF]
  have LP := Lib.hid (l3Loop_any a b A1 n1 c1 A2 n2 c2 w (rd_len h1) (rd_len h2) b1 b2)
  by_cases q : 0 ≤ n
  · cases hz : loopB a b
    · have E : Hid (F = []) := Lib.hid (by rw [hF]; unfold lassoL; rw [hz]; simp)
      have HZ := Lib.hid hz; clear hz hF
      go_enter Try.func44, Try.ntmps44
      go_wp2_with fail
      refine LP.out.mono ?_
      rintro e w2 ⟨rfl, rfl⟩
      rw [HZ.out]
      go_wp2
      go_ret
      rw [E.out]
      exact ⟨none, 0, 0, [], rfl, own_none _, List.nodup_nil, by simp, Below.refl _ _⟩
    · obtain ⟨hb, _⟩ := loop_parts hz
      obtain ⟨k, rfl⟩ : ∃ k : Nat, n = k := ⟨n.toNat, by omega⟩
      have E : Hid (F = atL a b k) := Lib.hid (by rw [hF]; unfold lassoL; rw [hz]; simp)
      have HL := Lib.hid (atL_len (n := k) hb s1 s2)
      have AC := Lib.hid (l3At_any a b k A1 n1 c1 A2 n2 c2 w h1 h2 b1 b2 (by rw [← rd_len h2]; exact hb) (by omega))
      have HZ := Lib.hid hz; clear hz hF hb s1 s2 wn
      go_enter Try.func44, Try.ntmps44
      go_wp2_with fail
      refine LP.out.mono ?_
      rintro e w2 ⟨rfl, rfl⟩
      rw [HZ.out]
      go_wp2_with fail
      refine AC.out.mono ?_
      rintro e w3 ⟨A3, m, c3, rfl, r3, rfl⟩
      have hm : m ≤ 1048576 := Nat.le_trans (Nat.le_of_eq (rd_len r3).symm) HL.out
      have CC := Lib.hid (l3Copy_any A3 m c3 _ w r3 hm)
      clear hm
      go_wp2_with fail
      refine CC.out.mono ?_
      rintro e w4 ⟨A4, n4, c4, fp, rfl, o4, nd, lo, b4⟩
      go_wp2
      go_ret
      rw [E.out]
      exact ⟨A4, n4, c4, fp, rfl, o4, nd, lo, b4⟩
  · have E : Hid (F = []) := Lib.hid (by rw [hF]; unfold lassoL; rw [decide_eq_false q]; rfl)
    have q' : n < 0 := by omega
    clear hF
    go_enter Try.func44, Try.ntmps44
    go_wp2
    go_ret
    rw [E.out]
    exact ⟨none, 0, 0, [], rfl, own_none _, List.nodup_nil, by simp, Below.refl _ _⟩

set_option maxRecDepth 100000 in
set_option maxHeartbeats 2000000 in
theorem lassoAt_impl (a b : List (List Int)) (n : Int) (A1 : Option Addr) (n1 c1 : Nat) (A2 : Option Addr) (n2 c2 : Nat) (w : World) (h1 : Mem.rd w w.heap.size [.slice A1 n1 c1] a) (h2 : Mem.rd w w.heap.size [.slice A2 n2 c2] b) (b1 : n1 ≤ 1048576) (b2 : n2 ≤ 1048576) (wn : n < 9223372036854775808)
    (s1 : ∀ k, k < a.length → (el a k).length ≤ 1048576) (s2 : ∀ k, k < b.length → (el b k).length ≤ 1048576) :
    Calls Try.prog 46 #[.slice A1 n1 c1, .slice A2 n2 c2, .int .i64 n] w (GivesL w (lassoL a b n)) := by
  obtain ⟨F, hF⟩ : ∃ F, F = lassoL a b n := ⟨_, rfl⟩
  rw [← hF]
  have BX := Lib.hid (loop_box (w := w) (v1 := .slice A1 n1 c1) (v2 := .slice A2 n2 c2))
  have LP := Lib.hid (fun w => loopOne_any a b A1 n1 c1 A2 n2 c2 w (rd_len h1) (rd_len h2) b1 b2)
  by_cases q : 0 ≤ n
  · cases hz : loopB a b
    · have E : Hid (F = []) := Lib.hid (by rw [hF]; unfold lassoL; rw [hz]; simp)
      have HZ := Lib.hid hz; clear hz hF
      go_enter Try.func46, Try.ntmps46
      go_wp2_with fail
      refine (LP.out _).mono ?_
      rintro e w2 ⟨rfl, b2⟩
      rw [HZ.out]
      go_wp2
      go_ret
      rw [E.out]
      exact ⟨none, 0, 0, [], rfl, own_none _, List.nodup_nil, by simp, below_call b2⟩
    · obtain ⟨hb, _⟩ := loop_parts hz
      obtain ⟨k, rfl⟩ : ∃ k : Nat, n = k := ⟨n.toNat, by omega⟩
      have E : Hid (F = atL a b k) := Lib.hid (by rw [hF]; unfold lassoL; rw [hz]; simp)
      have HL := Lib.hid (atL_len (n := k) hb s1 s2)
      have hb2 : 0 < n2 := by rw [← rd_len h2]; exact hb
      have AC := Lib.hid (fun w (h1 : Mem.rd w w.heap.size [.slice A1 n1 c1] a) h2 => loopAt_any a b k A1 n1 c1 A2 n2 c2 w h1 h2 b1 b2 hb2 (by omega))
      have HZ := Lib.hid hz; clear hz hF hb s1 s2 wn
      go_enter Try.func46, Try.ntmps46
      go_wp2_with fail
      refine (LP.out _).mono ?_
      rintro e w2 ⟨rfl, b2⟩
      rw [HZ.out]
      obtain ⟨B2, x0, x1⟩ := BX.out _ b2
      go_wp2_with fail
      refine (AC.out _ (Mem.rd_on h1 B2) (Mem.rd_on h2 B2)).mono ?_
      rintro e w3 ⟨A3, m, c3, rfl, r3, b3⟩
      have hm : m ≤ 1048576 := Nat.le_trans (Nat.le_of_eq (rd_len r3).symm) HL.out
      have B3 := B2.trans (b3.mono B2.size)
      have CC := Lib.hid (clone_int A3 m c3 _ w3 (rd_ints.1 (Mem.rd_on r3 b3)).2 hm)
      have hL := Lib.hid (Nat.le_trans HL.out (show 1048576 ≤ maxLen by unfold maxLen; omega))
      clear hm
      go_wp2_with fail
      refine CC.out.mono ?_
      rintro e w4 h4
      obtain ⟨A4, n4, c4, fp, rfl, o4, nd, lo, b4⟩ := givesL_of h4 hL.out
      go_wp2
      go_ret
      rw [E.out]
      exact ⟨A4, n4, c4, fp, rfl, o4, nd, fun x hx => Nat.le_trans B3.size (lo x hx), B3.trans (b4.mono B3.size)⟩
  · have E : Hid (F = []) := Lib.hid (by rw [hF]; unfold lassoL; rw [decide_eq_false q]; rfl)
    have q' : n < 0 := by omega
    clear hF
    go_enter Try.func46, Try.ntmps46
    go_wp2
    go_ret
    rw [E.out]
    exact ⟨none, 0, 0, [], rfl, own_none _, List.nodup_nil, by simp, below_alloc _ _⟩
end Go.Proofs.Ythplpddddaooiaa
