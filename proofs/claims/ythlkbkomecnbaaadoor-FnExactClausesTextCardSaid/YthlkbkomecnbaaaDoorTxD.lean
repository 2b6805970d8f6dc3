/- Numbers as text, of the model; texts as lists of bytes. -/
import Derived.Test.YthlkbkomecnbaaaDoorGen
import Derived.Lib.ItoaLen
import Derived.Lib.ItoaNum
import Derived.Lib.Slices
import Derived.Laws.IdiomStrings
import Derived.OwnWalk
import Derived.Deep.RegionLaw
namespace Go.Proofs.YthlkbkomecnbaaaDoor
open Go.RowKit
set_option maxRecDepth 100000

/-- A text of bytes. -/
def tB (l : List UInt8) : ByteArray := ⟨l.toArray⟩
theorem tB_app (a b : List UInt8) : tB a ++ tB b = tB (a ++ b) := by
  unfold tB
  apply ByteArray.ext
  rw [ByteArray.data_append]
  simp
theorem tB_size (a : List UInt8) : (tB a).size = a.length := by show a.toArray.size = _; simp
theorem str_ne (F : ByteArray) : (F != F) = false := by
  unfold bne
  have : (F == F) = true := by
    first
      | exact beq_self_eq_true F
      | (show (F.data == F.data) = true; simp)
  rw [this]; rfl
/-- The call gives a text. -/
def GivesS (w : World) (b : ByteArray) (e : Ending) (w' : World) : Prop := e = .returned (.string b) ∧ Below w.heap.size w w'
theorem dec_more {r : Nat} (h : ¬ r < 10) (acc : List UInt8) : Lib.decDigits r ++ acc = Lib.decDigits (r / 10) ++ UInt8.ofNat (48 + r % 10) :: acc := by
  rw [Lib.decDigits.eq_1 r, dif_neg h, List.append_assoc]
  rfl

theorem dec_len {n : Nat} (hn : n ≤ 1000000) : (Lib.decDigits n).length ≤ 21 := by
  have h := Lib.itoa_length_le (n : Int) (by omega) (by omega)
  unfold Lib.itoa at h
  rw [if_neg (by omega), Int.toNat_natCast] at h
  exact h
/-- A byte of the call's own as a text. -/
theorem conv_one (w : World) (q : Nat) (hq : q < 256) : (convert 37 9 (.slice (some ⟨w.heap.size, 0, none⟩) 1 1)).run Tryd.prog (w.alloc (.cells #[.int .u8 (q : Int)] 5)) = .ok (.string (tB [UInt8.ofNat q])) (w.alloc (.cells #[.int .u8 (q : Int)] 5)) := by
  have hcv := run_convert_bytes_back (P := Tryd.prog) (w.alloc (.cells #[.int .u8 (q : Int)] 5)) 37 9 5 ⟨w.heap.size, 0, none⟩ 1 [UInt8.ofNat q] Tryd.underlying37 Tryd.underlying5 Tryd.underlying9 (fun j hj => by
    have : j = 0 := by simp at hj; exact hj
    subst this
    have := (ci_blk w #[.int .u8 (q : Int)] 5).cell 0
    rw [add_zero']
    refine this.trans ?_
    simp
    omega)
  exact hcv

set_option maxHeartbeats 4000000 in
theorem l40DecN_any (n : Nat) (hn : n ≤ 1000000) (w : World) : Calls Tryd.prog 11 #[.int .i64 n] w (GivesS w (tB (Lib.decDigits n))) := by
  have h1 : ¬ ((n : Int) < -9223372036854775807) := by omega
  have h2 : ¬ ((n : Int) < 0) := by omega
  go_enter Tryd.func11, Tryd.ntmps11
  go_wp2
  go_loopg [0, 3] n (fun m t0 t3 wr => ∃ acc : List UInt8, m ≤ n ∧ t0 = .int .i64 (m : Int) ∧ t3 = .string (tB acc) ∧ Hid (Lib.decDigits m ++ acc = Lib.decDigits n) ∧ Below w.heap.size w wr)
  case atStart => exact ⟨[], Nat.le_refl _, rfl, rfl, Lib.hid (by simp), Below.refl _ _⟩
  case round =>
    obtain ⟨acc, hrn, rfl, rfl, HD, hb⟩ := hrel
    have hal : acc.length ≤ 21 := by
      have h1 := congrArg List.length HD.out
      have h2 := dec_len hn
      rw [List.length_append] at h1
      omega
    by_cases h9 : gk < 10
    · have h3 : ¬ ((9 : Int) < (gk : Int)) := by omega
      have w1 : IntKind.i64.wrap (48 + (gk : Int)) = ((48 + gk : Nat) : Int) := by rw [IntWalk.i64_in _ (by omega)]; omega
      have w2 : IntKind.u8.wrap ((48 + gk : Nat) : Int) = ((48 + gk : Nat) : Int) := by rw [IntKind.wrap_u8]; omega
      have hcv := conv_one wr (48 + gk) (by omega)
      have EE : Hid (tB [UInt8.ofNat (48 + gk)] ++ tB acc = tB (Lib.decDigits n)) := Lib.hid (by rw [tB_app, ← HD.out, Lib.decDigits_one h9])
      obtain ⟨q, hq⟩ : ∃ q : Nat, q = 48 + gk := ⟨_, rfl⟩
      rw [← hq] at w1 w2 hcv EE
      have q1 : ¬ 9223372036854775807 < (tB [UInt8.ofNat q]).size + (tB acc).size := by rw [tB_size, tB_size]; simp; omega
      clear hq HD
      go_wp2
      go_ret
      exact ⟨congrArg (fun x => Ending.returned (.string x)) EE.out, hb.alloc hb.size _⟩
    · have h3 : (9 : Int) < (gk : Int) := by omega
      obtain ⟨d, hd⟩ : ∃ d : Nat, d = gk % 10 := ⟨_, rfl⟩
      obtain ⟨q, hq⟩ : ∃ q : Nat, q = gk / 10 := ⟨_, rfl⟩
      have e1 : (gk : Int).tmod 10 = (d : Int) := by rw [Int.tmod_eq_emod_of_nonneg (by omega)]; omega
      have e2 : (gk : Int).tdiv 10 = (q : Int) := by rw [Int.tdiv_eq_ediv_of_nonneg (by omega)]; omega
      have hd9 : d < 10 := by omega
      have hqk : q < gk := by omega
      have w1 : IntKind.i64.wrap (48 + (d : Int)) = ((48 + d : Nat) : Int) := by rw [IntWalk.i64_in _ (by omega)]; omega
      have w2 : IntKind.u8.wrap ((48 + d : Nat) : Int) = ((48 + d : Nat) : Int) := by rw [IntKind.wrap_u8]; omega
      have w3 : IntKind.i64.wrap (q : Int) = (q : Int) := IntWalk.i64_in _ (by omega)
      have hcv := conv_one wr (48 + d) (by omega)
      have ED : Hid (Lib.decDigits q ++ UInt8.ofNat (48 + d) :: acc = Lib.decDigits n) := Lib.hid (by rw [← HD.out, dec_more h9, hq, hd])
      have EE : Hid (tB [UInt8.ofNat (48 + d)] ++ tB acc = tB (UInt8.ofNat (48 + d) :: acc)) := Lib.hid (tB_app _ _)
      obtain ⟨cc, hcc⟩ : ∃ cc : Nat, cc = 48 + d := ⟨_, rfl⟩
      rw [← hcc] at w1 w2 hcv EE ED
      have q1 : ¬ 9223372036854775807 < (tB [UInt8.ofNat cc]).size + (tB acc).size := by rw [tB_size, tB_size]; simp; omega
      clear hcc hd hq HD h9
      go_wp2
      go_roundg q
      case measure => exact hqk
      case rel => exact ⟨UInt8.ofNat cc :: acc, by omega, rfl, congrArg Value.string EE.out, ED, hb.alloc hb.size _⟩

set_option maxHeartbeats 2000000 in
theorem l40Dec_any (n : Int) (h0 : -1000000 ≤ n) (h1 : n ≤ 1000000) (w : World) : Calls Tryd.prog 11 #[.int .i64 n] w (GivesS w (tB (Lib.itoa n))) := by
  by_cases g : n < 0
  · have e : Lib.itoa n = 45 :: Lib.decDigits n.natAbs := by unfold Lib.itoa; rw [if_pos g]
    rw [e]
    have DN := Lib.hid (fun W => l40DecN_any n.natAbs (by omega) W)
    obtain ⟨q, rfl⟩ : ∃ q : Nat, n = -(q : Int) := ⟨n.natAbs, by omega⟩
    have eq : (-(q : Int)).natAbs = q := by omega
    rw [eq] at DN ⊢
    have hq : (q : Int) ≤ 1000000 := by omega
    have h3 : ¬ (-(q : Int) < -9223372036854775807) := by omega
    have E := Lib.hid (tB_app [45] (Lib.decDigits q))
    have hl := dec_len (n := q) (by omega)
    have q1 : ¬ 9223372036854775807 < (tB [45]).size + (tB (Lib.decDigits q)).size := by rw [tB_size, tB_size]; simp; omega
    have q2 : ¬ 9223372036854775807 < 1 + (tB (Lib.decDigits q)).size := by rw [tB_size]; omega
    generalize Lib.decDigits q = ds at *
    clear e eq
    go_enter Tryd.func11, Tryd.ntmps11
    go_wp2_with (first | (go_at_call 11; refine (DN.out _).mono ?_; rintro e w3 ⟨rfl, b3⟩))
    go_ret
    exact ⟨congrArg (fun x => Ending.returned (.string x)) E.out, b3⟩
  · have e : Lib.itoa n = Lib.decDigits n.toNat := by unfold Lib.itoa; rw [if_neg g]
    obtain ⟨q, rfl⟩ : ∃ q : Nat, n = (q : Int) := ⟨n.toNat, by omega⟩
    rw [e, Int.toNat_natCast]
    exact l40DecN_any q (by omega) w
end Go.Proofs.YthlkbkomecnbaaaDoor
