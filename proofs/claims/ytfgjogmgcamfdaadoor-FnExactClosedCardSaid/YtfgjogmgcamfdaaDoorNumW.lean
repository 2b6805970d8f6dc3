/- The number of a state, of the program and of the model. -/
import Derived.Test.YtfgjogmgcamfdaaDoorSet
import Derived.Test.YtfgjogmgcamfdaaDoorInR
import Derived.Deep.RegionHeld3
namespace Go.Proofs.YtfgjogmgcamfdaaDoor
open Go.RowKit

set_option maxRecDepth 100000 in
set_option maxHeartbeats 2000000 in
theorem number_any (s : Sy) (st : List Int) (A1 : Option Addr) (n1 c1 : Nat) (A2 : Option Addr) (n2 c2 : Nat) (A3 : Option Addr) (n3 c3 : Nat) (w : World) (h1 : Mem.rd w w.heap.size [.slice A1 n1 c1] s.vars) (h3 : Mem.rd w w.heap.size [.slice A3 n3 c3] st) (ok : SysOk s) (hs : hasB s.vars st = true) :
    Calls Tryd.prog 104 #[.agg #[.slice A1 n1 c1, .slice A2 n2 c2], .slice A3 n3 c3] w (GivesInt w (numL s st)) := by
  have m1 := rd_max h1
  unfold maxLen at m1
  have L1 := rd_len h1
  have L3 := rd_len h3
  have lh := has_len hs
  obtain rfl : n3 = n1 := by omega
  have BX := Lib.hid (sy_box (w := w) (v1 := .slice A1 n3 c1) (v2 := .slice A2 n2 c2))
  have NB := Lib.hid (fun k (hk : k < n3) => (⟨num_sys ok hs (k := k) (by omega), num_sys ok hs (k := k + 1) (by omega), varB_iff.1 (ok.vars k (by omega)), has_at hs k (by omega)⟩ : _ ∧ _ ∧ _ ∧ _))
  have E : Hid (numL s st = numTo s.vars st n3) := Lib.hid (by unfold numL; rw [L1])
  have h3' := (rd_ints.1 h3).2
  clear L1 L3 lh
  go_enter Tryd.func104, Tryd.ntmps104
  go_wp2
  go_loopg [5, 6, 11] n3 (fun m x i6 i wr => ∃ k : Nat, k + m = n3 ∧ i = .int .i64 k ∧ x = .int .i64 (numTo s.vars st k) ∧ Below w.heap.size w wr)
  case atStart => exact ⟨0, by omega, rfl, rfl, below_alloc _ _⟩
  case round =>
    obtain ⟨k, hk, rfl, rfl, hb⟩ := hrel
    by_cases hlt : k < n3
    · obtain ⟨ad, rfl, hbl, d0, d1, d2⟩ := vr_at (Mem.rd_below h1 hb) hlt
      obtain ⟨ad', rfl, hbl', d3⟩ := (h3'.below hb).int hlt
      obtain ⟨b0, b1, b2, b3⟩ := NB.out k hlt
      have HO := Lib.hid (fun W => span_any (el s.vars k) W (by omega) (by omega) (by omega) (by omega))
      unfold Vr.v at HO
      have d3' := fun o => cell_alloc (k := k) (Nat.lt_of_lt_of_le hbl' hb.size) d3 o
      have HP : Hid (numTo s.vars st (k + 1) = numTo s.vars st k * ((el s.vars k).high - (el s.vars k).low + 1) + ix st k - (el s.vars k).low) := Lib.hid rfl
      rw [HP.out] at b1
      have wv1 : IntKind.i64.wrap (numTo s.vars st k * ((el s.vars k).high - (el s.vars k).low + 1)) = numTo s.vars st k * ((el s.vars k).high - (el s.vars k).low + 1) := IntWalk.i64_in _ (by omega)
      have wv2 : IntKind.i64.wrap (numTo s.vars st k * ((el s.vars k).high - (el s.vars k).low + 1) + ix st k) = numTo s.vars st k * ((el s.vars k).high - (el s.vars k).low + 1) + ix st k := IntWalk.i64_in _ (by omega)
      have wv3 : IntKind.i64.wrap (numTo s.vars st k * ((el s.vars k).high - (el s.vars k).low + 1) + ix st k - (el s.vars k).low) = numTo s.vars st k * ((el s.vars k).high - (el s.vars k).low + 1) + ix st k - (el s.vars k).low := IntWalk.i64_in _ (by omega)
      clear b0 b1 b2 b3
      go_wp2
      go_region_held3 (fun w' => w'.cell? ⟨wr.heap.size, 0, none⟩ = some (.int .i64 (el s.vars k).low) ∧ w'.cell? ⟨wr.heap.size, 1, none⟩ = some (.int .i64 (el s.vars k).high) ∧ w'.cell? ⟨wr.heap.size, 2, none⟩ = some (.int .i64 (el s.vars k).first) ∧ w'.cell? (ad'.add k) = some (.int .i64 (ix st k)))
        (first | go_keep | (go_split_ands; refine ⟨by simp [go_sem], by simp [go_sem], by simp [go_sem], ?_⟩; exact d3' _))
        ((go_at_call 82; refine (HO.out _).mono ?_; rintro e w4 ⟨rfl, b4⟩
          have p0 := cell_below b4 (p := ⟨wr.heap.size, 0, none⟩) (by show wr.heap.size < (wr.alloc _).heap.size; rw [World.size_alloc]; omega) (by simp [go_sem]; rfl)
          have p1 := cell_below b4 (p := ⟨wr.heap.size, 1, none⟩) (by show wr.heap.size < (wr.alloc _).heap.size; rw [World.size_alloc]; omega) (by simp [go_sem]; rfl)
          have p2 := cell_below b4 (p := ⟨wr.heap.size, 2, none⟩) (by show wr.heap.size < (wr.alloc _).heap.size; rw [World.size_alloc]; omega) (by simp [go_sem]; rfl)
          have p3 := cell_below b4 (p := ad'.add k) (by rw [add_block]; show ad'.block < (wr.alloc _).heap.size; rw [World.size_alloc]; have := hb.size; omega) (d3' _)))
      have b5 := below_call (w := wr) (o := .cells #[.int .i64 (el s.vars k).low, .int .i64 (el s.vars k).high, .int .i64 (el s.vars k).first] 98) (w' := w4) ⟨b4.os, b4.tape, b4.output, b4.size, b4.block⟩
      go_wp2
      go_roundg (n3 - (k + 1))
      case measure => omega
      case rel => exact ⟨k + 1, by omega, by go_num, by rw [HP.out], hb.trans (b5.mono hb.size)⟩
    · obtain rfl : k = n3 := by omega
      go_wp2
      go_ret
      exact ⟨(congrArg (fun b => Ending.returned (.int .i64 b)) E.out).symm, hb⟩

set_option maxRecDepth 100000 in
set_option maxHeartbeats 2000000 in
theorem l4Number_any (s : Sy) (st : List Int) (A1 : Option Addr) (n1 c1 : Nat) (A2 : Option Addr) (n2 c2 : Nat) (A3 : Option Addr) (n3 c3 : Nat) (w : World) (h1 : Mem.rd w w.heap.size [.slice A1 n1 c1] s.vars) (h3 : Mem.rd w w.heap.size [.slice A3 n3 c3] st) (ok : SysOk s) (hs : hasB s.vars st = true) :
    Calls Tryd.prog 51 #[.agg #[.slice A1 n1 c1, .slice A2 n2 c2], .slice A3 n3 c3] w (GivesInt w (numL s st)) := by
  have m1 := rd_max h1
  unfold maxLen at m1
  have L1 := rd_len h1
  have L3 := rd_len h3
  have lh := has_len hs
  obtain rfl : n3 = n1 := by omega
  have BX := Lib.hid (sy_box (w := w) (v1 := .slice A1 n3 c1) (v2 := .slice A2 n2 c2))
  have NB := Lib.hid (fun k (hk : k < n3) => (⟨num_sys ok hs (k := k) (by omega), num_sys ok hs (k := k + 1) (by omega), varB_iff.1 (ok.vars k (by omega)), has_at hs k (by omega)⟩ : _ ∧ _ ∧ _ ∧ _))
  have E : Hid (numL s st = numTo s.vars st n3) := Lib.hid (by unfold numL; rw [L1])
  have h3' := (rd_ints.1 h3).2
  clear L1 L3 lh
  go_enter Tryd.func51, Tryd.ntmps51
  go_wp2
  go_loopg [5, 6] n3 (fun m x i wr => ∃ k : Nat, k + m = n3 ∧ i = .int .i64 k ∧ x = .int .i64 (numTo s.vars st k) ∧ Below (w.alloc (.cells #[.slice A1 n3 c1, .slice A2 n2 c2] 34)).heap.size (w.alloc (.cells #[.slice A1 n3 c1, .slice A2 n2 c2] 34)) wr)
  case atStart => exact ⟨0, by omega, rfl, rfl, Below.refl _ _⟩
  case round =>
    obtain ⟨k, hk, rfl, rfl, hb⟩ := hrel
    obtain ⟨B, x0, x1⟩ := BX.out _ hb
    by_cases hlt : k < n3
    · obtain ⟨ad, rfl, hbl, d0, d1, d2⟩ := vr_at (Mem.rd_below h1 B) hlt
      obtain ⟨ad', rfl, hbl', d3⟩ := (h3'.below B).int hlt
      obtain ⟨b0, b1, b2, b3⟩ := NB.out k hlt
      have HP : Hid (numTo s.vars st (k + 1) = numTo s.vars st k * ((el s.vars k).high - (el s.vars k).low + 1) + ix st k - (el s.vars k).low) := Lib.hid rfl
      rw [HP.out] at b1
      have wa1 : IntKind.i64.wrap ((el s.vars k).high - (el s.vars k).low) = (el s.vars k).high - (el s.vars k).low := IntWalk.i64_in _ (by omega)
      have wa2 : IntKind.i64.wrap ((el s.vars k).high - (el s.vars k).low + 1) = (el s.vars k).high - (el s.vars k).low + 1 := IntWalk.i64_in _ (by omega)
      have wv1 : IntKind.i64.wrap (numTo s.vars st k * ((el s.vars k).high - (el s.vars k).low + 1)) = numTo s.vars st k * ((el s.vars k).high - (el s.vars k).low + 1) := IntWalk.i64_in _ (by omega)
      have wv2 : IntKind.i64.wrap (numTo s.vars st k * ((el s.vars k).high - (el s.vars k).low + 1) + ix st k) = numTo s.vars st k * ((el s.vars k).high - (el s.vars k).low + 1) + ix st k := IntWalk.i64_in _ (by omega)
      have wv3 : IntKind.i64.wrap (numTo s.vars st k * ((el s.vars k).high - (el s.vars k).low + 1) + ix st k - (el s.vars k).low) = numTo s.vars st k * ((el s.vars k).high - (el s.vars k).low + 1) + ix st k - (el s.vars k).low := IntWalk.i64_in _ (by omega)
      clear b0 b1 b2 b3
      go_wp2
      go_quiet (fail)
      go_wp2
      go_roundg (n3 - (k + 1))
      case measure => omega
      case rel => exact ⟨k + 1, by omega, by go_num, by rw [HP.out], hb.trans ⟨rfl, rfl, rfl, Nat.le_refl _, fun _ _ => rfl⟩⟩
    · obtain rfl : k = n3 := by omega
      go_wp2
      go_ret
      exact ⟨(congrArg (fun b => Ending.returned (.int .i64 b)) E.out).symm, B⟩
end Go.Proofs.YtfgjogmgcamfdaaDoor
