/- The numbers of the states that come behind a state: plain sets. -/
import Derived.Test.YtfgjogmgcamfdaaGreatDoorSet
import Derived.Test.YtfgjogmgcamfdaaGreatDoorInR
import Derived.Deep.RegionHeld3
import Derived.Test.YtfgjogmgcamfdaaGreatDoorPut
import Derived.Test.YtfgjogmgcamfdaaGreatDoorRep
import Derived.Test.YtfgjogmgcamfdaaGreatDoorUseIm
import Derived.Test.YtfgjogmgcamfdaaGreatDoorWord
namespace Go.Proofs.YtfgjogmgcamfdaaGreatDoor
open Go.RowKit

set_option maxRecDepth 100000 in
set_option maxHeartbeats 2000000 in
theorem number_any (s : Sy) (st : List Int) (A1 : Option Addr) (n1 c1 : Nat) (A2 : Option Addr) (n2 c2 : Nat) (A3 : Option Addr) (n3 c3 : Nat) (w : World) (h1 : Mem.rd w w.heap.size [.slice A1 n1 c1] s.vars) (h3 : Mem.rd w w.heap.size [.slice A3 n3 c3] st) (ok : SysOk s) (hs : hasB s.vars st = true) :
    Calls Tryz.prog 103 #[.agg #[.slice A1 n1 c1, .slice A2 n2 c2], .slice A3 n3 c3] w (GivesInt w (numL s st)) := by
  have m1 := rd_max h1
  unfold maxLen at m1
  have L1 := rd_len h1
  have L3 := rd_len h3
  have lh := has_len hs
  obtain rfl : n3 = n1 := by omega
  have BX := Lib.hid (sy_box (w := w) (v1 := .slice A1 n3 c1) (v2 := .slice A2 n2 c2))
  have NB := Lib.hid (fun k (hk : k < n3) => (⟨num_sys ok hs (k := k) (by omega), num_sys ok hs (k := k + 1) (by omega), varB_iff.1 (ok.vars k (by omega)), has_at hs k (by omega)⟩ : _ ∧ _ ∧ _ ∧ _))
  have E : Hid (numL s st = numTo s.vars st n3) := Lib.hid (by unfold numL; rw [L1])
  have h3' := (rd_ints.1 h3).2
  clear L1 L3 lh
  go_enter Tryz.func103, Tryz.ntmps103
  go_wp2
  go_loopg [5, 6, 11] n3 (fun m x i6 i wr => ∃ k : Nat, k + m = n3 ∧ i = .int .i64 k ∧ x = .int .i64 (numTo s.vars st k) ∧ Below w.heap.size w wr)
  case atStart => exact ⟨0, by omega, rfl, rfl, below_alloc _ _⟩
  case round =>
    obtain ⟨k, hk, rfl, rfl, hb⟩ := hrel
    by_cases hlt : k < n3
    · obtain ⟨ad, rfl, hbl, d0, d1, d2⟩ := vr_at (Mem.rd_below h1 hb) hlt
      obtain ⟨ad', rfl, hbl', d3⟩ := (h3'.below hb).int hlt
      obtain ⟨b0, b1, b2, b3⟩ := NB.out k hlt
      have HO := Lib.hid (fun W => span_any (el s.vars k) W (by omega) (by omega) (by omega) (by omega))
      unfold Vr.v at HO
      have d3' := fun o => cell_alloc (k := k) (Nat.lt_of_lt_of_le hbl' hb.size) d3 o
      have HP : Hid (numTo s.vars st (k + 1) = numTo s.vars st k * ((el s.vars k).high - (el s.vars k).low + 1) + ix st k - (el s.vars k).low) := Lib.hid rfl
      rw [HP.out] at b1
      have wv1 : IntKind.i64.wrap (numTo s.vars st k * ((el s.vars k).high - (el s.vars k).low + 1)) = numTo s.vars st k * ((el s.vars k).high - (el s.vars k).low + 1) := IntWalk.i64_in _ (by omega)
      have wv2 : IntKind.i64.wrap (numTo s.vars st k * ((el s.vars k).high - (el s.vars k).low + 1) + ix st k) = numTo s.vars st k * ((el s.vars k).high - (el s.vars k).low + 1) + ix st k := IntWalk.i64_in _ (by omega)
      have wv3 : IntKind.i64.wrap (numTo s.vars st k * ((el s.vars k).high - (el s.vars k).low + 1) + ix st k - (el s.vars k).low) = numTo s.vars st k * ((el s.vars k).high - (el s.vars k).low + 1) + ix st k - (el s.vars k).low := IntWalk.i64_in _ (by omega)
      clear b0 b1 b2 b3
      go_wp2
      go_region_held3 (fun w' => w'.cell? ⟨wr.heap.size, 0, none⟩ = some (.int .i64 (el s.vars k).low) ∧ w'.cell? ⟨wr.heap.size, 1, none⟩ = some (.int .i64 (el s.vars k).high) ∧ w'.cell? ⟨wr.heap.size, 2, none⟩ = some (.int .i64 (el s.vars k).first) ∧ w'.cell? (ad'.add k) = some (.int .i64 (ix st k)))
        (first | go_keep | (go_split_ands; refine ⟨by simp [go_sem], by simp [go_sem], by simp [go_sem], ?_⟩; exact d3' _))
        ((go_at_call 110; refine (HO.out _).mono ?_; rintro e w4 ⟨rfl, b4⟩
          have p0 := cell_below b4 (p := ⟨wr.heap.size, 0, none⟩) (by show wr.heap.size < (wr.alloc _).heap.size; rw [World.size_alloc]; omega) (by simp [go_sem]; rfl)
          have p1 := cell_below b4 (p := ⟨wr.heap.size, 1, none⟩) (by show wr.heap.size < (wr.alloc _).heap.size; rw [World.size_alloc]; omega) (by simp [go_sem]; rfl)
          have p2 := cell_below b4 (p := ⟨wr.heap.size, 2, none⟩) (by show wr.heap.size < (wr.alloc _).heap.size; rw [World.size_alloc]; omega) (by simp [go_sem]; rfl)
          have p3 := cell_below b4 (p := ad'.add k) (by rw [add_block]; show ad'.block < (wr.alloc _).heap.size; rw [World.size_alloc]; have := hb.size; omega) (d3' _)))
      have b5 := below_call (w := wr) (o := .cells #[.int .i64 (el s.vars k).low, .int .i64 (el s.vars k).high, .int .i64 (el s.vars k).first] 105) (w' := w4) ⟨b4.os, b4.tape, b4.output, b4.size, b4.block⟩
      go_wp2
      go_roundg (n3 - (k + 1))
      case measure => omega
      case rel => exact ⟨k + 1, by omega, by go_num, by rw [HP.out], hb.trans (b5.mono hb.size)⟩
    · obtain rfl : k = n3 := by omega
      go_wp2
      go_ret
      exact ⟨(congrArg (fun b => Ending.returned (.int .i64 b)) E.out).symm, hb⟩

set_option maxRecDepth 100000 in
set_option maxHeartbeats 2000000 in
theorem l4Number_any (s : Sy) (st : List Int) (A1 : Option Addr) (n1 c1 : Nat) (A2 : Option Addr) (n2 c2 : Nat) (A3 : Option Addr) (n3 c3 : Nat) (w : World) (h1 : Mem.rd w w.heap.size [.slice A1 n1 c1] s.vars) (h3 : Mem.rd w w.heap.size [.slice A3 n3 c3] st) (ok : SysOk s) (hs : hasB s.vars st = true) :
    Calls Tryz.prog 93 #[.agg #[.slice A1 n1 c1, .slice A2 n2 c2], .slice A3 n3 c3] w (GivesInt w (numL s st)) := by
  have m1 := rd_max h1
  unfold maxLen at m1
  have L1 := rd_len h1
  have L3 := rd_len h3
  have lh := has_len hs
  obtain rfl : n3 = n1 := by omega
  have BX := Lib.hid (sy_box (w := w) (v1 := .slice A1 n3 c1) (v2 := .slice A2 n2 c2))
  have NB := Lib.hid (fun k (hk : k < n3) => (⟨num_sys ok hs (k := k) (by omega), num_sys ok hs (k := k + 1) (by omega), varB_iff.1 (ok.vars k (by omega)), has_at hs k (by omega)⟩ : _ ∧ _ ∧ _ ∧ _))
  have E : Hid (numL s st = numTo s.vars st n3) := Lib.hid (by unfold numL; rw [L1])
  have h3' := (rd_ints.1 h3).2
  clear L1 L3 lh
  go_enter Tryz.func93, Tryz.ntmps93
  go_wp2
  go_loopg [5, 6] n3 (fun m x i wr => ∃ k : Nat, k + m = n3 ∧ i = .int .i64 k ∧ x = .int .i64 (numTo s.vars st k) ∧ Below (w.alloc (.cells #[.slice A1 n3 c1, .slice A2 n2 c2] 32)).heap.size (w.alloc (.cells #[.slice A1 n3 c1, .slice A2 n2 c2] 32)) wr)
  case atStart => exact ⟨0, by omega, rfl, rfl, Below.refl _ _⟩
  case round =>
    obtain ⟨k, hk, rfl, rfl, hb⟩ := hrel
    obtain ⟨B, x0, x1⟩ := BX.out _ hb
    by_cases hlt : k < n3
    · obtain ⟨ad, rfl, hbl, d0, d1, d2⟩ := vr_at (Mem.rd_below h1 B) hlt
      obtain ⟨ad', rfl, hbl', d3⟩ := (h3'.below B).int hlt
      obtain ⟨b0, b1, b2, b3⟩ := NB.out k hlt
      have HP : Hid (numTo s.vars st (k + 1) = numTo s.vars st k * ((el s.vars k).high - (el s.vars k).low + 1) + ix st k - (el s.vars k).low) := Lib.hid rfl
      rw [HP.out] at b1
      have wa1 : IntKind.i64.wrap ((el s.vars k).high - (el s.vars k).low) = (el s.vars k).high - (el s.vars k).low := IntWalk.i64_in _ (by omega)
      have wa2 : IntKind.i64.wrap ((el s.vars k).high - (el s.vars k).low + 1) = (el s.vars k).high - (el s.vars k).low + 1 := IntWalk.i64_in _ (by omega)
      have wv1 : IntKind.i64.wrap (numTo s.vars st k * ((el s.vars k).high - (el s.vars k).low + 1)) = numTo s.vars st k * ((el s.vars k).high - (el s.vars k).low + 1) := IntWalk.i64_in _ (by omega)
      have wv2 : IntKind.i64.wrap (numTo s.vars st k * ((el s.vars k).high - (el s.vars k).low + 1) + ix st k) = numTo s.vars st k * ((el s.vars k).high - (el s.vars k).low + 1) + ix st k := IntWalk.i64_in _ (by omega)
      have wv3 : IntKind.i64.wrap (numTo s.vars st k * ((el s.vars k).high - (el s.vars k).low + 1) + ix st k - (el s.vars k).low) = numTo s.vars st k * ((el s.vars k).high - (el s.vars k).low + 1) + ix st k - (el s.vars k).low := IntWalk.i64_in _ (by omega)
      clear b0 b1 b2 b3
      go_wp2
      go_quiet (fail)
      go_wp2
      go_roundg (n3 - (k + 1))
      case measure => omega
      case rel => exact ⟨k + 1, by omega, by go_num, by rw [HP.out], hb.trans ⟨rfl, rfl, rfl, Nat.le_refl _, fun _ _ => rfl⟩⟩
    · obtain rfl : k = n3 := by omega
      go_wp2
      go_ret
      exact ⟨(congrArg (fun b => Ending.returned (.int .i64 b)) E.out).symm, B⟩
end Go.Proofs.YtfgjogmgcamfdaaGreatDoor
namespace Go.Proofs.YtfgjogmgcamfdaaGreatDoor
open Go.RowKit

/-- The states behind a state by the first k rules, in order. -/
def nextL (s : Sy) (st : List Int) : Nat → List (List Int)
  | 0 => []
  | k + 1 => if useB s st k then putL (nextL s st k) (useL s st k) else nextL s st k
theorem nextL_yes {s : Sy} {st : List Int} {k : Nat} (h : useB s st k = true) : nextL s st (k + 1) = putL (nextL s st k) (useL s st k) := by
  show (if useB s st k then _ else _) = _
  rw [if_pos h]
theorem nextL_no {s : Sy} {st : List Int} {k : Nat} (h : useB s st k = false) : nextL s st (k + 1) = nextL s st k := by
  show (if useB s st k then _ else _) = _
  rw [if_neg (by simp [h])]
theorem nextL_len (s : Sy) (st : List Int) : ∀ k, (nextL s st k).length + 1 ≤ 2 ^ k
  | 0 => by simp [nextL]
  | k + 1 => by
    have := nextL_len s st k
    rw [Nat.pow_succ]
    cases h : useB s st k
    · rw [nextL_no h]; omega
    · rw [nextL_yes h]
      have := putL_len (nextL s st k) (useL s st k)
      omega
theorem nextL_mem {s : Sy} {st y : List Int} : ∀ {k : Nat}, y ∈ nextL s st k ↔ ∃ r, r < k ∧ useB s st r = true ∧ useL s st r = y
  | 0 => by simp [nextL]
  | k + 1 => by
    have ih := nextL_mem (s := s) (st := st) (y := y) (k := k)
    cases h : useB s st k
    · rw [nextL_no h, ih]
      constructor
      · rintro ⟨r, a, b, c⟩; exact ⟨r, by omega, b, c⟩
      · rintro ⟨r, a, b, c⟩
        have : r ≠ k := fun e => by subst e; rw [h] at b; cases b
        exact ⟨r, by omega, b, c⟩
    · rw [nextL_yes h, putL_mem, ih]
      constructor
      · rintro (e | ⟨r, a, b, c⟩)
        · exact ⟨k, by omega, h, e.symm⟩
        · exact ⟨r, by omega, b, c⟩
      · rintro ⟨r, a, b, c⟩
        by_cases e : r = k
        · subst e; exact .inl c.symm
        · exact .inr ⟨r, by omega, b, c⟩

set_option maxRecDepth 100000 in
set_option maxHeartbeats 4000000 in
theorem l2Next_any (s : Sy) (st : List Int) (A1 : Option Addr) (n1 c1 : Nat) (A2 : Option Addr) (n2 c2 : Nat) (A3 : Option Addr) (n3 c3 : Nat) (w : World) (h1 : Mem.rd w w.heap.size [.slice A1 n1 c1] s.vars) (h2 : Mem.rd w w.heap.size [.slice A2 n2 c2] s.rules) (h3 : Mem.rd w w.heap.size [.slice A3 n3 c3] st)
    (ok : SysOk s) (hin : hasB s.vars st = true) :
    Calls Tryz.prog 67 #[.agg #[.slice A1 n1 c1, .slice A2 n2 c2], .slice A3 n3 c3] w (GivesRL w (nextL s st s.rules.length)) := by
  have BX := Lib.hid (sy_box (w := w) (v1 := .slice A1 n1 c1) (v2 := .slice A2 n2 c2))
  have L2 := rd_len h2
  have hn2 : n2 ≤ 8 := by have := ok.most; omega
  have UC := Lib.hid (fun k (hk : k < n2) W (B : Below w.heap.size w W) => l2Use_any s st k A1 n1 c1 A2 n2 c2 A3 n3 c3 W (Mem.rd_on h1 B) (Mem.rd_on h2 B) (Mem.rd_on h3 B) ok hin (by omega))
  have HU := Lib.hid (fun k => show useB s st k = decide (0 < (useL s st k).length) from rfl)
  have HH := Lib.hid (fun k (h : useB s st k = true) => (use_has' (s := s) (st := st) (k := k) h))
  have HX := Lib.hid (fun k => nextL_len s st k)
  have HU5 : Hid (∀ k, (useL s st k).length ≤ 5) := Lib.hid fun k => by
    cases q : useB s st k
    · have := HU.out k
      rw [q] at this
      have := of_decide_eq_false this.symm
      omega
    · have := has_len (HH.out k q)
      have := ok.hi
      omega
  rw [L2]
  have HN2 := Lib.hid hn2
  clear L2 hn2 HH
  go_enter Tryz.func67, Tryz.ntmps67
  go_wp2
  go_loopg [5, 6, 7] n2 (fun m v i i7 wr => ∃ (k nn cc : Nat) (A : Option Addr), k + m = n2 ∧ i = .int .i64 k ∧ v = .slice A nn cc ∧ Hid (Mem.rd wr wr.heap.size [.slice A nn cc] (nextL s st k)) ∧ Below (w.alloc (.cells #[.slice A1 n1 c1, .slice A2 n2 c2] 32)).heap.size (w.alloc (.cells #[.slice A1 n1 c1, .slice A2 n2 c2] 32)) wr)
  case atStart => exact ⟨0, 0, 0, some ⟨w.heap.size + 1, 0, none⟩, by omega, rfl, by first | rfl | simp, Lib.hid ⟨_, 0, 0, rfl, Nat.zero_le _, rfl, fun j hj => absurd hj (by omega)⟩, below_alloc _ _⟩
  case round =>
    obtain ⟨k, nn, cc, A, hk, rfl, rfl, hr, hb⟩ := hrel
    obtain ⟨B, x0, x1⟩ := BX.out _ hb
    have hn8 : n2 ≤ 8 := HN2.out
    by_cases hlt : k < n2
    · have hnn : nn ≤ 1000000 := by
        have h1 := rd_len hr.out
        have h2 := HX.out k
        have h3 := Nat.pow_le_pow_right (n := 2) (by omega) (show k ≤ 8 by have := HN2.out; omega)
        omega
      have HNN := Lib.hid hnn
      clear hnn
      go_wp2_with fail
      refine (UC.out k hlt wr B).mono ?_
      rintro e w3 ⟨v3, rfl, o3, b3⟩
      obtain ⟨U, hU⟩ : ∃ U, U = useL s st k := ⟨_, rfl⟩
      have HU5k := HU5.out k
      have HUk := HU.out k
      have NY := nextL_yes (s := s) (st := st) (k := k)
      have NN := nextL_no (s := s) (st := st) (k := k)
      rw [← hU] at o3 HUk NY HU5k
      obtain ⟨ul, hul⟩ : ∃ ul, ul = U.length := ⟨_, rfl⟩
      rw [← hul] at o3 HUk HU5k
      obtain ⟨A5, c5, rfl, _, _⟩ := own_form o3
      obtain ⟨f5, om5, _, _⟩ := mem_ints (l := U) (by rw [← hul]; exact o3) (by rw [← hul]; unfold maxLen; omega)
      rw [← hul] at om5
      have R5 := Lib.hid (Mem.own_rd om5)
      have hb3 := hb.trans (b3.mono hb.size)
      obtain ⟨B3, y0, y1⟩ := BX.out _ hb3
      have R3 := Lib.hid (Mem.rd_on hr.out b3)
      clear o3 om5 hU hul x0 x1
      by_cases q : 0 < ul
      · have q' : (0 : Int) < (ul : Int) := by omega
        have NX := Lib.hid (NY (HUk.trans (decide_eq_true q)))
        have PC := Lib.hid (l2Put_any A nn cc A5 ul c5 (nextL s st k) U w3 R3.out R5.out HNN.out)
        clear HUk NY NN
        go_wp2_with fail
        refine (PC.out).mono ?_
        rintro e w4 ⟨A6, n6, c6, rfl, r6, b6⟩
        have R6 := Lib.hid r6
        have hb6 := Lib.hid (hb3.trans (b6.mono hb3.size))
        clear r6
        go_wp2
        go_roundg (n2 - (k + 1))
        case measure => omega
        case rel => exact ⟨k + 1, n6, c6, A6, by omega, by go_num, rfl, by rw [NX.out]; exact R6, hb6.out⟩
      · have q' : ¬ (0 : Int) < (ul : Int) := by omega
        have NX := Lib.hid (NN (HUk.trans (decide_eq_false q)))
        have HB3 := Lib.hid hb3
        clear HUk NY NN
        go_wp2
        go_roundg (n2 - (k + 1))
        case measure => omega
        case rel => exact ⟨k + 1, nn, cc, A, by omega, by go_num, rfl, by rw [NX.out]; exact R3, HB3.out⟩
    · obtain rfl : k = n2 := by omega
      go_wp2
      go_ret
      exact ⟨_, _, _, rfl, hr.out, B⟩
end Go.Proofs.YtfgjogmgcamfdaaGreatDoor
namespace Go.Proofs.YtfgjogmgcamfdaaGreatDoor
open Go.RowKit

/-- The numbers of the states behind a state by the first k rules. -/
def nxP (s : Sy) (st : List Int) : Nat → Nat → Bool
  | 0 => fun _ => false
  | k + 1 => if useB s st k then addP (nxP s st k) (numL s (useL s st k)).toNat else nxP s st k
theorem nxP_yes {s : Sy} {st : List Int} {k : Nat} (h : useB s st k = true) : nxP s st (k + 1) = addP (nxP s st k) (numL s (useL s st k)).toNat := by
  show (if useB s st k then _ else _) = _
  rw [if_pos h]
theorem nxP_no {s : Sy} {st : List Int} {k : Nat} (h : useB s st k = false) : nxP s st (k + 1) = nxP s st k := by
  show (if useB s st k then _ else _) = _
  rw [if_neg (by simp [h])]
theorem nxP_iff {s : Sy} {st : List Int} {x : Nat} : ∀ {k : Nat}, nxP s st k x = true ↔ ∃ r, r < k ∧ useB s st r = true ∧ (numL s (useL s st r)).toNat = x
  | 0 => by simp [nxP]
  | k + 1 => by
    have ih := nxP_iff (s := s) (st := st) (x := x) (k := k)
    cases h : useB s st k
    · rw [nxP_no h, ih]
      constructor
      · rintro ⟨r, a, b, c⟩; exact ⟨r, by omega, b, c⟩
      · rintro ⟨r, a, b, c⟩
        have : r ≠ k := fun e => by subst e; rw [h] at b; cases b
        exact ⟨r, by omega, b, c⟩
    · rw [nxP_yes h]
      unfold addP
      rw [Bool.or_eq_true, ih, decide_eq_true_eq]
      constructor
      · rintro (⟨r, a, b, c⟩ | e)
        · exact ⟨r, by omega, b, c⟩
        · exact ⟨k, by omega, h, e.symm⟩
      · rintro ⟨r, a, b, c⟩
        by_cases e : r = k
        · subst e; exact .inr c.symm
        · exact .inl ⟨r, by omega, b, c⟩
theorem num_lt {s : Sy} {st : List Int} (ok : SysOk s) (h : hasB s.vars st = true) : 0 ≤ numL s st ∧ numL s st < sizeB s := by
  obtain ⟨a, b⟩ := num_bd (st := st) ok.vars (has_at h) (Nat.le_refl s.vars.length)
  unfold numL sizeB
  omega
/-- The row of a state: the numbers of the states behind it, in their order. -/
def rowL (s : Sy) (n : Nat) : List Int := (nextL s (stL s.vars n) s.rules.length).map (numL s)
theorem rowL_len (s : Sy) (n : Nat) : (rowL s n).length + 1 ≤ 2 ^ s.rules.length := by unfold rowL; rw [List.length_map]; exact nextL_len _ _ _
theorem next_has {s : Sy} {st y : List Int} {k : Nat} (h : y ∈ nextL s st k) : hasB s.vars y = true := by
  obtain ⟨r, _, b, c⟩ := nextL_mem.1 h
  rw [← c]; exact use_has' b
theorem row_mem {s : Sy} {n x : Nat} (ok : SysOk s) : memP (rowL s n) x = nxP s (stL s.vars n) s.rules.length x := by
  apply bool_iff
  rw [nxP_iff]
  unfold memP rowL
  rw [decide_eq_true_eq, List.mem_map]
  constructor
  · rintro ⟨y, hy, e⟩
    obtain ⟨r, a, b, c⟩ := nextL_mem.1 hy
    exact ⟨r, a, b, by rw [c]; omega⟩
  · rintro ⟨r, a, b, c⟩
    refine ⟨_, nextL_mem.2 ⟨r, a, b, rfl⟩, ?_⟩
    have := num_lt ok (use_has' b)
    omega
theorem row_range {s : Sy} {n : Nat} (ok : SysOk s) : ∀ k, k < (rowL s n).length → 0 ≤ ix (rowL s n) k ∧ ix (rowL s n) k < sizeB s := fun k hk => by
  rw [ix_lt hk]
  generalize hr : (rowL s n)[k] = r
  have hm : r ∈ rowL s n := hr ▸ List.getElem_mem hk
  unfold rowL at hm
  rw [List.mem_map] at hm
  obtain ⟨y, hy, e⟩ := hm
  have := num_lt ok (next_has hy)
  rw [← e]; exact this
/-- Whether one of the first k numbers is so. -/
def someTo (f : Nat → Bool) : Nat → Bool
  | 0 => false
  | k + 1 => someTo f k || f k
theorem some_iff {f : Nat → Bool} : ∀ {k : Nat}, someTo f k = true ↔ ∃ i, i < k ∧ f i = true
  | 0 => by simp [someTo]
  | k + 1 => by
    show (someTo f k || f k) = true ↔ _
    rw [Bool.or_eq_true, some_iff]
    constructor
    · rintro (⟨i, a, b⟩ | h)
      · exact ⟨i, by omega, b⟩
      · exact ⟨k, by omega, h⟩
    · rintro ⟨i, a, b⟩
      by_cases e : i = k
      · subst e; exact .inr b
      · exact .inl ⟨i, by omega, b⟩
/-- The numbers behind those of a set. -/
def behP (s : Sy) (M : Nat → Bool) (z : Nat) : Nat → Bool := fun x => someTo (fun n => M n && nxP s (stL s.vars n) s.rules.length x) z
/-- The numbers ahead of those of a set. -/
def aheP (s : Sy) (M : Nat → Bool) (z : Nat) : Nat → Bool := fun n => someTo (fun x => M x && nxP s (stL s.vars n) s.rules.length x) z
def nextNumB (s : Sy) (l : List Int) : List Int := if setB s l then pick (behP s (memP l) (sizeB s).toNat) (sizeB s).toNat else []
def pastNumB (s : Sy) (l : List Int) : List Int := if setB s l then pick (aheP s (memP l) (sizeB s).toNat) (sizeB s).toNat else []
theorem pick_num_len {s : Sy} {l : List Int} (Q : Nat → Bool) : (if setB s l then pick Q (sizeB s).toNat else []).length ≤ 1000000 := by
  cases h : setB s l
  · simp
  · unfold setB at h
    rw [Bool.and_eq_true] at h
    have := sizeB_bd h.1
    exact Nat.le_trans (pick_len _ _) (by omega)
theorem nextNumB_len (s : Sy) (l : List Int) : (nextNumB s l).length ≤ 1000000 := pick_num_len _
theorem pastNumB_len (s : Sy) (l : List Int) : (pastNumB s l).length ≤ 1000000 := pick_num_len _
end Go.Proofs.YtfgjogmgcamfdaaGreatDoor
