/- Bits: of the model. -/
import Derived.Test.YtopedgopbofhoaaBit
import Derived.Test.YtopedgopbofhoaaBitL
import Derived.Test.YtopedgopbofhoaaInR
import Derived.Deep.RegionHeld3
namespace Go.Proofs.Ytopedgopbofhoaa
open Go.RowKit

theorem widL_len (l : List Vr) : (widL l).length = l.length := by simp [widL]
theorem widL_ix {l : List Vr} {k : Nat} (h : k < l.length) : ix (widL l) k = (wdv (el l k) : Nat) := by
  unfold ix widL
  rw [List.getElem?_map, el_lt h, List.getElem?_eq_getElem h]; rfl
theorem widL_take {l : List Vr} {k : Nat} (h : k < l.length) : (widL l).take (k + 1) = (widL l).take k ++ [((wdv (el l k) : Nat) : Int)] := by
  have e : (widL l)[k]? = some ((wdv (el l k) : Nat) : Int) := by
    unfold widL
    rw [List.getElem?_map, el_lt h, List.getElem?_eq_getElem h]; rfl
  rw [List.take_add_one, e]; rfl

set_option maxRecDepth 100000 in
set_option maxHeartbeats 2000000 in
theorem l6Widths_any (s : Sy) (A1 : Option Addr) (n1 c1 : Nat) (A2 : Option Addr) (n2 c2 : Nat) (w : World) (h1 : Mem.rd w w.heap.size [.slice A1 n1 c1] s.vars) (ok : SysOk s) :
    Calls Try.prog 21 #[.agg #[.slice A1 n1 c1, .slice A2 n2 c2]] w (GivesInts w (widL s.vars)) := by
  have l1 := rd_len h1
  have L1 := Lib.hid l1
  have h5 : n1 ≤ 5 := by have := ok.hi; omega
  have VB := Lib.hid (fun k (hk : k < n1) => varB_iff.1 (ok.vars k (by omega)))
  have BX := Lib.hid (sy_box (w := w) (v1 := .slice A1 n1 c1) (v2 := .slice A2 n2 c2))
  clear l1 ok
  go_enter Try.func21, Try.ntmps21
  go_wp2
  have hown0 := World.ownsRow_lit (base := w.heap.size + 1) (e := 3) (size := 1) (w.alloc (.cells #[.slice A1 n1 c1, .slice A2 n2 c2] 32)) #[] 0 (by simp) (by unfold maxLen; omega) rfl
  rw [World.size_alloc] at hown0
  go_loopg [3, 4] n1 (fun m v i wr => ∃ k : Nat, k + m = n1 ∧ i = .int .i64 k ∧ wr.ownsRow (w.heap.size + 1) 3 1 v k (ints ((widL s.vars).take k)) ∧ Below (w.alloc (.cells #[.slice A1 n1 c1, .slice A2 n2 c2] 32)).heap.size (w.alloc (.cells #[.slice A1 n1 c1, .slice A2 n2 c2] 32)) wr)
  case atStart => exact ⟨0, by omega, rfl, hown0, below_alloc _ _⟩
  case round =>
    clear hown0
    obtain ⟨k, hk, rfl, ho, hb⟩ := hrel
    obtain ⟨B, x0, x1⟩ := BX.out _ hb
    by_cases hlt : k < n1
    · obtain ⟨ad, rfl, hbl, d0, d1, d2⟩ := vr_at (Mem.rd_below h1 B) hlt
      have HF := Lib.hid (widL_take (l := s.vars) (k := k) (by rw [L1.out]; exact hlt))
      have HV := VB.out k hlt
      have HM := Lib.hid (fun W => l6Many_any ((el s.vars k).high - (el s.vars k).low + 1) W (by omega) (by omega))
      change Hid (∀ W, Calls _ _ _ W (GivesInt W (wdv (el s.vars k) : Nat))) at HM
      have w1 : IntKind.i64.wrap ((el s.vars k).high - (el s.vars k).low) = (el s.vars k).high - (el s.vars k).low := IntWalk.i64_in _ (by omega)
      have w2 : IntKind.i64.wrap ((el s.vars k).high - (el s.vars k).low + 1) = (el s.vars k).high - (el s.vars k).low + 1 := IntWalk.i64_in _ (by omega)
      have HO := Lib.hid ho
      have kn : (k : Int) < n1 := by omega
      generalize wdv (el s.vars k) = z at *
      generalize el s.vars k = V at *
      obtain ⟨a, b, c⟩ := V
      dsimp only at *
      have hs1 : w.heap.size + 1 ≤ wr.heap.size := by have := hb.size; rw [World.size_alloc] at this; exact this
      clear HV
      go_wp2
      go_region_law (first
        | (go_simp; go_at_call 41; refine (HM.out _).mono ?_; rintro e w3 ⟨rfl, b3⟩
           have O3 := Lib.hid (own_below (HO.out) (show Below wr.heap.size wr w3 from ⟨b3.os, b3.tape, b3.output, b3.size, b3.block⟩))
           have b3' : Below wr.heap.size wr w3 := ⟨b3.os, b3.tape, b3.output, b3.size, b3.block⟩)
        | (refine step_app_int (by rfl) _ _ (by rfl) (w.heap.size + 1) _ k _ _ _ (by rfl) (by first | exact (O3.out).alloc _ | exact ((O3.out).alloc _).drew | exact ((O3.out).drew).alloc _) (by rfl) (by first | exact World.cell?_alloc_at _ _ _ _ (by simp) | (simp [go_sem]; done)) (by omega) (by have := b3'.size; simp at *; omega) ?_; intro v' w4 ho4 hg4 hk4))
      all_goals
        go_wp2
        go_roundg (n1 - (k + 1))
        case measure => omega
        case rel =>
          refine ⟨k + 1, by omega, by go_num, by rw [HF.out]; exact ho4, ?_⟩
          have z3 := b3'.size
          first
            | exact ((hb.trans (b3'.mono hb.size)).alloc (by simp; omega) _).grown hg4 (by simp; omega) (fun g hg => by rw [World.size_alloc]; exact (O3.out.lt g hg).1)
            | exact (((hb.trans (b3'.mono hb.size)).alloc (by simp; omega) _).drew).grown hg4 (by simp; omega) (fun g hg => by rw [World.size_alloc]; exact (O3.out.lt g hg).1)
            | exact (((hb.trans (b3'.mono hb.size)).drew).alloc (by simp; omega) _).grown hg4 (by simp; omega) (fun g hg => by rw [World.size_alloc]; exact (O3.out.lt g hg).1)
    · obtain rfl : k = n1 := by omega
      go_wp2
      go_ret
      rw [List.take_of_length_le (by rw [widL_len, L1.out]; exact Nat.le_refl _)] at ho
      refine ⟨_, rfl, ?_, B⟩
      rw [widL_len, L1.out]
      exact own_lower ho (by omega)

theorem l6Sum_any (A : Option Addr) (n c : Nat) (l : List Vr) (w : World) (h : Mem.rd w w.heap.size [.slice A n c] (widL l)) (hn : n ≤ 5) :
    Calls Try.prog 22 #[.slice A n c] w (GivesInt w (widTo l l.length)) := by
  have L := rd_len h
  rw [widL_len] at L
  have L1 := Lib.hid L
  have h' := (rd_ints.1 h).2
  have HW := Lib.hid (fun k (hk : k < n) => widL_ix (l := l) (k := k) (by omega))
  have HB : Hid (∀ k, k ≤ n → widTo l k ≤ 5 * k) := Lib.hid (fun k hk => by
    induction k with
    | zero => exact Nat.le_refl 0
    | succ k ih =>
      have a := ih (by omega)
      have b := wdt_le ((el l k).high - (el l k).low + 1)
      show widTo l k + wdt _ ≤ _
      omega)
  go_enter Try.func22, Try.ntmps22
  go_wp2
  go_loopg [3, 4] n (fun m x i wr => ∃ k : Nat, k + m = n ∧ i = .int .i64 k ∧ x = .int .i64 (widTo l k) ∧ Below w.heap.size w wr)
  case atStart => exact ⟨0, by omega, rfl, rfl, Below.refl _ _⟩
  case round =>
    obtain ⟨k, hk, rfl, rfl, hb⟩ := hrel
    by_cases hlt : k < n
    · obtain ⟨ad, rfl, hbl, d0⟩ := (h'.below hb).int hlt
      rw [HW.out k hlt] at d0
      have b1 := HB.out k (by omega)
      have b2 := HB.out (k + 1) (by omega)
      have HP : Hid (((widTo l k : Nat) : Int) + (wdv (el l k) : Nat) = ((widTo l (k + 1) : Nat) : Int)) := Lib.hid (by show _ = ((widTo l k + wdv (el l k) : Nat) : Int); omega)
      have wv : IntKind.i64.wrap ((widTo l k : Nat) + (wdv (el l k) : Nat) : Int) = ((widTo l (k + 1) : Nat) : Int) := by rw [HP.out]; exact IntWalk.i64_in _ (by omega)
      obtain ⟨y, hy⟩ : ∃ y, y = widTo l (k + 1) := ⟨_, rfl⟩
      have HY := Lib.hid hy
      rw [← hy] at wv
      clear hy HP b1 b2
      generalize widTo l k = p at wv ⊢
      go_wp2
      go_roundg (n - (k + 1))
      case measure => omega
      case rel => exact ⟨k + 1, by omega, by go_num, by rw [HY.out], hb.trans ⟨rfl, rfl, rfl, Nat.le_refl _, fun _ _ => rfl⟩⟩
    · obtain rfl : k = n := by omega
      go_wp2
      go_ret
      exact ⟨by rw [L1.out]; rfl, hb⟩

theorem l6Are_any (A : Option Addr) (n c : Nat) (l : List Int) (w : World) (h : Mem.rd w w.heap.size [.slice A n c] l) :
    Calls Try.prog 20 #[.slice A n c] w (GivesBool w (areB l)) := by
  have L1 := Lib.hid (rd_len h)
  have hm := rd_max h
  unfold maxLen at hm
  have h' := (rd_ints.1 h).2
  have E : Hid (areB l = allTo (bitAt l) n) := Lib.hid (by unfold areB; rw [L1.out])
  go_enter Try.func20, Try.ntmps20
  go_wp2
  go_loopg [3] n (fun m i wr => ∃ k : Nat, k + m = n ∧ i = .int .i64 k ∧ Hid (allTo (bitAt l) k = true) ∧ Below w.heap.size w wr)
  case atStart => exact ⟨0, by omega, rfl, Lib.hid rfl, Below.refl _ _⟩
  case round =>
    obtain ⟨k, hk, rfl, ha, hb⟩ := hrel
    by_cases hlt : k < n
    · obtain ⟨ad, rfl, hbl, d0⟩ := (h'.below hb).int hlt
      have kn : (k : Int) < n := by omega
      cases hz : inB (ix l k) 0 1
      all_goals
        first
          | have HF : Hid (areB l = false) := Lib.hid (E.out.trans (allTo_false (f := bitAt l) hlt hz))
          | have hf : Hid (allTo (bitAt l) (k + 1) = true) := Lib.hid (by show (allTo (bitAt l) k && inB (ix l k) 0 1) = true; rw [ha.out, hz]; rfl)
        have HZ := Lib.hid hz; clear hz
        go_wp2_with (first | (go_at_call 38; refine (l1In_any _ _ _ _).mono ?_; rintro e w3 ⟨rfl, rfl⟩; rw [HZ.out]))
      · go_ret
        exact ⟨(congrArg (fun b => Ending.returned (.bool b)) HF.out).symm, hb⟩
      · go_roundg (n - (k + 1))
        case measure => omega
        case rel => exact ⟨k + 1, by omega, by go_num, hf, hb⟩
    · obtain rfl : k = n := by omega
      have HE := Lib.hid (E.out.trans ha.out)
      go_wp2
      go_ret
      exact ⟨(congrArg (fun b => Ending.returned (.bool b)) HE.out).symm, hb⟩

/-- The number of n bits, n at most 12. -/
theorem l6Number_any (A : Option Addr) (n c : Nat) (l : List Int) (w : World) (h : Mem.rd w w.heap.size [.slice A n c] l) (hn : n ≤ 12) (ha : allTo (bitAt l) n = true) :
    Calls Try.prog 23 #[.slice A n c] w (GivesInt w (numN l n)) := by
  have h' := (rd_ints.1 h).2
  have HB := Lib.hid (fun k (hk : k < n) => bit_iff.1 (allTo_true.1 ha k hk))
  have HN : Hid (∀ k, k ≤ n → numN l k < 4096) := Lib.hid (fun k hk => by
    have := numN_lt (l := l) (k := k) (allTo_true.2 fun i hi => allTo_true.1 ha i (by omega))
    have : 2 ^ k ≤ 2 ^ 12 := Nat.pow_le_pow_right (by omega) (by omega)
    omega)
  clear ha
  go_enter Try.func23, Try.ntmps23
  go_wp2
  go_loopg [3, 4] n (fun m x i wr => ∃ k : Nat, k + m = n ∧ i = .int .i64 k ∧ x = .int .i64 (numN l k) ∧ Below w.heap.size w wr)
  case atStart => exact ⟨0, by omega, rfl, rfl, Below.refl _ _⟩
  case round =>
    obtain ⟨k, hk, rfl, rfl, hb⟩ := hrel
    by_cases hlt : k < n
    · obtain ⟨ad, rfl, hbl, d0⟩ := (h'.below hb).int hlt
      have kn : (k : Int) < n := by omega
      have b0 := HB.out k hlt
      have b1 := HN.out k (by omega)
      have HP : Hid (((numN l (k + 1) : Nat) : Int) = (numN l k : Nat) * 2 + ix l k) := Lib.hid (by
        show ((numN l k * 2 + (ix l k).toNat : Nat) : Int) = _
        rcases b0 with e | e <;> rw [e] <;> simp)
      have w1 : IntKind.i64.wrap ((numN l k : Nat) * 2 : Int) = (numN l k : Nat) * 2 := IntWalk.i64_in _ (by omega)
      have w2 : IntKind.i64.wrap ((numN l k : Nat) * 2 + ix l k : Int) = (numN l k : Nat) * 2 + ix l k := IntWalk.i64_in _ (by omega)
      clear b0 b1
      go_wp2
      go_roundg (n - (k + 1))
      case measure => omega
      case rel => exact ⟨k + 1, by omega, by go_num, by rw [HP.out], hb.trans ⟨rfl, rfl, rfl, Nat.le_refl _, fun _ _ => rfl⟩⟩
    · obtain rfl : k = n := by omega
      go_wp2
      go_ret
      exact ⟨rfl, hb⟩
end Go.Proofs.Ytopedgopbofhoaa
