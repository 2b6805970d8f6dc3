/- Reordered: what is answered (plain). -/
import Derived.Test.YtnhjcokmajejcaaDoorDoD
import Derived.Test.YtnhjcokmajejcaaDoorDgV
import Derived.Test.YtnhjcokmajejcaaDoorOr
import Derived.Laws.BitsAllLaws
namespace Go.Proofs.YtnhjcokmajejcaaDoor
open Go.RowKit
set_option maxRecDepth 100000

/-- The truth of a place for bits. -/
def plB (d : Dg) (bs : List Bool) (n : Int) : Bool := decide (valP d (biL bs) n = 1)
/-- What stands where an order says it. -/
def prm {α : Type} (z : α) (V : Nat) (order : List Int) (l : List α) : Nat → List α
  | 0 => List.replicate V z
  | k + 1 => (prm z V order l k).set (ix order k).toNat (l[k]?.getD z)
theorem prm_len {α : Type} (z : α) (V : Nat) (order : List Int) (l : List α) : ∀ k, (prm z V order l k).length = V
  | 0 => List.length_replicate
  | k + 1 => by
    show ((prm z V order l k).set _ _).length = V
    rw [List.length_set, prm_len z V order l k]
theorem prm_map {α β : Type} (f : α → β) (z : α) (V : Nat) (order : List Int) (l : List α) : ∀ k, (prm z V order l k).map f = prm (f z) V order (l.map f) k
  | 0 => by show (List.replicate V z).map f = List.replicate V (f z); rw [List.map_replicate]
  | k + 1 => by
    show ((prm z V order l k).set _ _).map f = (prm (f z) V order (l.map f) k).set _ _
    rw [List.map_set, prm_map f z V order l k, List.getElem?_map]
    cases l[k]? <;> rfl
/-- The truth of a place when its variables stand in another order. -/
def Trd (d : Dg) (n : Int) (order : List Int) (bs : List Bool) : Bool := plB d (prm false d.vars.toNat order bs order.length) n
noncomputable def reoB (d : Dg) (n : Int) (order : List Int) : Dg × Int := if dgB d && (isP d n && ordB order d.vars) then roF d.vars.toNat ⟨d.vars, []⟩ 0 (rowsT d.vars.toNat (Trd d n order)) else (⟨0, []⟩, -1)
noncomputable def reo1 (d : Dg) (n : Int) (order : List Int) : Dg := (reoB d n order).1
noncomputable def reo2 (d : Dg) (n : Int) (order : List Int) : Int := (reoB d n order).2
theorem reo1_len (d : Dg) (n : Int) (order : List Int) : (reo1 d n order).forks.length ≤ 1048576 := by
  unfold reo1 reoB
  split
  · rename_i h
    rw [Bool.and_eq_true] at h
    have ok := dgB_iff.1 h.1
    have lo := ok.lo
    have hi := ok.hi
    have := (roF_top d.vars.toNat (by omega) (Trd d n order)).1.few
    rw [show ((d.vars.toNat : Nat) : Int) = d.vars by omega] at this
    omega
  · simp
/-- The words of the places behind k forks. -/
def colD (d : Dg) (C : List (Nat → Bool)) (x : Nat) : Nat := fw fun j => plB d (C.map fun P => P j) x
def colL (d : Dg) (C : List (Nat → Bool)) (k : Nat) : List Nat := (List.range (2 + k)).map (colD d C)
theorem colL_len (d : Dg) (C : List (Nat → Bool)) (k : Nat) : (colL d C k).length = 2 + k := by simp [colL]
theorem colL_at (d : Dg) (C : List (Nat → Bool)) {k x : Nat} (h : x < 2 + k) : el (colL d C k) x = colD d C x := by
  unfold el colL
  rw [List.getElem?_map, List.getElem?_range h]; rfl
theorem plB_const (d : Dg) (bs : List Bool) {n : Int} (h : n < 2) : plB d bs n = decide (n = 1) := by unfold plB; rw [valP_end h]
theorem colL_zero (d : Dg) (C : List (Nat → Bool)) : colL d C 0 = [0, 18446744073709551615] := by
  have e0 : colD d C 0 = 0 := by
    unfold colD
    rw [← fw_none]
    refine fw_congr fun j _ => ?_
    rw [plB_const d _ (by decide)]; rfl
  have e1 : colD d C 1 = 18446744073709551615 := by
    unfold colD
    rw [← fw_all]
    refine fw_congr fun j _ => ?_
    rw [plB_const d _ (by decide)]; rfl
  show (List.range 2).map (colD d C) = _
  rw [show List.range 2 = [0, 1] from rfl, List.map_cons, List.map_cons, List.map_nil, e0, e1]
theorem colL_succ (d : Dg) (C : List (Nat → Bool)) (k : Nat) : colL d C (k + 1) = colL d C k ++ [colD d C (2 + k)] := by
  unfold colL
  rw [show 2 + (k + 1) = (2 + k) + 1 from rfl, List.range_succ, List.map_append]; rfl
theorem plB_fork {d : Dg} (ok : d.Ok) (bs : List Bool) {k : Nat} (hk : k < d.forks.length) (hv : (el d.forks k).v.toNat < bs.length) : plB d bs ((2 + k : Nat) : Int) = if el bs (el d.forks k).v.toNat then plB d bs (el d.forks k).hi else plB d bs (el d.forks k).lo := by
  have ef : fkA d ((2 + k : Nat) : Int) = el d.forks k := by unfold fkA; rw [show ((((2 + k : Nat) : Int)) - 2).toNat = k by omega]
  unfold plB
  rw [valP_next ok _ (isP_iff.2 (by omega)) (by omega)]
  unfold nextP
  rw [ef, ix_biL hv]
  cases e : el bs (el d.forks k).v.toNat
  · rw [if_neg (by decide), if_neg (by decide)]
  · rw [if_pos (by decide), if_pos rfl]
theorem fw_andNot (P Q : Nat → Bool) : fw P &&& (18446744073709551615 - fw Q) = fw (fun j => P j && !Q j) := fw_eq fun j => by
  have hq := fw_lt Q
  rw [Nat.testBit_and, fw_bit, show (18446744073709551615 - fw Q) = 2 ^ 64 - (fw Q + 1) by omega, Nat.testBit_two_pow_sub_succ (by omega), fw_bit]
  cases decide (j < 64) <;> simp
theorem fw_or (P Q : Nat → Bool) : fw P ||| fw Q = fw (fun j => P j || Q j) := fw_eq fun j => by
  rw [Nat.testBit_or, fw_bit, fw_bit]
  cases decide (j < 64) <;> simp
/-- The word of a fork's place. -/
theorem colD_fork {d : Dg} (ok : d.Ok) (C : List (Nat → Bool)) (hC : (C.length : Int) = d.vars) {k : Nat} (hk : k < d.forks.length) :
    (colD d C (el d.forks k).lo.toNat &&& (18446744073709551615 - fw (C[(el d.forks k).v.toNat]?.getD fun _ => false))) ||| (colD d C (el d.forks k).hi.toNat &&& fw (C[(el d.forks k).v.toNat]?.getD fun _ => false)) = colD d C (2 + k) := by
  have F := ok.fork k hk
  have v0 := F.v0
  have v1 := F.v1
  have l0 := F.l0
  have h0 := F.h0
  have hv : (el d.forks k).v.toNat < C.length := by omega
  have PF := fun j => plB_fork ok (C.map fun P => P j) hk (by rw [List.length_map]; exact hv)
  generalize (el d.forks k).v.toNat = q at *
  unfold colD
  rw [fw_andNot, fw_and, fw_or]
  refine fw_congr fun j _ => ?_
  have e : el (C.map fun P => P j) q = C[q] j := by
    unfold el
    rw [List.getElem?_map, List.getElem?_eq_getElem hv]; rfl
  rw [PF j, List.getElem?_eq_getElem hv, e, show (((el d.forks k).lo.toNat : Nat) : Int) = (el d.forks k).lo by omega, show (((el d.forks k).hi.toNat : Nat) : Int) = (el d.forks k).hi by omega]
  show ((_ && !C[q] j) || (_ && C[q] j)) = _
  cases C[q] j <;> simp
/-- The word of the place for the columns in their order. -/
theorem colD_trW (d : Dg) (n : Nat) (order : List Int) (N b : Nat) (hN : d.vars.toNat = N) : colD d (prm (fun _ => false) N order (colsB b N) order.length) n = trW (Trd d n order) N b := by
  unfold colD trW
  refine fw_congr fun j _ => ?_
  unfold Trd
  rw [prm_map, hN]
end Go.Proofs.YtnhjcokmajejcaaDoor
