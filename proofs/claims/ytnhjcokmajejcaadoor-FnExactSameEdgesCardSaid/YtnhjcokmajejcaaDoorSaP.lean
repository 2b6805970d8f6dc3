/- SameEdges: what is answered (plain). -/
import Derived.Test.YtnhjcokmajejcaaDoorDoD
namespace Go.Proofs.YtnhjcokmajejcaaDoor
open Go.RowKit
set_option maxRecDepth 100000

/-- Two truths have the same values in all rows. -/
def sameT (N : Nat) (Ta Tb : List Bool → Bool) : Bool := (List.range (2 ^ N)).all fun p => Ta (boL (bitsN p N)) == Tb (boL (bitsN p N))
theorem sameT_iff {N : Nat} {Ta Tb : List Bool → Bool} : sameT N Ta Tb = true ↔ ∀ p, p < 2 ^ N → Ta (boL (bitsN p N)) = Tb (boL (bitsN p N)) := by
  unfold sameT
  rw [List.all_eq_true]
  constructor
  · intro h p hp
    exact eq_of_beq (h p (List.mem_range.2 hp))
  · intro h p hp
    rw [h p (List.mem_range.1 hp)]
    exact beq_self_eq_true _
noncomputable def sameEB (s : Ci) (a b : Int) : Bool := ckB s && (isE s a && (isE s b && sameT s.ins.toNat (Tc s a) (Tc s b)))
theorem row_of_path (N p : Nat) : ∃ row, row < 2 ^ N ∧ rowBits N row = boL (bitsN p N) := by
  refine ⟨fwN (fun i => p.testBit (N - 1 - i)) N, fwN_lt _ N, ?_⟩
  rw [← mixB_none (row := 0)]
  unfold rowBits mixB
  refine List.map_congr_left fun i hi => ?_
  rw [List.mem_range] at hi
  rw [fwN_bit, decide_eq_true hi, Bool.true_and, if_neg (by omega)]
theorem path_of_row (N row : Nat) : ∃ p, p < 2 ^ N ∧ rowBits N row = boL (bitsN p N) := by
  refine ⟨fwN (fun j => row.testBit (N - 1 - j)) N, fwN_lt _ N, ?_⟩
  rw [← mixB_none (row := 0)]
  unfold rowBits mixB
  refine List.map_congr_left fun i hi => ?_
  rw [List.mem_range] at hi
  rw [fwN_bit, decide_eq_true (by omega), Bool.true_and, if_neg (by omega), show N - 1 - (N - 1 - i) = i by omega]
theorem rowBits_mod (N x : Nat) : rowBits N (x % 2 ^ N) = rowBits N x := by
  unfold rowBits
  refine List.map_congr_left fun i hi => ?_
  rw [List.mem_range] at hi
  rw [Nat.testBit_mod_two_pow, decide_eq_true hi, Bool.true_and]
theorem bi_inj {a b : Bool} (h : (bi a).toNat = (bi b).toNat) : a = b := by cases a <;> cases b <;> first | rfl | (exact absurd h (by decide))
theorem trW_same {N : Nat} {Ta Tb : List Bool → Bool} : sameT N Ta Tb = true ↔ ∀ b, b < blkN N → trW Ta N b = trW Tb N b := by
  rw [sameT_iff]
  constructor
  · intro h b _
    refine fw_congr fun j hj => ?_
    have e1 : (64 * b + j) / 64 = b := by omega
    have e2 : (64 * b + j) % 64 = j := by omega
    have := cols_row N (64 * b + j)
    rw [e1, e2, ← rowBits_mod] at this
    rw [this]
    obtain ⟨p, hp, hr⟩ := path_of_row N ((64 * b + j) % 2 ^ N)
    rw [hr]
    exact h p hp
  · intro h p _
    obtain ⟨row, hr, e⟩ := row_of_path N p
    rw [← e]
    have := h (row / 64) (row_blk hr)
    have a1 := trW_bit Ta N row
    have a2 := trW_bit Tb N row
    rw [this, a2] at a1
    exact bi_inj a1.symm
theorem trL_same {N : Nat} {Ta Tb : List Bool → Bool} : sameT N Ta Tb = true ↔ trL Ta N = trL Tb N := by
  rw [trW_same]
  constructor
  · intro h
    unfold trL
    exact List.map_congr_left fun b hb => h b (List.mem_range.1 hb)
  · intro h b hb
    have := congrArg (fun l => el l b) h
    simpa only [trL_at Ta hb, trL_at Tb hb] using this
theorem trL_sameB (N : Nat) (Ta Tb : List Bool → Bool) : decide (trL Ta N = trL Tb N) = sameT N Ta Tb := by
  cases e : sameT N Ta Tb
  · exact decide_eq_false fun h => by rw [trL_same.2 h] at e; cases e
  · exact decide_eq_true (trL_same.1 e)
end Go.Proofs.YtnhjcokmajejcaaDoor
