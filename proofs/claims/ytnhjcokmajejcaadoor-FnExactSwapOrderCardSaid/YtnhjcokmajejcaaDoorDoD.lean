/- DiagramOf: what is answered (plain). -/
import Derived.Test.YtnhjcokmajejcaaDoorDoP
namespace Go.Proofs.YtnhjcokmajejcaaDoor
open Go.RowKit
set_option maxRecDepth 100000

/-- The value of an edge for bits of the inputs. -/
def Tc (s : Ci) (e : Int) (bs : List Bool) : Bool := ofB (valTo s.gates (false :: bs) s.gates.length) e
/-- The diagram of an edge, and its place. -/
noncomputable def dgOfB (s : Ci) (x : Int) : Dg × Int := if ckB s && isE s x then roF s.ins.toNat ⟨s.ins, []⟩ 0 (rowsT s.ins.toNat (Tc s x)) else (⟨0, []⟩, -1)
theorem ro2_le {N : Nat} (hN : N ≤ 12) (v : Int) : upc ⟨v, []⟩ + ro2 N ≤ 1900 := by
  have := ro2_mono hN
  rw [ro2_12] at this
  rw [upc_empty]
  omega
theorem ok_none {v : Int} (h0 : 0 ≤ v) (h1 : v ≤ 12) : Dg.Ok ⟨v, []⟩ := ⟨h0, h1, by simp, fun k hk => absurd hk (by simp), fun k hk => absurd hk (by simp), fun j k _ hk => absurd hk (by simp)⟩
theorem roF_top (N : Nat) (hN : N ≤ 12) (T : List Bool → Bool) : (roF N ⟨N, []⟩ 0 (rowsT N T)).1.Ok ∧ 0 ≤ (roF N ⟨N, []⟩ 0 (rowsT N T)).2 := by
  have := roF_ok N ⟨N, []⟩ 0 (rowsT N T) (ok_none (by omega) (by omega)) (Int.le_refl 0) (by show (0 : Int) + N = N; omega) (rowsT_len N T) (rowsT_01 N T) (ro2_le hN _)
  exact ⟨this.2.1, (isP_iff.1 this.2.2.1).1⟩
noncomputable def dgOf1 (s : Ci) (x : Int) : Dg := (dgOfB s x).1
noncomputable def dgOf2 (s : Ci) (x : Int) : Int := (dgOfB s x).2
theorem dgOf1_len (s : Ci) (x : Int) : (dgOf1 s x).forks.length ≤ 1048576 := by
  unfold dgOf1 dgOfB
  split
  · rename_i h
    rw [Bool.and_eq_true] at h
    have ok := ckB_iff.1 h.1
    have lo := ok.lo
    have hi := ok.hi
    have := (roF_top s.ins.toNat (by omega) (Tc s x)).1.few
    rw [show ((s.ins.toNat : Nat) : Int) = s.ins by omega] at this
    omega
  · simp
end Go.Proofs.YtnhjcokmajejcaaDoor
