/- An argument of type []byte. -/
import Derived.Test.YtffkdmaedojcjaaPk
namespace Go.Proofs.Ytffkdmaedojcjaa
open Go.ChangeShapes Go.WideShapes Go.ChangeAt Go.RowKit Go.Deep

set_option maxRecDepth 100000 in
/-- An argument of type []byte. -/
theorem open_bytes {H : Type} {enc : TypeId × Value → H} {w : World} {v : Value} {d : DataW H} {p : List MemPlace} {base : Nat} {sp : Nat → Bool} {held : Bool} {r : Reach} {b0 : Nat}
    (hv : Value.okWide Try.prog w r b0 22 v) (h : DataW.Trod enc Try.prog w base sp held 22 v d p) : ∃ A n c, v = .slice A n c ∧ n ≤ c ∧ n ≤ maxLen ∧ Bys w w.heap.size A n := by
  obtain ⟨fuel, h⟩ := h
  obtain ⟨A0, n0, c0, rfl⟩ := okWide_slice Try.underlying22 hv
  rcases open_slice Try.underlying22 h with ⟨h0, _⟩ | ⟨a, len, cap, m, n, D, Pl, hcs, _, hl, hm, hmm, _, hi⟩
  · exact ⟨none, 0, 0, slice_of_cells h0, Nat.le_refl _, Nat.zero_le _, fun k hk => absurd hk (Nat.not_lt_zero k)⟩
  · have hcs := slice_of_cells hcs
    have hlm : len ≤ m := by rw [hmm]; split <;> omega
    have hC : Try.prog.cellsOf 5 = 1 := by kernel_rfl
    rw [hC] at hi
    refine ⟨some a, len, cap, hcs, hl, Nat.le_trans hl hm, fun k hk => ?_⟩
    obtain ⟨cs', hc, ht'⟩ := hi k (by omega)
    obtain ⟨z, hz, _, hw⟩ := DataW.trod_int Try.underlying5 ht'
    subst hz
    obtain ⟨_, _, hat⟩ := World.cells?_some hc
    have h0 := hat 0 (by omega)
    rw [add_add', Nat.mul_one, Nat.add_zero] at h0
    have h0 : w.cell? (a.add k) = some (.int .u8 z) := h0
    have h1 : (decide (IntKind.u8.min ≤ z) && decide (z ≤ IntKind.u8.max)) = true := hw
    rw [Bool.and_eq_true, decide_eq_true_eq, decide_eq_true_eq] at h1
    have h2 : (0 : Int) ≤ z ∧ z ≤ 255 := h1
    refine ⟨a, z.toNat, rfl, ?_, ?_, by omega⟩
    · have := World.block_lt_of_cell? w _ h0
      rwa [add_block] at this
    · rw [Int.toNat_of_nonneg h2.1]; exact h0
end Go.Proofs.Ytffkdmaedojcjaa
