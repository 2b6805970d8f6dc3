/- The inputs' bits among the values of atoms (plain), and the head of a row of numbers. -/
import Derived.Test.YthlkbkomecnbaaaCiP
import Derived.Test.YthlkbkomecnbaaaGen
namespace Go.Proofs.Ythlkbkomecnbaaa
open Go.RowKit
set_option maxRecDepth 100000

noncomputable def inputsB (c : Ci) (bs : List Int) : List Int :=
  if ckB c = true ∧ (bs.length : Int) = c.nodes - 1 ∧ arB bs = true then bs.take c.ins.toNat else []
theorem inputsB_len (c : Ci) (bs : List Int) : (inputsB c bs).length ≤ 1000000 := by
  unfold inputsB
  split
  · rename_i h
    have h1 := (ckB_iff.1 h.1).hi
    rw [List.length_take]
    omega
  · simp
theorem Mem.own_cap {α : Type} [Mem α] {w : World} {fp : List Nat} {A : Option Addr} {n c : Nat} {l : List α} (h : Mem.own w fp [.slice A n c] l) : n ≤ c := by
  obtain ⟨A', n', c', e, _, _, h⟩ := h
  injection e with e _
  injection e with _ e2 e3
  subst e2; subst e3
  rcases h with ⟨h0, _⟩ | ⟨g, t, ecs, fps, rfl, ho, _⟩
  · omega
  · rcases ho.2 with ⟨e, _⟩ | ⟨g', cap, cur, e, _, _, h1, _⟩
    · injection e with e; injection e
    · injection e with _ _ e3
      omega
/-- The head of a row of numbers. -/
theorem run_head {A : Option Addr} {n c B : Nat} {l : List Int} {w : World} (h : Mem.rd w B [.slice A n c] l) (hc : n ≤ c) {j : Nat} {q : Int} (hp : j ≤ n) (hq : q = (j : Int)) :
    (∀ W, (Instr.sliceAt 22 (.slice A n c) none (some (.int .i64 q)) none).run Try.prog W = .ok (.slice A j c) W) ∧ Mem.rd w B [.slice A j c] (l.take j) := by
  subst hq
  have hu : Try.prog.underlying 22 = some (.slice (Try.prog.elem 22)) := by kernel_rfl
  have hs : ∀ W, (Go.sizeOf (Try.prog.elem 22)).run Try.prog W = .ok 1 W := fun W => by kernel_rfl
  constructor
  · intro W
    rw [run_sliceAt_slice W _ _ _ _ _ hu, run_slice_h W _ _ _ _ hu _ _ (by omega) (by omega), hs W]
    by_cases h0 : c = 0
    · simp [Result.andThen, sliced, h0]
    · simp [Result.andThen, sliced, h0]
      cases A <;> rfl
  · obtain ⟨hm, h'⟩ := rd_ints.1 h
    refine rd_ints.2 ⟨by omega, by rw [len_ints, List.length_take, rd_len h]; omega, fun h0 => ?_⟩
    obtain ⟨ad, rfl, hb, hcell⟩ := h'.2 (by omega)
    refine ⟨ad, rfl, hb, fun k u hk => hcell k u ?_⟩
    obtain ⟨hk', e⟩ := ints_at hk
    rw [List.length_take] at hk'
    unfold ints
    rw [List.getElem?_map, List.getElem?_eq_getElem (by omega), e, List.getElem_take]
    rfl
end Go.Proofs.Ythlkbkomecnbaaa
