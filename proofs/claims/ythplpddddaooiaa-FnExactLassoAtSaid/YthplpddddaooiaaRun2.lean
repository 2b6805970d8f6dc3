/- States as arrays with a length: made of a slice, and read as one. -/
import Derived.Test.YthplpddddaooiaaRun1
import Derived.Test.YthplpddddaooiaaToSy
namespace Go.Proofs.Ythplpddddaooiaa
open Go.RowKit

/-- A state as an array with a length: its cells and its value. -/
def ptC (st : List Int) : List Value := [.int .i64 (ix st 0), .int .i64 (ix st 1), .int .i64 (ix st 2), .int .i64 (ix st 3), .int .i64 (ix st 4), .int .i64 st.length]
def ptV (st : List Int) : Value := .agg #[.int .i64 (ix st 0), .int .i64 (ix st 1), .int .i64 (ix st 2), .int .i64 (ix st 3), .int .i64 (ix st 4), .int .i64 st.length]
theorem len_ptC (st : List Int) : (ptC st).length = 6 := rfl
theorem ix_set {l : List Int} {v j : Nat} {x : Int} (h : v < l.length) : ix (l.set v x) j = if v = j then x else ix l j := by
  unfold ix
  rw [List.getElem?_set]
  by_cases e : v = j
  · subst e; simp [h]
  · simp [e]
theorem ptC_set {st : List Int} {v : Nat} {x : Int} (h : v < st.length) (h5 : st.length ≤ 5) : (ptC st).set v (.int .i64 x) = ptC (st.set v x) := by
  unfold ptC
  simp only [ix_set h, List.length_set]
  match v, (show v < 5 by omega) with
  | 0, _ => rfl
  | 1, _ => rfl
  | 2, _ => rfl
  | 3, _ => rfl
  | 4, _ => rfl
theorem ptC_at {st : List Int} {k : Nat} (h : k < st.length) (h5 : st.length ≤ 5) : (ptC st)[k]? = some (.int .i64 (ix st k)) := by
  match k, (show k < 5 by omega) with
  | 0, _ => rfl
  | 1, _ => rfl
  | 2, _ => rfl
  | 3, _ => rfl
  | 4, _ => rfl
theorem ptC_of {st : List Int} (h5 : st.length ≤ 5) : ints st ++ [Value.int .i64 0, .int .i64 0, .int .i64 0, .int .i64 0, .int .i64 0, .int .i64 st.length].drop st.length = ptC st := by
  match st, h5 with
  | [], _ => rfl
  | [_], _ => rfl
  | [_, _], _ => rfl
  | [_, _, _], _ => rfl
  | [_, _, _, _], _ => rfl
  | [_, _, _, _, _], _ => rfl
  | _ :: _ :: _ :: _ :: _ :: _ :: _, h => simp at h

section
variable {w w' : World} {g : Nat} {t : TypeId} {st : List Int}
/-- A box of a state is read as a slice. -/
theorem Blk.pt (h : Blk w g t (ptC st)) (h5 : st.length ≤ 5) : Rd w w.heap.size 1 (some ⟨g, 0, none⟩) st.length (ints st) := by
  refine ⟨by rw [len_ints]; omega, fun _ => ⟨_, rfl, h.lt, fun j u hu => ?_⟩⟩
  have hj : j < st.length := by
    have := (List.getElem?_eq_some_iff.1 hu).1
    rw [len_ints] at this; exact this
  have hadd : (⟨g, 0, none⟩ : Addr).add j = ⟨g, j, none⟩ := by unfold Addr.add; split <;> simp_all
  rw [hadd, h.cell, ptC_at hj h5]
  rw [← hu]
  unfold ints ix
  rw [List.getElem?_map, List.getElem?_eq_getElem hj]; rfl
end

theorem int_cells {st : List Int} : (ints st).length = st.length := len_ints st

/-- 'copy' of a state into the front of a row. -/
theorem run_copy_pt {w : World} {g n c cap : Nat} {A : Option Addr} {T : TypeId} {st : List Int} {ty : TypeId} (hg : Blk w g T [Value.int .i64 0, .int .i64 0, .int .i64 0, .int .i64 0, .int .i64 0, .int .i64 n])
    (h : Rd w w.heap.size 1 A n (ints st)) (h1 : 1 ≤ n) (h5 : n ≤ 5) :
    ∃ w', (Builtin.copy_ #[24, 24] ty #[.slice (some ⟨g, 0, none⟩) 5 cap, .slice A n c]).run Try.prog w = .ok (.int .i64 n) w' ∧ Blk w' g T (ptC st) ∧ w.grownBy w' (some g) := by
  obtain ⟨ad, rfl, _, hc⟩ := h.2 (by omega)
  have hl : st.length = n := h.len
  have hf := run_firstCells_some (P := Try.prog) w 1 n ad n c (ints st) (by rw [len_ints]; omega) hc
  have hst := run_storeCells_at (P := Try.prog) g 0 T (ints st) 0 _ w hg (by simp [len_ints]; omega) (by intro u hu; unfold ints at hu; simp at hu; obtain ⟨x, _, rfl⟩ := hu; rfl)
  refine ⟨w.setRow g (ptC st).toArray, ?_, ?_, ?_⟩
  · have hmin : Nat.min n 5 = n := Nat.min_eq_left h5
    simp only [Builtin.copy_, Sem.run_bind, run_underlying Try.underlying24, Result.andThen_ok, sizeOf, typeInfo, int_row.1, int_row.2.2.1, Builtin.lenOf]
    simp [Builtin.copy_, run_underlying Try.underlying24, sizeOf, typeInfo, int_row.1, int_row.2.2.1, Builtin.lenOf, hmin, hf]
    simp at hst
    rw [hst]
    have e := ptC_of (st := st) (by omega)
    rw [hl] at e
    simp [len_ints, hl, e]
    try rfl
  · exact setRow_heap _ g _ _ T _ hg
  · exact ⟨rfl, rfl, rfl, by simp, fun k _ hk => setRow_other _ g k _ (fun e => hk (by simp [e]))⟩
end Go.Proofs.Ythplpddddaooiaa
