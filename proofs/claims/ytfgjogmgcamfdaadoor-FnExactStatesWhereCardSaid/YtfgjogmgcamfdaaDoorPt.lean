/- States as arrays with a length: the program's words. -/
import Derived.Test.YtfgjogmgcamfdaaDoorRun2
import Derived.Test.YtfgjogmgcamfdaaDoorEvalB
import Derived.Test.YtfgjogmgcamfdaaDoorIntApp
namespace Go.Proofs.YtfgjogmgcamfdaaDoor
open Go.RowKit

theorem copy_pt {ops : Array Oper} {rest : List Oper} {o : Oper} {a : Act} {Q : Exit → Act → World → Prop} {w : World} {g n c cap : Nat} {A : Option Addr} {T : TypeId} {st : List Int} (hgd : o.guard = none) (d s : Operand)
    (ho : o.op = .call { callee := .builtin .copy, args := #[d, s], argTypes := #[29, 29] }) (hd : a.eval d = .slice (some ⟨g, 0, none⟩) 5 cap) (hs : a.eval s = .slice A n c)
    (hg : Blk w g T [Value.int .i64 0, Value.int .i64 0, .int .i64 0, .int .i64 0, .int .i64 0, .int .i64 n]) (h : Rd w w.heap.size 1 A n (ints st)) (h1 : 1 ≤ n) (h5 : n ≤ 5)
    (hK : ∀ w', Blk w' g T (ptC st) → w.grownBy w' (some g) → wpList Tryd.prog ops Q rest (a.put o.dst (.int .i64 n)) w') : wpList Tryd.prog ops Q (o :: rest) a w := by
  obtain ⟨w', hr, k1, k2⟩ := run_copy_pt (ty := o.type) (cap := cap) hg h h1 h5 (c := c)
  refine wpList_plain hgd fun K hK' => ?_
  unfold Oper.wp execOp
  simp only [ho, resolve, invoke, builtin, Sem.run_bind, Sem.run_pure, Result.andThen_ok, List.map_toArray, List.map_cons, List.map_nil, hd, hs, hr]
  exact hK' _ _ (hK w' k1 k2)

theorem six_cells {w : World} {g : Nat} {t : TypeId} {a b c d e f : Value} (h : Blk w g t [a, b, c, d, e, f]) : w.cell? ⟨g, 0, none⟩ = some a ∧ w.cell? ⟨g, 1, none⟩ = some b ∧ w.cell? ⟨g, 2, none⟩ = some c ∧
    w.cell? ⟨g, 3, none⟩ = some d ∧ w.cell? ⟨g, 4, none⟩ = some e ∧ w.cell? ⟨g, 5, none⟩ = some f :=
  ⟨h.cell 0, h.cell 1, h.cell 2, h.cell 3, h.cell 4, h.cell 5⟩
theorem six_frozen {w : World} {g : Nat} {t : TypeId} {cs : List Value} (h : Blk w g t cs) : w.frozen? ⟨g, 0, none⟩ = false ∧ w.frozen? ⟨g, 1, none⟩ = false ∧ w.frozen? ⟨g, 2, none⟩ = false ∧
    w.frozen? ⟨g, 3, none⟩ = false ∧ w.frozen? ⟨g, 4, none⟩ = false ∧ w.frozen? ⟨g, 5, none⟩ = false :=
  ⟨h.frozen 0, h.frozen 1, h.frozen 2, h.frozen 3, h.frozen 4, h.frozen 5⟩
theorem pt_cells {w : World} {g : Nat} {t : TypeId} {st : List Int} (h : Blk w g t (ptC st)) : w.cell? ⟨g, 0, none⟩ = some (.int .i64 (ix st 0)) ∧ w.cell? ⟨g, 1, none⟩ = some (.int .i64 (ix st 1)) ∧ w.cell? ⟨g, 2, none⟩ = some (.int .i64 (ix st 2)) ∧
    w.cell? ⟨g, 3, none⟩ = some (.int .i64 (ix st 3)) ∧ w.cell? ⟨g, 4, none⟩ = some (.int .i64 (ix st 4)) ∧ w.cell? ⟨g, 5, none⟩ = some (.int .i64 st.length) :=
  ⟨h.cell 0, h.cell 1, h.cell 2, h.cell 3, h.cell 4, h.cell 5⟩

theorem arr5 : Tryd.prog.underlying 108 = some (.array 5 3) := by kernel_rfl
/-- The first m values of an array of five. -/
theorem run_pt_slice (a : Addr) (m : Nat) (h : m ≤ 5) (W : World) : (Instr.sliceAt 108 (.pointer (some a)) none (some (.int .i64 m)) none).run Tryd.prog W = .ok (.slice (some a) m 5) W := by
  have e : Tryd.prog.arrayLen 108 = 5 := by kernel_rfl
  have e2 : Tryd.prog.elem 108 = 3 := by kernel_rfl
  rw [run_sliceAt_array_h W 108 a (by rw [e, e2]; exact arr5) .i64 m (by omega) (by rw [e]; omega), e, e2]
  simp [sizeOf, typeInfo, int_row.1, int_row.2.2.1, slicedAt, Addr.add]

/-- The address of a value in an array of five. -/
theorem run_pt_index (b v : Nat) (h : v < 5) (W : World) : (Instr.indexAt 108 (.pointer (some ⟨b, 0, none⟩)) (.int .i64 (v : Int))).run Tryd.prog W = .ok (.pointer (some ⟨b, v, none⟩)) W := by
  have e : Tryd.prog.arrayLen 108 = 5 := by kernel_rfl
  have e2 : Tryd.prog.elem 108 = 3 := by kernel_rfl
  rw [run_indexAt_array W 108 ⟨b, 0, none⟩ .i64 v (by rw [e, e2]; exact arr5), e, e2, if_pos (by omega)]
  have ha : (⟨b, 0, none⟩ : Addr).add v = ⟨b, v, none⟩ := by unfold Addr.add; split <;> simp_all
  simp [sizeOf, typeInfo, int_row.1, int_row.2.2.1, ha]

end Go.Proofs.YtfgjogmgcamfdaaDoor
