/- States as arrays with a length: the program's words. -/
import Derived.Test.YtmlhnnkdecabpaaRun2
import Derived.Test.YtmlhnnkdecabpaaEvalB
import Derived.Test.YtmlhnnkdecabpaaIntApp
namespace Go.Proofs.Ytmlhnnkdecabpaa
open Go.RowKit

theorem copy_pt {ops : Array Oper} {rest : List Oper} {o : Oper} {a : Act} {Q : Exit → Act → World → Prop} {w : World} {g n c cap : Nat} {A : Option Addr} {T : TypeId} {st : List Int} (hgd : o.guard = none) (d s : Operand)
    (ho : o.op = .call { callee := .builtin .copy, args := #[d, s], argTypes := #[24, 24] }) (hd : a.eval d = .slice (some ⟨g, 0, none⟩) 5 cap) (hs : a.eval s = .slice A n c)
    (hg : Blk w g T [Value.int .i64 0, Value.int .i64 0, .int .i64 0, .int .i64 0, .int .i64 0, .int .i64 n]) (h : Rd w w.heap.size 1 A n (ints st)) (h1 : 1 ≤ n) (h5 : n ≤ 5)
    (hK : ∀ w', Blk w' g T (ptC st) → w.grownBy w' (some g) → wpList Try.prog ops Q rest (a.put o.dst (.int .i64 n)) w') : wpList Try.prog ops Q (o :: rest) a w := by
  obtain ⟨w', hr, k1, k2⟩ := run_copy_pt (ty := o.type) (cap := cap) hg h h1 h5 (c := c)
  refine wpList_plain hgd fun K hK' => ?_
  unfold Oper.wp execOp
  simp only [ho, resolve, invoke, builtin, Sem.run_bind, Sem.run_pure, Result.andThen_ok, List.map_toArray, List.map_cons, List.map_nil, hd, hs, hr]
  exact hK' _ _ (hK w' k1 k2)

theorem six_cells {w : World} {g : Nat} {t : TypeId} {a b c d e f : Value} (h : Blk w g t [a, b, c, d, e, f]) : w.cell? ⟨g, 0, none⟩ = some a ∧ w.cell? ⟨g, 1, none⟩ = some b ∧ w.cell? ⟨g, 2, none⟩ = some c ∧
    w.cell? ⟨g, 3, none⟩ = some d ∧ w.cell? ⟨g, 4, none⟩ = some e ∧ w.cell? ⟨g, 5, none⟩ = some f :=
  ⟨h.cell 0, h.cell 1, h.cell 2, h.cell 3, h.cell 4, h.cell 5⟩
theorem six_frozen {w : World} {g : Nat} {t : TypeId} {cs : List Value} (h : Blk w g t cs) : w.frozen? ⟨g, 0, none⟩ = false ∧ w.frozen? ⟨g, 1, none⟩ = false ∧ w.frozen? ⟨g, 2, none⟩ = false ∧
    w.frozen? ⟨g, 3, none⟩ = false ∧ w.frozen? ⟨g, 4, none⟩ = false ∧ w.frozen? ⟨g, 5, none⟩ = false :=
  ⟨h.frozen 0, h.frozen 1, h.frozen 2, h.frozen 3, h.frozen 4, h.frozen 5⟩
theorem pt_cells {w : World} {g : Nat} {t : TypeId} {st : List Int} (h : Blk w g t (ptC st)) : w.cell? ⟨g, 0, none⟩ = some (.int .i64 (ix st 0)) ∧ w.cell? ⟨g, 1, none⟩ = some (.int .i64 (ix st 1)) ∧ w.cell? ⟨g, 2, none⟩ = some (.int .i64 (ix st 2)) ∧
    w.cell? ⟨g, 3, none⟩ = some (.int .i64 (ix st 3)) ∧ w.cell? ⟨g, 4, none⟩ = some (.int .i64 (ix st 4)) ∧ w.cell? ⟨g, 5, none⟩ = some (.int .i64 st.length) :=
  ⟨h.cell 0, h.cell 1, h.cell 2, h.cell 3, h.cell 4, h.cell 5⟩

set_option maxRecDepth 100000 in
set_option maxHeartbeats 1000000 in
theorem pointOf_any (A : Option Addr) (n c : Nat) (st : List Int) (w : World) (h : Rd w w.heap.size 1 A n (ints st)) (h1 : 1 ≤ n) (h5 : n ≤ 5) :
    Calls Try.prog 79 #[.slice A n c] w (GivesV w (ptV st)) := by
  have hl : Hid (st.length = n) := Lib.hid h.len
  obtain ⟨w3, hr, k1, k2⟩ := run_copy_pt (ty := 3) (cap := 5) (c := c) (g := w.heap.size + 1) (T := 92)
    (w := (w.alloc (.cells #[.int .i64 0, .int .i64 0, .int .i64 0, .int .i64 0, .int .i64 0, .int .i64 0] 92)).alloc (.cells #[.int .i64 0, .int .i64 0, .int .i64 0, .int .i64 0, .int .i64 0, .int .i64 n] 92))
    (by have := Blk.new (w.alloc (.cells #[.int .i64 0, .int .i64 0, .int .i64 0, .int .i64 0, .int .i64 0, .int .i64 0] 92)) #[.int .i64 0, .int .i64 0, .int .i64 0, .int .i64 0, .int .i64 0, .int .i64 n] 92; rw [World.size_alloc] at this; exact this)
    ((h.below (((Below.refl _ w).alloc (Nat.le_refl _) _).alloc (by simp) _)).more (by simp; omega)) h1 h5
  have b3 : Below w.heap.size w w3 := ((Below.refl _ w).alloc (Nat.le_refl _) _ |>.alloc (by simp) _).grown k2 (by simp; omega) (by intro k hk; injection hk; omega)
  have Z0 : Blk (w.alloc (.cells #[.int .i64 0, .int .i64 0, .int .i64 0, .int .i64 0, .int .i64 0, .int .i64 0] 92)) w.heap.size 92 [.int .i64 0, .int .i64 0, .int .i64 0, .int .i64 0, .int .i64 0, .int .i64 0] := Blk.new _ _ _
  have Z : Blk w3 w.heap.size 92 [.int .i64 0, .int .i64 0, .int .i64 0, .int .i64 0, .int .i64 0, .int .i64 0] := (k2.block w.heap.size (by simp; omega) (by intro hk; injection hk; omega)).trans (Z0.alloc _)
  obtain ⟨q0, q1, q2, q3, q4, q5⟩ := six_cells Z
  obtain ⟨f0, f1, f2, f3, f4, f5⟩ := six_frozen Z
  clear Z0 Z
  obtain ⟨p0, p1, p2, p3, p4, p5⟩ := pt_cells k1
  clear h k1 k2
  go_enter Try.func79, Try.ntmps79
  go_wp2_with (rw [hr])
  refine bodyPost_ret (v := ptV st) (by simp [results, Try.results79, go_sem, q0, q1, q2, q3, q4, q5, ptV]) rfl ⟨rfl, ?_⟩
  exact (((((b3.setCell (by simp) _).setCell (by simp) _).setCell (by simp) _).setCell (by simp) _).setCell (by simp) _).setCell (by simp) _

theorem arr5 : Try.prog.underlying 90 = some (.array 5 3) := by kernel_rfl
/-- The first m values of an array of five. -/
theorem run_pt_slice (a : Addr) (m : Nat) (h : m ≤ 5) (W : World) : (Instr.sliceAt 90 (.pointer (some a)) none (some (.int .i64 m)) none).run Try.prog W = .ok (.slice (some a) m 5) W := by
  have e : Try.prog.arrayLen 90 = 5 := by kernel_rfl
  have e2 : Try.prog.elem 90 = 3 := by kernel_rfl
  rw [run_sliceAt_array_h W 90 a (by rw [e, e2]; exact arr5) .i64 m (by omega) (by rw [e]; omega), e, e2]
  simp [sizeOf, typeInfo, int_row.1, int_row.2.2.1, slicedAt, Addr.add]

/-- The address of a value in an array of five. -/
theorem run_pt_index (b v : Nat) (h : v < 5) (W : World) : (Instr.indexAt 90 (.pointer (some ⟨b, 0, none⟩)) (.int .i64 (v : Int))).run Try.prog W = .ok (.pointer (some ⟨b, v, none⟩)) W := by
  have e : Try.prog.arrayLen 90 = 5 := by kernel_rfl
  have e2 : Try.prog.elem 90 = 3 := by kernel_rfl
  rw [run_indexAt_array W 90 ⟨b, 0, none⟩ .i64 v (by rw [e, e2]; exact arr5), e, e2, if_pos (by omega)]
  have ha : (⟨b, 0, none⟩ : Addr).add v = ⟨b, v, none⟩ := by unfold Addr.add; split <;> simp_all
  simp [sizeOf, typeInfo, int_row.1, int_row.2.2.1, ha]

set_option maxRecDepth 100000 in
set_option maxHeartbeats 1000000 in
theorem list_any (st : List Int) (w : World) (h1 : 1 ≤ st.length) (h5 : st.length ≤ 5) : Calls Try.prog 66 #[ptV st] w (GivesInts w st) := by
  obtain ⟨m, hm⟩ : ∃ m : Nat, m = st.length := ⟨_, rfl⟩
  have HM := Lib.hid hm
  unfold ptV
  rw [← hm] at h1 h5 ⊢
  clear hm
  have HS := fun W => run_pt_slice ⟨w.heap.size, 0, none⟩ m h5 W
  have HC := Lib.hid (fun T => (Blk.new w (ptC st).toArray T).pt (by rw [← HM.out]; exact h5))
  rw [← HM.out] at HC
  unfold ptC at HC
  rw [← HM.out] at HC
  go_enter Try.func66, Try.ntmps66
  go_wp2_with fail
  refine (clone_int _ m 5 st _ (HC.out _) (by omega)).mono ?_
  rintro e w2 ⟨v, rfl, o2, b2⟩
  go_wp2
  go_ret
  exact ⟨v, rfl, own_lower o2 (by simp), below_call b2⟩
end Go.Proofs.Ytmlhnnkdecabpaa
