/- Diagrams: makers are made, in the program. -/
import Derived.Test.YtnhjcokmajejcaaDoorDgI
import Derived.Laws.MakeOwn
namespace Go.Proofs.YtnhjcokmajejcaaDoor
open Go.RowKit
set_option maxRecDepth 100000

theorem run_makeMap_0 {t : TypeId} (w : World) : (Instr.makeMap t none).run Tryd.prog w = .ok (.map (some w.heap.size)) (w.alloc (.map #[] 0)) := rfl
theorem run_make_forks (n : Nat) (hn : n ≤ 100000) : ∃ Z : Array Value, Z.size = n * 3 ∧ ∀ w : World, (Instr.makeSlice 33 (.int .i64 0) (.int .i64 n)).run Tryd.prog w = .ok (.slice (some ⟨w.heap.size, 0, none⟩) 0 n) (w.alloc (.cells Z 108)) :=
  ⟨madeCells #[.int .i64 0, .int .i64 0, .int .i64 0] (n * 3), size_madeCells _ _, fun w => by
    have h := run_make (P := Tryd.prog) w 33 108 fkRow (.agg #[.int .i64 0, .int .i64 0, .int .i64 0]) Tryd.underlying33 fk_row.1 fk_row.2.1 .i64 .i64 0 n (Int.le_refl _) (by omega) (by rw [fk_row.2.2.2]; omega) (by omega)
    rw [fk_row.2.2.1] at h
    simp only [Int.toNat_zero, Int.toNat_natCast] at h
    exact h⟩
theorem ok_empty {m : Int} (h0 : 0 ≤ m) (h1 : m ≤ 12) : Dg.Ok ⟨m, []⟩ := ⟨h0, h1, by simp, fun k hk => absurd hk (by simp), fun k hk => absurd hk (by simp), fun j k _ hk => absurd hk (by simp)⟩

theorem four_blocks (w : World) (o0 o1 o2 o3 : Obj) : ((((w.alloc o0).alloc o1).alloc o2).alloc o3).drew.heap[w.heap.size]? = some o0 ∧ ((((w.alloc o0).alloc o1).alloc o2).alloc o3).drew.heap[w.heap.size + 1]? = some o1 ∧
    ((((w.alloc o0).alloc o1).alloc o2).alloc o3).drew.heap[w.heap.size + 1 + 1]? = some o2 ∧ ((((w.alloc o0).alloc o1).alloc o2).alloc o3).drew.heap[w.heap.size + 1 + 1 + 1]? = some o3 := by
  have n : ∀ (W : World) (o : Obj), (W.alloc o).heap[W.heap.size]? = some o := fun W o => by show (W.heap.push o)[W.heap.size]? = _; exact Array.getElem?_push_size
  have k : ∀ (W : World) (o x : Obj) (i : Nat), W.heap[i]? = some x → (W.alloc o).heap[i]? = some x := fun W o x i h => (Below.heap_alloc W o i (Array.getElem?_eq_some_iff.1 h).1).trans h
  have n1 := n (w.alloc o0) o1
  have n2 := n ((w.alloc o0).alloc o1) o2
  have n3 := n (((w.alloc o0).alloc o1).alloc o2) o3
  simp only [World.size_alloc] at n1 n2 n3
  exact ⟨k _ _ _ _ (k _ _ _ _ (k _ _ _ _ (n w o0))), k _ _ _ _ (k _ _ _ _ n1), k _ _ _ _ n2, n3⟩
theorem mkD_empty {W : World} {base a bp br g n : Nat} {m : Int} {Z : Array Value} (h0 : 0 ≤ m) (h1 : m ≤ 12) (hA : W.heap[a]? = some (.cells Z 108)) (hp : W.heap[bp]? = some (.map #[] 0)) (hr : W.heap[br]? = some (.map #[] 0))
    (hg : W.heap[g]? = some (.cells #[.int .i64 m, .slice (some ⟨a, 0, none⟩) 0 n, .map (some bp), .map (some br), .bool false] 122)) (hZ : Z.size = n * 3) (hn : n ≤ 100000)
    (b0 : base ≤ a) (b1 : base ≤ bp) (b2 : base ≤ br) (b3 : base ≤ g) (hd : g ≠ bp ∧ g ≠ br ∧ bp ≠ br ∧ a ≠ g ∧ a ≠ bp ∧ a ≠ br) : MkD W base g ⟨m, []⟩ false 0 := by
  refine ⟨ok_empty h0 h1, fun q => (by cases q), some ⟨a, 0, none⟩, n, bp, 0, .map [], br, 0, .map [], hg, ?_, ?_, Nat.le_refl _, fitP_nil m, ?_, Nat.le_refl _, fitR_nil _ _, ⟨b3, b1, b2, hd.1, hd.2.1, hd.2.2.1⟩, ?_⟩
  · exact ⟨by simp [fl, cat], .inr ⟨a, n, Z, rfl, b0, hA, Nat.zero_le _, by unfold maxLen; omega, hZ, by simp [fl, cat]⟩⟩
  · exact ⟨#[], 0, hp, ⟨by simp, MapKept.stamped_empty 0, by simp⟩, Nat.le_refl _, rfl⟩
  · exact ⟨#[], 0, hr, ⟨by simp, MapKept.stamped_empty 0, by simp⟩, Nat.le_refl _, rfl⟩
  · intro b hb
    have := mem_bl.1 hb
    injection this with this
    subst this
    exact hd.2.2.2

set_option maxRecDepth 100000 in
set_option maxHeartbeats 2000000 in
theorem empty_any (m : Int) (n : Nat) (w : World) (h0 : 0 ≤ m) (h1 : m ≤ 12) (hn : n ≤ 100000) :
    Calls Tryd.prog 71 #[.int .i64 m, .int .i64 n] w (fun e w' => ∃ g, e = .returned (.pointer (some ⟨g, 0, none⟩)) ∧ MkD w' w.heap.size g ⟨m, []⟩ false 0 ∧ Below w.heap.size w w') := by
  obtain ⟨Z, hZ, HS⟩ := run_make_forks n hn
  have hmm := fun W => run_makeMap_n Tryd.underlying119 (n : Int) W
  have hm0 := fun W => run_makeMap_0 (t := 120) W
  have HZ := Lib.hid hZ
  clear hZ
  go_enter Tryd.func71, Tryd.ntmps71
  go_wp2
  go_region_law (fail)
  all_goals
    go_wp2
    go_ret
    have BB : ∀ o0 o1 o2 o3, Below w.heap.size w ((((w.alloc o0).alloc o1).alloc o2).alloc o3).drew := fun o0 o1 o2 o3 => ((((below_alloc w o0).alloc (by simp) o1).alloc (by simp; omega) o2).alloc (by simp; omega) o3).drew
    obtain ⟨q0, q1, q2, q3⟩ := four_blocks w _ _ _ _
    first
      | exact ⟨_, rfl, mkD_empty h0 h1 q0 q1 q2 q3 HZ.out hn (by omega) (by omega) (by omega) (by omega) (by omega), BB _ _ _ _⟩
      | exact ⟨_, rfl, mkD_empty h0 h1 q0 q2 q1 q3 HZ.out hn (by omega) (by omega) (by omega) (by omega) (by omega), BB _ _ _ _⟩
      | exact ⟨_, rfl, mkD_empty h0 h1 q1 q0 q2 q3 HZ.out hn (by omega) (by omega) (by omega) (by omega) (by omega), BB _ _ _ _⟩
      | exact ⟨_, rfl, mkD_empty h0 h1 q1 q2 q0 q3 HZ.out hn (by omega) (by omega) (by omega) (by omega) (by omega), BB _ _ _ _⟩
      | exact ⟨_, rfl, mkD_empty h0 h1 q2 q0 q1 q3 HZ.out hn (by omega) (by omega) (by omega) (by omega) (by omega), BB _ _ _ _⟩
      | exact ⟨_, rfl, mkD_empty h0 h1 q2 q1 q0 q3 HZ.out hn (by omega) (by omega) (by omega) (by omega) (by omega), BB _ _ _ _⟩
end Go.Proofs.YtnhjcokmajejcaaDoor
