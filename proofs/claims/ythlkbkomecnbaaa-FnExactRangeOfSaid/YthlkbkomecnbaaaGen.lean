/- Words that all texts share: blocks that the call has laid, rows and maps from world to world. -/
import Derived.Test.YthlkbkomecnbaaaEqSy
import Derived.Test.YthlkbkomecnbaaaOpenSy
import Derived.Test.YthlkbkomecnbaaaIl
import Derived.Test.YthlkbkomecnbaaaIntApp
import Derived.Deep.RegionHeld3
import Derived.Maps.OwnSet
import Derived.DeepKeys4
namespace Go.Proofs.Ythlkbkomecnbaaa
open Go.RowKit

theorem ci_blk (w : World) (a : Array Value) (t : TypeId) : Blk (w.alloc (.cells a t)) w.heap.size t a.toList := by
  unfold Blk
  show (w.heap.push _)[w.heap.size]? = _
  rw [Array.getElem?_push_size, Array.toArray_toList]
theorem ci_box {w : World} {v1 v2 : Value} {t : TypeId} : ∀ W, Below (w.alloc (.cells #[v1, v2] t)).heap.size (w.alloc (.cells #[v1, v2] t)) W →
    Below w.heap.size w W ∧ W.cell? ⟨w.heap.size, 0, none⟩ = some v1 ∧ W.cell? ⟨w.heap.size, 1, none⟩ = some v2 :=
  fun W hW => ⟨below_call hW, ((ci_blk w _ _).below hW (by simp)).cell 0, ((ci_blk w _ _).below hW (by simp)).cell 1⟩
theorem l1In_yes {n lo hi : Int} (h : lo ≤ n ∧ n ≤ hi) (w : World) :
    Calls Try.prog 48 #[.int .i64 n, .int .i64 lo, .int .i64 hi] w fun e w' => e = .returned (.bool true) ∧ w = w' := by
  have e : inB n lo hi = true := by unfold inB; simp [h.1, h.2]
  rw [← e]; exact l1In_any n lo hi w
theorem l1In_no {n lo hi : Int} (h : n < lo ∨ hi < n) (w : World) :
    Calls Try.prog 48 #[.int .i64 n, .int .i64 lo, .int .i64 hi] w fun e w' => e = .returned (.bool false) ∧ w = w' := by
  have e : inB n lo hi = false := by
    unfold inB
    rcases h with h | h
    · simp [show ¬ lo ≤ n by omega]
    · simp [show ¬ n ≤ hi by omega]
  rw [← e]; exact l1In_any n lo hi w
theorem own_of_heap {w w' : World} {base size k : Nat} {t : TypeId} {v : Value} {xs : List Value} (h : w.ownsRow base t size v k xs) (e : w'.heap = w.heap) : w'.ownsRow base t size v k xs := by
  unfold World.ownsRow at h ⊢
  rw [e]; exact h
theorem rd_of_heap {w w' : World} {base size k : Nat} {t : TypeId} {A : Option Addr} {c : Nat} {xs : List Value} (h : w.ownsRow base t size (.slice A k c) k xs) (e : w'.heap = w.heap) : Rd w' w'.heap.size size A k xs := Rd.of_own (own_of_heap h e)
theorem cell_grown {w w' : World} {row : Option Nat} {p : Addr} {v : Value} (h : w.grownBy w' row) (hp : p.block < w.heap.size) (hr : row ≠ some p.block) (hc : w.cell? p = some v) : w'.cell? p = some v :=
  (World.cell?_of_block (h.block _ hp fun e => hr (by first | exact e | exact e.symm))).trans hc
theorem own_away {w : World} {base size n : Nat} {e : TypeId} {v : Value} {xs : List Value} (h : w.ownsRow base e size v n xs) {p : Addr} (u : Value) (hne : v.ownBlock ≠ some p.block) : (w.setCell p u).ownsRow base e size v n xs :=
  h.kept (row := some p.block) ⟨rfl, rfl, rfl, by simp [World.setCell], fun k _ hk => Below.heap_setCell w p u k (fun e => hk (by rw [e]))⟩ (.inr hne)
theorem blk_grown {w w' : World} {row : Option Nat} {g : Nat} {t : TypeId} {cs : List Value} (h : Blk w g t cs) (hg : w.grownBy w' row) (hne : row ≠ some g) : Blk w' g t cs :=
  (hg.block g h.lt (fun e => hne (by first | exact e | exact e.symm))).trans h
theorem blk_of_heap {w w' : World} {g : Nat} {t : TypeId} {cs : List Value} (h : Blk w g t cs) (e : w'.heap = w.heap) : Blk w' g t cs := by
  unfold Blk at h ⊢
  rw [e]; exact h
theorem blk_on {W w w' : World} {row : Option Nat} {g : Nat} {t : TypeId} {cs : List Value} (hg : W.grownBy w' row) (h : Blk w g t cs) (e : W.heap = w.heap) (hne : row ≠ some g) : Blk w' g t cs := blk_grown (blk_of_heap h e) hg hne
/-- Two blocks that the call has laid. -/
theorem two_boxes (w : World) (a1 a2 : Array Value) (t1 t2 : TypeId) : ∀ W, Below ((w.alloc (.cells a1 t1)).alloc (.cells a2 t2)).heap.size ((w.alloc (.cells a1 t1)).alloc (.cells a2 t2)) W →
    Below w.heap.size w W ∧ Blk W w.heap.size t1 a1.toList ∧ Blk W (w.heap.size + 1) t2 a2.toList := fun W hW => by
  have k0 := ((ci_blk w a1 t1).alloc (.cells a2 t2)).below hW (by simp; omega)
  have k1 := (ci_blk (w.alloc (.cells a1 t1)) a2 t2).below hW (by simp)
  rw [World.size_alloc] at k1
  exact ⟨below_call (below_call hW), k0, k1⟩
theorem three_boxes (w : World) (a1 a2 a3 : Array Value) (t1 t2 t3 : TypeId) : ∀ W, Below (((w.alloc (.cells a1 t1)).alloc (.cells a2 t2)).alloc (.cells a3 t3)).heap.size (((w.alloc (.cells a1 t1)).alloc (.cells a2 t2)).alloc (.cells a3 t3)) W →
    Below w.heap.size w W ∧ Blk W w.heap.size t1 a1.toList ∧ Blk W (w.heap.size + 1) t2 a2.toList ∧ Blk W (w.heap.size + 1 + 1) t3 a3.toList := fun W hW => by
  have k0 := (((ci_blk w a1 t1).alloc (.cells a2 t2)).alloc (.cells a3 t3)).below hW (by simp; omega)
  have k1 := ((ci_blk (w.alloc (.cells a1 t1)) a2 t2).alloc (.cells a3 t3)).below hW (by simp)
  have k2 := (ci_blk ((w.alloc (.cells a1 t1)).alloc (.cells a2 t2)) a3 t3).below hW (by simp)
  rw [World.size_alloc] at k1
  rw [World.size_alloc, World.size_alloc] at k2
  exact ⟨below_call (below_call (below_call hW)), k0, k1, k2⟩
theorem step_mapUpdate {ops : Array Oper} {o : Oper} {a : Act} {K : Act → World → Prop} {Q : Exit → Act → World → Prop} {E : Prop} {W W' : World} (hgd : o.guard = none) (m x v : Operand) (t : TypeId) (ho : o.op = Op.mapUpdate t m x v) (b : Nat) (key val : Value)
    (hm : a.eval m = .map (some b)) (hx : a.eval x = key) (hv : a.eval v = val) (hrun : (Instr.mapUpdate t (.map (some b)) key val).run Try.prog W = .ok () W') (h : K (a.put o.dst undef) W') :
    if Region.wanted o (yielded ops a.tmps) = true then Oper.wp Try.prog o a W K Q else E := by
  have hw : Region.wanted o (yielded ops a.tmps) = true := by simp [Region.wanted, hgd]
  rw [if_pos hw]
  unfold Oper.wp
  simp [execOp, ho, hm, hx, hv, hrun, Result.andThen]
  exact h
theorem int_wf {n : Int} (h0 : 0 ≤ n) (h1 : n < 1000000000) : (Lit.int .i64 n).wf = true := by
  have e1 : IntKind.i64.min = -9223372036854775808 := by decide
  have e2 : IntKind.i64.max = 9223372036854775807 := by decide
  show (decide (IntKind.i64.min ≤ n) && decide (n ≤ IntKind.i64.max)) = true
  simp only [Bool.and_eq_true, decide_eq_true_eq]
  omega
theorem run_makeMap_n {t : TypeId} {k e : TypeId} (ht : Try.prog.underlying t = some (.map k e)) (n : Int) (w : World) : (Instr.makeMap t (some (.int .i64 n))).run Try.prog w = .ok (.map (some w.heap.size)) (w.alloc (.map #[] 0)) := by
  simp [Instr.makeMap, run_underlying ht, asInt, asIntOf, Result.andThen]
end Go.Proofs.Ythlkbkomecnbaaa
