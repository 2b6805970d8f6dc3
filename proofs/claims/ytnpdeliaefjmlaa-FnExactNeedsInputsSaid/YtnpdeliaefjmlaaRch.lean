/- Diagrams: to which places one comes (plain); the library's way through a slice of forks from its end. -/
import Derived.RangeFuncBox
import Derived.RangeFuncLeaves
import Derived.RangeFuncNested
import Derived.Shelf.Abstract
import Derived.WalkKit
import Derived.OwnWalkIn
import Derived.TacticsInMore
import Derived.LoopNIn
import Derived.LoopIn
import Derived.Test.YtnpdeliaefjmlaaDgI
namespace Go.Proofs.Ytnpdeliaefjmlaa
open Go.RowKit Go.Shelf
attribute [local go_sem] Oper.semAt_some
set_option maxRecDepth 100000

/-- The numbers below len from the end on: the first k of them. -/
def downTo (len k : Nat) : List Nat := (List.range k).map fun j => len - 1 - j
theorem downTo_succ (len k : Nat) : downTo len (k + 1) = downTo len k ++ [len - 1 - k] := by simp [downTo, List.range_succ]
theorem downTo_len (len k : Nat) : (downTo len k).length = k := by simp [downTo]
/-- One fork is looked at: if one comes to it, one comes to both of its places. -/
def rstep (d : Dg) (R : Nat → Bool) (i : Nat) : Nat → Bool := fun x => R x || (R (2 + i) && (decide ((x : Int) = (el d.forks i).lo) || decide ((x : Int) = (el d.forks i).hi)))
def rch (d : Dg) (n : Int) (is : List Nat) : Nat → Bool := is.foldl (rstep d) (fun x => decide ((x : Int) = n))
theorem rch_snoc (d : Dg) (n : Int) (is : List Nat) (i : Nat) : rch d n (is ++ [i]) = rstep d (rch d n is) i := by unfold rch; rw [List.foldl_append]; rfl
/-- To which places one comes from a place. -/
def reachF (d : Dg) (n : Int) : Nat → Bool := rch d n (downTo d.forks.length d.forks.length)
/-- The cells of a row that tells this of so many places. -/
def rchC (m : Nat) (R : Nat → Bool) : List Value := (List.range m).map fun x => .bool (R x)
theorem rchC_len (m : Nat) (R : Nat → Bool) : (rchC m R).length = m := by simp [rchC]
theorem rchC_at (m : Nat) (R : Nat → Bool) {x : Nat} (h : x < m) : (rchC m R)[x]? = some (.bool (R x)) := by
  unfold rchC
  rw [List.getElem?_map, List.getElem?_range h]; rfl
theorem rchC_set (m : Nat) (R : Nat → Bool) {x : Nat} : (rchC m R).set x (.bool true) = rchC m (fun y => R y || decide (y = x)) := by
  refine List.ext_getElem? fun i => ?_
  rw [List.getElem?_set]
  by_cases hi : i < m
  · rw [rchC_at m _ hi, rchC_at m _ hi, rchC_len]
    by_cases e : x = i
    · subst e
      rw [if_pos rfl, if_pos hi]
      simp
    · rw [if_neg e, decide_eq_false (fun q => e q.symm), Bool.or_false]
  · rw [List.getElem?_eq_none (l := rchC m _) (by rw [rchC_len]; omega), List.getElem?_eq_none (l := rchC m _) (by rw [rchC_len]; omega), rchC_len]
    by_cases e : x = i
    · rw [if_pos e, if_neg (by omega)]
    · rw [if_neg e]
theorem rchC_ext (m : Nat) {R R' : Nat → Bool} (h : ∀ x, x < m → R x = R' x) : rchC m R = rchC m R' := by
  unfold rchC
  exact List.map_congr_left fun x hx => by rw [h x (List.mem_range.1 hx)]
theorem rstep_no {d : Dg} {R : Nat → Bool} {i : Nat} (h : R (2 + i) = false) : rstep d R i = R := by
  funext x
  unfold rstep
  rw [h, Bool.false_and, Bool.or_false]
theorem rstep_yes {d : Dg} {R : Nat → Bool} {i lo hi : Nat} (h : R (2 + i) = true) (h1 : (el d.forks i).lo = lo) (h2 : (el d.forks i).hi = hi) : rstep d R i = fun y => (R y || decide (y = lo)) || decide (y = hi) := by
  funext x
  unfold rstep
  rw [h, h1, h2, Bool.true_and, Bool.or_assoc]
  congr 2 <;> exact decide_eq_decide.2 ⟨fun h => by omega, fun h => by omega⟩
theorem rchC_two {m : Nat} {d : Dg} {R : Nat → Bool} {i lo hi : Nat} (h : R (2 + i) = true) (h1 : (el d.forks i).lo = lo) (h2 : (el d.forks i).hi = hi) : ((rchC m R).set lo (.bool true)).set hi (.bool true) = rchC m (rstep d R i) := by
  rw [rchC_set, rchC_set, rstep_yes h h1 h2]
theorem rchC_owt {m : Nat} {d : Dg} {R : Nat → Bool} {i lo hi : Nat} (h : R (2 + i) = true) (h1 : (el d.forks i).lo = lo) (h2 : (el d.forks i).hi = hi) : ((rchC m R).set hi (.bool true)).set lo (.bool true) = rchC m (rstep d R i) := by
  rw [rchC_set, rchC_set, rstep_yes h h1 h2]
  exact rchC_ext m fun x _ => by rw [Bool.or_assoc, Bool.or_assoc, Bool.or_comm (decide (x = hi))]

/-- What a round keeps: what lay below n₀, and the box Bs. -/
def KB (n₀ Bs : Nat) (W W' : World) : Prop := Below n₀ W W' ∧ W'.heap[Bs]? = W.heap[Bs]?
theorem kb_t {n₀ Bs : Nat} {A B C : World} (h : KB n₀ Bs A B) (k : KB n₀ Bs B C) : KB n₀ Bs A C := ⟨h.1.trans k.1, k.2.trans h.2⟩
theorem kb_refl (n₀ Bs : Nat) (W : World) : KB n₀ Bs W W := ⟨Below.refl _ _, rfl⟩
theorem kb_b {n₀ Bs : Nat} {w : World} (hn : n₀ ≤ w.heap.size) (hB : Bs < w.heap.size) (W : World) (l : Nat) (o o' : Obj) (hl : w.heap.size ≤ l) (h : W.heap[l]? = some o) (h1 : o.isCells = false) (h2 : o.isWalk = false) : KB n₀ Bs W (W.putObj l o') :=
  ⟨belowK_b hn W l o o' hl h h1 h2, World.putObj_heap_other (by omega)⟩
theorem kb_alloc {n₀ Bs : Nat} {W : World} (o : Obj) (hn : n₀ ≤ W.heap.size) (hB : Bs < W.heap.size) : KB n₀ Bs W (W.alloc o) := ⟨(Below.refl _ _).alloc hn _, Below.heap_alloc W o Bs hB⟩
theorem kb_set {n₀ Bs b i : Nat} {W : World} (u : Value) (hn : n₀ ≤ b) (hB : Bs ≠ b) : KB n₀ Bs W (W.setCell ⟨b, i, none⟩ u) := ⟨(Below.refl _ _).setCell (p := ⟨b, i, none⟩) hn _, setCell_heap _ _ _ (show Bs ≠ b from hB)⟩

set_option maxHeartbeats 2000000 in
theorem back1_in (F : Fence) (n : Nat) (hf : F.fn 121) (hro : F.round = none) (hn : 1 ≤ n) (l Bs n₀ : Nat) (A : Option Addr) (len cap : Nat) (fs : List Fk) (hl : fs.length = len) (hreach : len ≤ 100000)
    (J Jx : List {i : Nat // i < len} → World → Prop)
    (hY : ∀ pre (x : {i : Nat // i < len}) W, J pre W → pre.length < len → YieldAt F (n - 1) Try.prog l #[.int .i64 (x.1 : Int), (el fs x.1).u] W fun e W' =>
      (e = .returned (.bool true) ∧ J (pre ++ [x]) W' ∧ KB n₀ Bs W W') ∨ (e = .returned (.bool false) ∧ Jx (pre ++ [x]) W'))
    (W : World) (hBs : W.cell? ⟨Bs, 0, none⟩ = some (.slice A len cap)) (hr : Mem.rd W n₀ [.slice A len cap] fs) (h0 : J [] W) :
    CallsIn F n Try.prog 121 #[.func (.yield l) #[] #[], .pointer (some ⟨Bs, 0, none⟩)] W fun e W' => (∃ v, e = .returned v) ∧
      ((∃ ys : List {i : Nat // i < len}, ys.map (·.1) = downTo len len ∧ J ys W') ∨ (∃ pre, Jx pre W')) := by
  refine callsIn_of_wp Try.func121 rfl hf ?_ hro
  simp only [Try.ntmps121, List.size_toArray, List.length_cons, List.length_nil, Nat.reduceAdd, Nat.reduceSub, Array.replicate_succ, Array.replicate_zero, List.push_toArray, List.append_toArray, List.nil_append, List.cons_append]
  gi_wp2
  gi_loopw [3] (fun i wr => ∃ k : Nat, k ≤ len ∧ i = .int .i64 ((len : Int) - 1 - k) ∧ (∃ pre : List {i : Nat // i < len}, pre.map (·.1) = downTo len k ∧ J pre wr) ∧ KB n₀ Bs W wr)
    (fun i _ => (intOf i + 1).toNat)
  case atStart => exact ⟨0, Nat.zero_le _, by simp, ⟨[], rfl, h0⟩, kb_refl _ _ _⟩
  case round =>
    obtain ⟨k, hk, rfl, ⟨pre, hp, hJs⟩, hnx⟩ := hrel
    have hBw := (World.cell?_of_block (w := W) (a := ⟨Bs, 0, none⟩) hnx.2).trans hBs
    by_cases hlt : k < len
    · have hpl : pre.length < len := by
        have := congrArg List.length hp
        rw [List.length_map, downTo_len] at this
        omega
      have hj : len - 1 - k < len := by omega
      obtain ⟨fn, tmps, assign, body, hy, hR⟩ := hY pre ⟨len - 1 - k, hj⟩ wr hJs hpl
      have ej : (len : Int) - 1 - k = ((len - 1 - k : Nat) : Int) := by omega
      obtain ⟨ad, rfl, hbl, d0, d1, d2⟩ := fk_at (Mem.rd_below hr hnx.1) hj
      rw [ej]
      dsimp only [Fk.u] at hy
      have HP := Lib.hid hp
      clear hp
      generalize hjj : len - 1 - k = j at *
      generalize hG : el fs j = G at *
      obtain ⟨gv, gl, gh⟩ := G
      dsimp only at *
      gi_wp2
      refine hR.mono ?_
      rintro e W3 (⟨rfl, hJ3, hk3⟩ | ⟨rfl, hJx3⟩)
      · gi_wp2
        go_roundw
        case rel => exact ⟨k + 1, by omega, by go_num, ⟨_, by rw [List.map_append, HP.out, downTo_succ, hjj]; rfl, hJ3⟩, kb_t hnx hk3⟩
        case measure => simp [intOf]
      · gi_wp2
        refine bodyPost_ret (results_none rfl _ _ _) rfl ?_
        exact ⟨⟨_, rfl⟩, .inr ⟨_, hJx3⟩⟩
    · obtain rfl : k = len := by omega
      have ej : (k : Int) - 1 - k = -1 := by omega
      rw [ej]
      gi_wp2
      go_end0
      exact ⟨⟨_, rfl⟩, .inl ⟨pre, hp, hJs⟩⟩

/-- slices.Backward: the slice is boxed; the function value captures the box. -/
theorem back_in (F : Fence) (n : Nat) (hf : F.fn 115) (hro : F.round = none) (A : Option Addr) (len cap : Nat) (w : World) :
    CallsIn F n Try.prog 115 #[.slice A len cap] w fun e w' => e = .returned (.func (.func 121) #[] #[.pointer (some ⟨w.heap.size, 0, none⟩)]) ∧ w' = w.alloc (.cells #[.slice A len cap] 44) := by
  refine callsIn_of_wp Try.func115 rfl hf ?_ hro
  simp only [Try.ntmps115, List.size_toArray, List.length_cons, List.length_nil, Nat.reduceAdd, Nat.reduceSub, Array.replicate_succ, Array.replicate_zero, List.push_toArray, List.append_toArray, List.nil_append, List.cons_append]
  gi_wp2
  go_ret
  exact ⟨rfl, rfl⟩
/-- What slices.Backward hands back gives the forks from the end on. -/
theorem back_stops (F : Fence) (n : Nat) (hf : F.fn 121) (hro : F.round = none) (hn : 1 ≤ n) (Bs n₀ : Nat) (A : Option Addr) (len cap : Nat) (fs : List Fk) (hl : fs.length = len) (hreach : len ≤ 100000) (w : World)
    (hBs : Bs < w.heap.size) (hn₀ : n₀ ≤ w.heap.size) (hc : w.cell? ⟨Bs, 0, none⟩ = some (.slice A len cap)) (hr : Mem.rd w n₀ [.slice A len cap] fs) :
    SeqStopsK F n Try.prog 121 #[.pointer (some ⟨Bs, 0, none⟩)] (fun x : {i : Nat // i < len} => #[.int .i64 (x.1 : Int), (el fs x.1).u]) (KB n₀ Bs) (fun ys => ys.map (·.1) = downTo len len) (fun _ => True) len w := fun l J Jx W hW _ _ hY h0 => by
  refine (back1_in F n hf hro hn l Bs n₀ A len cap fs hl hreach J Jx hY W ((hW.cell (p := ⟨Bs, 0, none⟩) hBs).trans hc) (Mem.rd_below hr (hW.mono hn₀)) h0).mono ?_
  rintro e W' ⟨he, ⟨ys, h1, h2⟩ | ⟨pre, h⟩⟩
  · exact ⟨he, .inl ⟨ys, h1, h2⟩⟩
  · exact ⟨he, .inr ⟨pre, trivial, h⟩⟩
end Go.Proofs.Ytnpdeliaefjmlaa
