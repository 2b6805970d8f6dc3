/- SwapOrder, in the program and in the model. -/
import Derived.Test.YtnhjcokmajejcaaDoorReP
import Derived.Test.YtnhjcokmajejcaaDoorIntApp
import Derived.Test.YtnhjcokmajejcaaDoorEvalB
import Derived.Test.YtnhjcokmajejcaaDoorSysB
import Derived.Test.YtnhjcokmajejcaaDoorReI
import Derived.Test.YtnhjcokmajejcaaDoorDgI
import Derived.Deep.RegionHeld3
import Derived.Test.YtnhjcokmajejcaaDoorReS
namespace Go.Proofs.YtnhjcokmajejcaaDoor
open Go.RowKit
set_option maxRecDepth 100000

/-- The order of so many variables as they are numbered. -/
def rngI (N : Nat) : List Int := (List.range N).map fun (k : Nat) => (k : Int)
theorem rngI_len (N : Nat) : (rngI N).length = N := by simp [rngI]
theorem rngI_succ (k : Nat) : rngI (k + 1) = rngI k ++ [(k : Int)] := by
  unfold rngI
  rw [List.range_succ, List.map_append]; rfl
/-- Two that follow each other exchanged. -/
def swL (N v : Nat) : List Int := ((rngI N).set v ((v : Int) + 1)).set (v + 1) (v : Int)
theorem swL_len (N v : Nat) : (swL N v).length = N := by unfold swL; rw [List.length_set, List.length_set, rngI_len]
theorem swL_ord {N v : Nat} (h : v + 1 < N) (h12 : N ≤ 12) : ordB (swL N v) N = true := ordB_iff.2 ⟨by rw [swL_len], by omega, fun u hu => by
  rw [swL_len] at hu
  have hr : (rngI N).length = N := rngI_len N
  by_cases a : u = v
  · subst a
    refine List.mem_iff_getElem?.2 ⟨u + 1, ?_⟩
    unfold swL
    rw [List.getElem?_set_self (by rw [List.length_set]; omega)]
  · by_cases b : u = v + 1
    · subst b
      refine List.mem_iff_getElem?.2 ⟨v, ?_⟩
      unfold swL
      rw [List.getElem?_set_ne (by omega), List.getElem?_set_self (by omega)]
      rfl
    · refine List.mem_iff_getElem?.2 ⟨u, ?_⟩
      unfold swL
      rw [List.getElem?_set_ne (by omega), List.getElem?_set_ne (by omega)]
      simp [rngI, hu]⟩
noncomputable def swapB (d : Dg) (n v : Int) : Dg × Int := if dgB d && decide (0 ≤ v ∧ v ≤ d.vars - 2) then reoB d n (swL d.vars.toNat v.toNat) else (⟨0, []⟩, -1)
noncomputable def swap1 (d : Dg) (n v : Int) : Dg := (swapB d n v).1
noncomputable def swap2 (d : Dg) (n v : Int) : Int := (swapB d n v).2
theorem swap1_len (d : Dg) (n v : Int) : (swap1 d n v).forks.length ≤ 1048576 := by
  unfold swap1 swapB
  split
  · exact reo1_len d n _
  · simp
theorem swapB_no {d : Dg} {n v : Int} (h : (dgB d && decide (0 ≤ v ∧ v ≤ d.vars - 2)) = false) : swapB d n v = (⟨0, []⟩, -1) := if_neg (by rw [h]; simp)
theorem swapB_yes {d : Dg} {n v : Int} {N k : Nat} (h : (dgB d && decide (0 ≤ v ∧ v ≤ d.vars - 2)) = true) (hN : d.vars = N) (hk : v = k) : swapB d n v = reoB d n (swL N k) := by
  unfold swapB
  rw [if_pos h, hN, hk]
  rfl

def arC (f : Nat → Int) (m : Int) : List Value := [.int .i64 (f 0), .int .i64 (f 1), .int .i64 (f 2), .int .i64 (f 3), .int .i64 (f 4), .int .i64 (f 5), .int .i64 (f 6), .int .i64 (f 7), .int .i64 (f 8), .int .i64 (f 9), .int .i64 (f 10), .int .i64 (f 11), .int .i64 m]
def arV (f : Nat → Int) (m : Int) : Value := .agg #[.int .i64 (f 0), .int .i64 (f 1), .int .i64 (f 2), .int .i64 (f 3), .int .i64 (f 4), .int .i64 (f 5), .int .i64 (f 6), .int .i64 (f 7), .int .i64 (f 8), .int .i64 (f 9), .int .i64 (f 10), .int .i64 (f 11), .int .i64 m]
def upF (f : Nat → Int) (v : Nat) (x : Int) : Nat → Int := fun j => if j = v then x else f j
theorem arC_set (f : Nat → Int) (m : Int) {v : Nat} (x : Int) (h : v < 12) : (arC f m).set v (.int .i64 x) = arC (upF f v x) m := by
  match v, h with
  | 0, _ => rfl
  | 1, _ => rfl
  | 2, _ => rfl
  | 3, _ => rfl
  | 4, _ => rfl
  | 5, _ => rfl
  | 6, _ => rfl
  | 7, _ => rfl
  | 8, _ => rfl
  | 9, _ => rfl
  | 10, _ => rfl
  | 11, _ => rfl
theorem arC_at (f : Nat → Int) (m : Int) {v : Nat} (h : v < 12) : (arC f m)[v]? = some (.int .i64 (f v)) := by
  match v, h with
  | 0, _ => rfl
  | 1, _ => rfl
  | 2, _ => rfl
  | 3, _ => rfl
  | 4, _ => rfl
  | 5, _ => rfl
  | 6, _ => rfl
  | 7, _ => rfl
  | 8, _ => rfl
  | 9, _ => rfl
  | 10, _ => rfl
  | 11, _ => rfl
theorem arC_congr {f g : Nat → Int} (m : Int) (h : ∀ j, j < 12 → f j = g j) : arC f m = arC g m := by
  unfold arC
  rw [h 0 (by omega), h 1 (by omega), h 2 (by omega), h 3 (by omega), h 4 (by omega), h 5 (by omega), h 6 (by omega), h 7 (by omega), h 8 (by omega), h 9 (by omega), h 10 (by omega), h 11 (by omega)]
theorem arV_congr {f g : Nat → Int} (m : Int) (h : ∀ j, j < 12 → f j = g j) : arV f m = arV g m := by
  unfold arV
  rw [h 0 (by omega), h 1 (by omega), h 2 (by omega), h 3 (by omega), h 4 (by omega), h 5 (by omega), h 6 (by omega), h 7 (by omega), h 8 (by omega), h 9 (by omega), h 10 (by omega), h 11 (by omega)]
theorem ar_cells {w : World} {g : Nat} {t : TypeId} {f : Nat → Int} {m : Int} (h : Blk w g t (arC f m)) : w.cell? ⟨g, 0, none⟩ = some (.int .i64 (f 0)) ∧ w.cell? ⟨g, 1, none⟩ = some (.int .i64 (f 1)) ∧ w.cell? ⟨g, 2, none⟩ = some (.int .i64 (f 2)) ∧ w.cell? ⟨g, 3, none⟩ = some (.int .i64 (f 3)) ∧ w.cell? ⟨g, 4, none⟩ = some (.int .i64 (f 4)) ∧ w.cell? ⟨g, 5, none⟩ = some (.int .i64 (f 5)) ∧ w.cell? ⟨g, 6, none⟩ = some (.int .i64 (f 6)) ∧ w.cell? ⟨g, 7, none⟩ = some (.int .i64 (f 7)) ∧ w.cell? ⟨g, 8, none⟩ = some (.int .i64 (f 8)) ∧ w.cell? ⟨g, 9, none⟩ = some (.int .i64 (f 9)) ∧ w.cell? ⟨g, 10, none⟩ = some (.int .i64 (f 10)) ∧ w.cell? ⟨g, 11, none⟩ = some (.int .i64 (f 11)) ∧ w.cell? ⟨g, 12, none⟩ = some (.int .i64 (m)) :=
  ⟨h.cell 0, h.cell 1, h.cell 2, h.cell 3, h.cell 4, h.cell 5, h.cell 6, h.cell 7, h.cell 8, h.cell 9, h.cell 10, h.cell 11, h.cell 12⟩
theorem ar_zero {w : World} {g : Nat} {t : TypeId} (h : Blk w g t (arC (fun _ => 0) 0)) : w.cell? ⟨g, 0, none⟩ = some (.int .i64 0) ∧ w.cell? ⟨g, 1, none⟩ = some (.int .i64 0) ∧ w.cell? ⟨g, 2, none⟩ = some (.int .i64 0) ∧ w.cell? ⟨g, 3, none⟩ = some (.int .i64 0) ∧ w.cell? ⟨g, 4, none⟩ = some (.int .i64 0) ∧ w.cell? ⟨g, 5, none⟩ = some (.int .i64 0) ∧ w.cell? ⟨g, 6, none⟩ = some (.int .i64 0) ∧ w.cell? ⟨g, 7, none⟩ = some (.int .i64 0) ∧ w.cell? ⟨g, 8, none⟩ = some (.int .i64 0) ∧ w.cell? ⟨g, 9, none⟩ = some (.int .i64 0) ∧ w.cell? ⟨g, 10, none⟩ = some (.int .i64 0) ∧ w.cell? ⟨g, 11, none⟩ = some (.int .i64 0) ∧ w.cell? ⟨g, 12, none⟩ = some (.int .i64 0) :=
  ⟨h.cell 0, h.cell 1, h.cell 2, h.cell 3, h.cell 4, h.cell 5, h.cell 6, h.cell 7, h.cell 8, h.cell 9, h.cell 10, h.cell 11, h.cell 12⟩
theorem ar_frozen {w : World} {g : Nat} {t : TypeId} {cs : List Value} (h : Blk w g t cs) : w.frozen? ⟨g, 0, none⟩ = false ∧ w.frozen? ⟨g, 1, none⟩ = false ∧ w.frozen? ⟨g, 2, none⟩ = false ∧ w.frozen? ⟨g, 3, none⟩ = false ∧ w.frozen? ⟨g, 4, none⟩ = false ∧ w.frozen? ⟨g, 5, none⟩ = false ∧ w.frozen? ⟨g, 6, none⟩ = false ∧ w.frozen? ⟨g, 7, none⟩ = false ∧ w.frozen? ⟨g, 8, none⟩ = false ∧ w.frozen? ⟨g, 9, none⟩ = false ∧ w.frozen? ⟨g, 10, none⟩ = false ∧ w.frozen? ⟨g, 11, none⟩ = false ∧ w.frozen? ⟨g, 12, none⟩ = false :=
  ⟨h.frozen 0, h.frozen 1, h.frozen 2, h.frozen 3, h.frozen 4, h.frozen 5, h.frozen 6, h.frozen 7, h.frozen 8, h.frozen 9, h.frozen 10, h.frozen 11, h.frozen 12⟩
theorem arrI12 : Tryd.prog.underlying 83 = some (.array 12 3) := by kernel_rfl
theorem run_ar_slice (a : Addr) (m : Nat) (h : m ≤ 12) (W : World) : (Instr.sliceAt 83 (.pointer (some a)) none (some (.int .i64 m)) none).run Tryd.prog W = .ok (.slice (some a) m 12) W := by
  have e : Tryd.prog.arrayLen 83 = 12 := by kernel_rfl
  have e2 : Tryd.prog.elem 83 = 3 := by kernel_rfl
  rw [run_sliceAt_array_h W 83 a (by rw [e, e2]; exact arrI12) .i64 m (by omega) (by rw [e]; omega), e, e2]
  simp [sizeOf, typeInfo, int_row.1, int_row.2.2.1, slicedAt, Addr.add]
theorem run_ar_index (b v : Nat) (h : v < 12) (W : World) : (Instr.indexAt 83 (.pointer (some ⟨b, 0, none⟩)) (.int .i64 (v : Int))).run Tryd.prog W = .ok (.pointer (some ⟨b, v, none⟩)) W := by
  have e : Tryd.prog.arrayLen 83 = 12 := by kernel_rfl
  have e2 : Tryd.prog.elem 83 = 3 := by kernel_rfl
  rw [run_indexAt_array W 83 ⟨b, 0, none⟩ .i64 v (by rw [e, e2]; exact arrI12), e, e2, if_pos (by omega)]
  have ha : (⟨b, 0, none⟩ : Addr).add v = ⟨b, v, none⟩ := by unfold Addr.add; split <;> simp_all
  simp [sizeOf, typeInfo, int_row.1, int_row.2.2.1, ha]
/-- A box of an order is read as a slice. -/
theorem Blk.ar {w : World} {g : Nat} {t : TypeId} {l : List Int} (h : Blk w g t (arC (ix l) l.length)) (h5 : l.length ≤ 12) : Rd w w.heap.size 1 (some ⟨g, 0, none⟩) l.length (ints l) := by
  refine ⟨by rw [len_ints]; omega, fun _ => ⟨_, rfl, h.lt, fun j u hu => ?_⟩⟩
  have hj : j < l.length := by
    have := (List.getElem?_eq_some_iff.1 hu).1
    rw [len_ints] at this; exact this
  have hadd : (⟨g, 0, none⟩ : Addr).add j = ⟨g, j, none⟩ := by unfold Addr.add; split <;> simp_all
  rw [hadd, h.cell, arC_at _ _ (by omega)]
  rw [← hu]
  unfold ints ix
  rw [List.getElem?_map, List.getElem?_eq_getElem hj]; rfl
set_option maxHeartbeats 1000000 in
theorem listA_any (l : List Int) (w : World) (h5 : l.length ≤ 12) : Calls Tryd.prog 59 #[arV (ix l) l.length] w (GivesInts w l) := by
  obtain ⟨m, hm⟩ : ∃ m : Nat, m = l.length := ⟨_, rfl⟩
  have HM := Lib.hid hm
  unfold arV
  rw [← hm] at h5 ⊢
  clear hm
  have HS := fun W => run_ar_slice ⟨w.heap.size, 0, none⟩ m h5 W
  have HC := Lib.hid (fun T => (Blk.new w (arC (ix l) l.length).toArray T).ar (by rw [← HM.out]; exact h5))
  rw [← HM.out] at HC
  unfold arC at HC
  go_enter Tryd.func59, Tryd.ntmps59
  go_wp2_with fail
  refine (clone_int _ m 12 l _ (HC.out _) (by omega)).mono ?_
  rintro e w2 ⟨v, rfl, o2, b2⟩
  go_wp2
  go_ret
  exact ⟨v, rfl, own_lower o2 (by simp), below_call b2⟩
/-- What is numbered so far. -/
def nuF (k : Nat) : Nat → Int := fun j => if j < k then (j : Int) else 0
theorem nuF_up (k : Nat) : ∀ j, upF (nuF k) k k j = nuF (k + 1) j := fun j => by
  unfold upF nuF
  by_cases a : j = k
  · subst a; rw [if_pos rfl, if_pos (by omega)]
  · rw [if_neg a]
    by_cases b : j < k
    · rw [if_pos b, if_pos (by omega)]
    · rw [if_neg b, if_neg (by omega)]
theorem ix_rngI {N j : Nat} : ix (rngI N) j = nuF N j := by
  unfold nuF
  by_cases h : j < N
  · rw [if_pos h, ix_lt (by rw [rngI_len]; exact h)]; simp [rngI]
  · rw [if_neg h]; unfold ix; rw [List.getElem?_eq_none (by rw [rngI_len]; omega)]; rfl
set_option maxHeartbeats 4000000 in
theorem numbered_any (N : Nat) (hN : N ≤ 12) (w : World) : Calls Tryd.prog 57 #[.int .i64 N] w (GivesV w (arV (ix (rngI N)) N)) := by
  rw [arV_congr N (fun j _ => ix_rngI (N := N) (j := j))]
  have NX := Lib.hid (fun k (hk : k < N) => (arC_set (nuF k) N (v := k) k (by omega)).trans (arC_congr N (fun j _ => nuF_up k j)))
  have B0 : Below w.heap.size w ((w.alloc (.cells #[.int .i64 0, .int .i64 0, .int .i64 0, .int .i64 0, .int .i64 0, .int .i64 0, .int .i64 0, .int .i64 0, .int .i64 0, .int .i64 0, .int .i64 0, .int .i64 0, .int .i64 0] 85)).alloc (.cells #[.int .i64 0, .int .i64 0, .int .i64 0, .int .i64 0, .int .i64 0, .int .i64 0, .int .i64 0, .int .i64 0, .int .i64 0, .int .i64 0, .int .i64 0, .int .i64 0, .int .i64 N] 85)) := (below_alloc w _).alloc (by simp) _
  have BX := Lib.hid (fun W (hW : Below (w.heap.size + 1) (w.alloc (.cells #[.int .i64 0, .int .i64 0, .int .i64 0, .int .i64 0, .int .i64 0, .int .i64 0, .int .i64 0, .int .i64 0, .int .i64 0, .int .i64 0, .int .i64 0, .int .i64 0, .int .i64 0] 85)) W) => ((Blk.new w #[.int .i64 0, .int .i64 0, .int .i64 0, .int .i64 0, .int .i64 0, .int .i64 0, .int .i64 0, .int .i64 0, .int .i64 0, .int .i64 0, .int .i64 0, .int .i64 0, .int .i64 0] 85).below hW (Nat.lt_succ_self _) : Blk W w.heap.size 85 (arC (fun _ => 0) 0)))
  have K0 : Blk ((w.alloc (.cells #[.int .i64 0, .int .i64 0, .int .i64 0, .int .i64 0, .int .i64 0, .int .i64 0, .int .i64 0, .int .i64 0, .int .i64 0, .int .i64 0, .int .i64 0, .int .i64 0, .int .i64 0] 85)).alloc (.cells #[.int .i64 0, .int .i64 0, .int .i64 0, .int .i64 0, .int .i64 0, .int .i64 0, .int .i64 0, .int .i64 0, .int .i64 0, .int .i64 0, .int .i64 0, .int .i64 0, .int .i64 N] 85)) (w.heap.size + 1) 85 (arC (nuF 0) N) := by have := Blk.new (w.alloc (.cells #[.int .i64 0, .int .i64 0, .int .i64 0, .int .i64 0, .int .i64 0, .int .i64 0, .int .i64 0, .int .i64 0, .int .i64 0, .int .i64 0, .int .i64 0, .int .i64 0, .int .i64 0] 85)) #[.int .i64 0, .int .i64 0, .int .i64 0, .int .i64 0, .int .i64 0, .int .i64 0, .int .i64 0, .int .i64 0, .int .i64 0, .int .i64 0, .int .i64 0, .int .i64 0, .int .i64 N] 85; rw [World.size_alloc] at this; exact this
  have A0 : Below (w.heap.size + 1) (w.alloc (.cells #[.int .i64 0, .int .i64 0, .int .i64 0, .int .i64 0, .int .i64 0, .int .i64 0, .int .i64 0, .int .i64 0, .int .i64 0, .int .i64 0, .int .i64 0, .int .i64 0, .int .i64 0] 85)) ((w.alloc (.cells #[.int .i64 0, .int .i64 0, .int .i64 0, .int .i64 0, .int .i64 0, .int .i64 0, .int .i64 0, .int .i64 0, .int .i64 0, .int .i64 0, .int .i64 0, .int .i64 0, .int .i64 0] 85)).alloc (.cells #[.int .i64 0, .int .i64 0, .int .i64 0, .int .i64 0, .int .i64 0, .int .i64 0, .int .i64 0, .int .i64 0, .int .i64 0, .int .i64 0, .int .i64 0, .int .i64 0, .int .i64 N] 85)) := (Below.refl _ _).alloc (by simp) _
  have HX := Lib.hid (fun k W (hk : k < 12) => run_ar_index (w.heap.size + 1) k hk W)
  go_enter Tryd.func57, Tryd.ntmps57
  go_wp2_with fail
  go_loopg [8] N (fun r i wr => ∃ k : Nat, k + r = N ∧ i = .int .i64 k ∧ Blk wr (w.heap.size + 1) 85 (arC (nuF k) N) ∧ Below (w.heap.size + 1) (w.alloc (.cells #[.int .i64 0, .int .i64 0, .int .i64 0, .int .i64 0, .int .i64 0, .int .i64 0, .int .i64 0, .int .i64 0, .int .i64 0, .int .i64 0, .int .i64 0, .int .i64 0, .int .i64 0] 85)) wr)
  case atStart => exact ⟨0, by omega, rfl, K0, A0⟩
  case round =>
    clear K0 A0
    obtain ⟨k, hk, rfl, hK, hb⟩ := hrel
    by_cases hlt : k < N
    · have kn : (k : Int) < N := by omega
      have hk2 := Lib.hid (hK.set k (.int .i64 k))
      rw [NX.out k hlt] at hk2
      have zf := hK.frozen k
      have z : wr.cell? ⟨w.heap.size + 1, k, none⟩ = some (.int .i64 (nuF k k)) := by rw [hK.cell k, arC_at _ _ (by omega)]
      have HXk := fun W => HX.out k W (by omega)
      go_wp2
      go_roundg (N - (k + 1))
      case measure => omega
      case rel => exact ⟨k + 1, by omega, by go_num, hk2.out, hb.setCell (p := ⟨w.heap.size + 1, k, none⟩) (Nat.le_refl _) _⟩
    · obtain rfl : k = N := by omega
      have kn : ¬ (k : Int) < k := by omega
      have B : Below w.heap.size w wr := (below_alloc w _).trans (hb.mono (Nat.le_succ _))
      have K1 := BX.out _ hb
      obtain ⟨p0, p1, p2, p3, p4, p5, p6, p7, p8, p9, p10, p11, p12⟩ := ar_cells hK
      obtain ⟨q0, q1, q2, q3, q4, q5, q6, q7, q8, q9, q10, q11, q12⟩ := ar_zero K1
      obtain ⟨f0, f1, f2, f3, f4, f5, f6, f7, f8, f9, f10, f11, f12⟩ := ar_frozen K1
      clear hK K1
      go_wp2
      refine bodyPost_ret (v := arV (nuF k) k) (by simp [results, Tryd.results57, go_sem, q0, q1, q2, q3, q4, q5, q6, q7, q8, q9, q10, q11, q12, arV]) rfl ⟨rfl, ?_⟩
      exact (((((((((((((B.setCell (by simp) _).setCell (by simp) _).setCell (by simp) _).setCell (by simp) _).setCell (by simp) _).setCell (by simp) _).setCell (by simp) _).setCell (by simp) _).setCell (by simp) _).setCell (by simp) _).setCell (by simp) _).setCell (by simp) _).setCell (by simp) _)
/-- Two places of an order exchanged. -/
def exF (f : Nat → Int) (a b : Nat) : Nat → Int := upF (upF f a (f b)) b (f a)
set_option maxHeartbeats 4000000 in
theorem exchanged_any (f : Nat → Int) (m : Int) (a b : Nat) (ha : a < 12) (hb : b < 12) (hab : a ≠ b) (w : World) : Calls Tryd.prog 58 #[arV f m, .int .i64 a, .int .i64 b] w (GivesV w (arV (exF f a b) m)) := by
  show Calls Tryd.prog 58 #[.agg #[.int .i64 (f 0), .int .i64 (f 1), .int .i64 (f 2), .int .i64 (f 3), .int .i64 (f 4), .int .i64 (f 5), .int .i64 (f 6), .int .i64 (f 7), .int .i64 (f 8), .int .i64 (f 9), .int .i64 (f 10), .int .i64 (f 11), .int .i64 m], .int .i64 a, .int .i64 b] w (GivesV w (arV (exF f a b) m))
  have K : Blk ((w.alloc (.cells #[.int .i64 (f 0), .int .i64 (f 1), .int .i64 (f 2), .int .i64 (f 3), .int .i64 (f 4), .int .i64 (f 5), .int .i64 (f 6), .int .i64 (f 7), .int .i64 (f 8), .int .i64 (f 9), .int .i64 (f 10), .int .i64 (f 11), .int .i64 m] 85)).alloc (.cells #[.int .i64 0, .int .i64 0, .int .i64 0, .int .i64 0, .int .i64 0, .int .i64 0, .int .i64 0, .int .i64 0, .int .i64 0, .int .i64 0, .int .i64 0, .int .i64 0, .int .i64 0] 85)) w.heap.size 85 (arC f m) := (Blk.new w #[.int .i64 (f 0), .int .i64 (f 1), .int .i64 (f 2), .int .i64 (f 3), .int .i64 (f 4), .int .i64 (f 5), .int .i64 (f 6), .int .i64 (f 7), .int .i64 (f 8), .int .i64 (f 9), .int .i64 (f 10), .int .i64 (f 11), .int .i64 m] 85).alloc _
  have K1 : Blk ((w.alloc (.cells #[.int .i64 (f 0), .int .i64 (f 1), .int .i64 (f 2), .int .i64 (f 3), .int .i64 (f 4), .int .i64 (f 5), .int .i64 (f 6), .int .i64 (f 7), .int .i64 (f 8), .int .i64 (f 9), .int .i64 (f 10), .int .i64 (f 11), .int .i64 m] 85)).alloc (.cells #[.int .i64 0, .int .i64 0, .int .i64 0, .int .i64 0, .int .i64 0, .int .i64 0, .int .i64 0, .int .i64 0, .int .i64 0, .int .i64 0, .int .i64 0, .int .i64 0, .int .i64 0] 85)) (w.heap.size + 1) 85 (arC (fun _ => 0) 0) := by have := Blk.new (w.alloc (.cells #[.int .i64 (f 0), .int .i64 (f 1), .int .i64 (f 2), .int .i64 (f 3), .int .i64 (f 4), .int .i64 (f 5), .int .i64 (f 6), .int .i64 (f 7), .int .i64 (f 8), .int .i64 (f 9), .int .i64 (f 10), .int .i64 (f 11), .int .i64 m] 85)) #[.int .i64 0, .int .i64 0, .int .i64 0, .int .i64 0, .int .i64 0, .int .i64 0, .int .i64 0, .int .i64 0, .int .i64 0, .int .i64 0, .int .i64 0, .int .i64 0, .int .i64 0] 85; rw [World.size_alloc] at this; exact this
  have B : Below w.heap.size w ((w.alloc (.cells #[.int .i64 (f 0), .int .i64 (f 1), .int .i64 (f 2), .int .i64 (f 3), .int .i64 (f 4), .int .i64 (f 5), .int .i64 (f 6), .int .i64 (f 7), .int .i64 (f 8), .int .i64 (f 9), .int .i64 (f 10), .int .i64 (f 11), .int .i64 m] 85)).alloc (.cells #[.int .i64 0, .int .i64 0, .int .i64 0, .int .i64 0, .int .i64 0, .int .i64 0, .int .i64 0, .int .i64 0, .int .i64 0, .int .i64 0, .int .i64 0, .int .i64 0, .int .i64 0] 85)) := (below_alloc w _).alloc (by simp) _
  have HXa := fun W => run_ar_index w.heap.size a ha W
  have HXb := fun W => run_ar_index w.heap.size b hb W
  have xa := (K.cell a).trans (arC_at f m ha)
  have xb := (K.cell b).trans (arC_at f m hb)
  have za := K.frozen a
  have zb := K.frozen b
  have K2 := K.set a (.int .i64 (f b))
  rw [arC_set f m (f b) ha] at K2
  have yb := (K2.cell b).trans (arC_at _ m hb)
  have yzb := K2.frozen b
  have K3 := Lib.hid (K2.set b (.int .i64 (f a)))
  rw [arC_set _ m (f a) hb] at K3
  have eS : ([.int .i64 (f 0), .int .i64 (f 1), .int .i64 (f 2), .int .i64 (f 3), .int .i64 (f 4), .int .i64 (f 5), .int .i64 (f 6), .int .i64 (f 7), .int .i64 (f 8), .int .i64 (f 9), .int .i64 (f 10), .int .i64 (f 11), .int .i64 m].set a (.int .i64 (f b))).set b (.int .i64 (f a)) = arC (exF f a b) m := by
    show ((arC f m).set a (.int .i64 (f b))).set b (.int .i64 (f a)) = _
    rw [arC_set f m (f b) ha, arC_set _ m (f a) hb]
    rfl
  clear K1 B K K2
  go_enter Tryd.func58, Tryd.ntmps58
  go_wp2
  go_region
  all_goals
    (try rw [eS])
    have KK : Blk ((w.alloc (.cells (arC (exF f a b) m).toArray 85)).alloc (.cells #[.int .i64 0, .int .i64 0, .int .i64 0, .int .i64 0, .int .i64 0, .int .i64 0, .int .i64 0, .int .i64 0, .int .i64 0, .int .i64 0, .int .i64 0, .int .i64 0, .int .i64 0] 85)).drew w.heap.size 85 (arC (exF f a b) m) := blk_of_heap (((Blk.new w (arC (exF f a b) m).toArray 85)).alloc (.cells #[.int .i64 0, .int .i64 0, .int .i64 0, .int .i64 0, .int .i64 0, .int .i64 0, .int .i64 0, .int .i64 0, .int .i64 0, .int .i64 0, .int .i64 0, .int .i64 0, .int .i64 0] 85)) rfl
    have KZ : Blk ((w.alloc (.cells (arC (exF f a b) m).toArray 85)).alloc (.cells #[.int .i64 0, .int .i64 0, .int .i64 0, .int .i64 0, .int .i64 0, .int .i64 0, .int .i64 0, .int .i64 0, .int .i64 0, .int .i64 0, .int .i64 0, .int .i64 0, .int .i64 0] 85)).drew (w.heap.size + 1) 85 (arC (fun _ => 0) 0) := blk_of_heap (by have := Blk.new (w.alloc (.cells (arC (exF f a b) m).toArray 85)) #[.int .i64 0, .int .i64 0, .int .i64 0, .int .i64 0, .int .i64 0, .int .i64 0, .int .i64 0, .int .i64 0, .int .i64 0, .int .i64 0, .int .i64 0, .int .i64 0, .int .i64 0] 85; rw [World.size_alloc] at this; exact this) rfl
    have B : Below w.heap.size w ((w.alloc (.cells (arC (exF f a b) m).toArray 85)).alloc (.cells #[.int .i64 0, .int .i64 0, .int .i64 0, .int .i64 0, .int .i64 0, .int .i64 0, .int .i64 0, .int .i64 0, .int .i64 0, .int .i64 0, .int .i64 0, .int .i64 0, .int .i64 0] 85)).drew := ((below_alloc w _).alloc (by simp) _).drew
    generalize ((w.alloc (.cells (arC (exF f a b) m).toArray 85)).alloc (.cells #[.int .i64 0, .int .i64 0, .int .i64 0, .int .i64 0, .int .i64 0, .int .i64 0, .int .i64 0, .int .i64 0, .int .i64 0, .int .i64 0, .int .i64 0, .int .i64 0, .int .i64 0] 85)).drew = wr at *
    generalize exF f a b = F at *
    obtain ⟨p0, p1, p2, p3, p4, p5, p6, p7, p8, p9, p10, p11, p12⟩ := ar_cells KK
    obtain ⟨q0, q1, q2, q3, q4, q5, q6, q7, q8, q9, q10, q11, q12⟩ := ar_zero KZ
    obtain ⟨f0, f1, f2, f3, f4, f5, f6, f7, f8, f9, f10, f11, f12⟩ := ar_frozen KZ
    clear KK KZ HXa HXb xa xb za zb yb yzb K3 eS
    go_wp2
    refine bodyPost_ret (v := arV F m) (by simp [results, Tryd.results58, go_sem, q0, q1, q2, q3, q4, q5, q6, q7, q8, q9, q10, q11, q12, arV]) rfl ⟨rfl, ?_⟩
    exact (((((((((((((B.setCell (by simp) _).setCell (by simp) _).setCell (by simp) _).setCell (by simp) _).setCell (by simp) _).setCell (by simp) _).setCell (by simp) _).setCell (by simp) _).setCell (by simp) _).setCell (by simp) _).setCell (by simp) _).setCell (by simp) _).setCell (by simp) _)

theorem swapB_none {d : Dg} {n v : Int} (h : (dgB d && isP d n) = false) : swapB d n v = (⟨0, []⟩, -1) := by
  unfold swapB
  split
  · exact reoB_no (by cases q : dgB d <;> simp_all)
  · rfl
theorem isV_far {d : Dg} {n v : Int} (h : isV d v = false ∨ isV d (v + 1) = false) : swapB d n v = (⟨0, []⟩, -1) := by
  refine swapB_no ?_
  have : ¬ (0 ≤ v ∧ v ≤ d.vars - 2) := by
    rcases h with h | h
    · unfold isV at h
      have := of_decide_eq_false h
      omega
    · unfold isV at h
      have := of_decide_eq_false h
      omega
  rw [decide_eq_false this]; simp
theorem exF_sw {N u : Nat} (h : u + 1 < N) : ∀ j, j < 12 → exF (ix (rngI N)) u (u + 1) j = ix (swL N u) j := fun j _ => by
  have a0 : ix (rngI N) u = u := by rw [ix_rngI]; unfold nuF; rw [if_pos (by omega)]
  have a1 : ix (rngI N) (u + 1) = (u : Int) + 1 := by rw [ix_rngI]; unfold nuF; rw [if_pos h]; omega
  have e : ix (swL N u) j = if u + 1 = j then (u : Int) else if u = j then (u : Int) + 1 else ix (rngI N) j := by
    have hl := rngI_len N
    unfold swL ix
    rw [List.getElem?_set, List.getElem?_set]
    by_cases p : u + 1 = j
    · subst p; simp [hl, h]
    · by_cases q : u = j
      · subst q; simp [hl, show u < N by omega]
      · simp [p, q]
  rw [e]
  unfold exF upF
  by_cases p : j = u + 1
  · subst p; rw [if_pos rfl, if_pos rfl, a0]
  · rw [if_neg p, if_neg (show ¬ u + 1 = j by omega)]
    by_cases q : j = u
    · rw [if_pos q, if_pos q.symm, a1]
    · rw [if_neg q, if_neg (fun z => q z.symm)]

set_option maxHeartbeats 8000000 in
theorem swap_impl (d : Dg) (n v : Int) (A : Option Addr) (n1 c : Nat) (w : World) (h1 : Mem.rd w w.heap.size [.slice A n1 c] d.forks) (hT : DoorAt w) :
    Calls Tryd.prog 26 #[.agg #[.int .i64 d.vars, .slice A n1 c], .int .i64 n, .int .i64 v] w (GivesDgN w (swapB d n v).1 (swapB d n v).2) := by
  obtain rfl : d.forks.length = n1 := rd_len h1
  have BX := Lib.hid (two_boxes w #[.int .i64 d.vars, .slice A d.forks.length c] #[.int .i64 0, .slice none 0 0] 35 35)
  have B0 : Below w.heap.size w ((w.alloc (.cells #[.int .i64 d.vars, .slice A d.forks.length c] 35)).alloc (.cells #[.int .i64 0, .slice none 0 0] 35)) := (below_alloc w _).alloc (by simp) _
  have HP := Lib.hid (fun W (B : Below w.heap.size w W) => hasPlaces_any d [n] A d.forks.length c (some ⟨W.heap.size, 0, none⟩) 1 1 (W.alloc (.cells #[.int .i64 n] 3)) (Mem.rd_on_alloc (Mem.rd_on h1 B) _) (rd_newD1 W n))
  have HV := Lib.hid (fun x W => hasVar_any d A d.forks.length c x W)
  have eP : (dgB d && areP d [n]) = (dgB d && isP d n) := by simp [areP]
  rw [eP] at HP
  cases k1 : (dgB d && isP d n)
  · rw [k1] at HP
    rw [swapB_none (v := v) k1]
    have MK0 := HP.out _ B0
    simp only [World.size_alloc] at MK0
    obtain ⟨m, fs⟩ := d
    dsimp only at *
    clear k1 h1 eP hT HP HV
    go_enter Tryd.func26, Tryd.ntmps26
    go_wp2_with fail
    refine MK0.mono ?_
    rintro e w1 ⟨rfl, b1'⟩
    have b1 := below_call b1'
    obtain ⟨B1, kb1, kr1⟩ := BX.out _ b1
    have x0 := kb1.cell 0
    have x1 := kb1.cell 1
    have f0 := kr1.frozen 0
    have f1 := kr1.frozen 1
    have y0 := kr1.cell 0
    have y1 := kr1.cell 1
    simp only [List.getElem?_cons_zero, List.getElem?_cons_succ] at x0 x1 y0 y1
    go_wp2
    have K2 := (kr1.set 0 (.int .i64 0)).set 1 (.slice none 0 0)
    have b8 := (B1.setCell (p := ⟨w.heap.size + 1, 0, none⟩) (Nat.le_succ _) (.int .i64 0)).setCell (p := ⟨w.heap.size + 1, 1, none⟩) (Nat.le_succ _) (.slice none 0 0)
    generalize (w1.setCell ⟨w.heap.size + 1, 0, none⟩ (.int .i64 0)).setCell ⟨w.heap.size + 1, 1, none⟩ (.slice none 0 0) = w8 at K2 b8 ⊢
    have r0 := K2.cell 0
    have r1 := K2.cell 1
    simp only [List.set_cons_zero, List.set_cons_succ, List.getElem?_cons_zero, List.getElem?_cons_succ] at r0 r1
    exact bodyPost_ret (v := .tuple #[.agg #[.int .i64 0, .slice none 0 0], .int .i64 (-1)]) (by simp [results, Tryd.results26, go_sem, r0, r1]) rfl (gives_dg_nil b8)
  · rw [k1] at HP
    have MK0 := HP.out _ B0
    simp only [World.size_alloc] at MK0
    rw [Bool.and_eq_true] at k1
    have ok := dgB_iff.1 k1.1
    have lo := ok.lo
    have hi := ok.hi
    cases k2 : isV d v
    · rw [isV_far (.inl k2)]
      have HV1 := Lib.hid (fun W => HV.out v W)
      rw [k2] at HV1
      obtain ⟨m, fs⟩ := d
      dsimp only at *
      clear k1 k2 h1 eP hT HP HV ok lo hi
      go_enter Tryd.func26, Tryd.ntmps26
      go_wp2_with fail
      refine MK0.mono ?_
      rintro e w1 ⟨rfl, b1'⟩
      have b1 := below_call b1'
      obtain ⟨B1, kb1, kr1⟩ := BX.out _ b1
      have x0 := kb1.cell 0
      have x1 := kb1.cell 1
      have f0 := kr1.frozen 0
      have f1 := kr1.frozen 1
      have y0 := kr1.cell 0
      have y1 := kr1.cell 1
      simp only [List.getElem?_cons_zero, List.getElem?_cons_succ] at x0 x1 y0 y1
      go_wp2_with fail
      refine (HV1.out _).mono ?_
      rintro e w2 ⟨rfl, c2⟩
      have b2 := b1.trans (c2.mono b1.size)
      obtain ⟨B2, kb2, kr2⟩ := BX.out _ b2
      have x0 := kb2.cell 0
      have x1 := kb2.cell 1
      have f0 := kr2.frozen 0
      have f1 := kr2.frozen 1
      have y0 := kr2.cell 0
      have y1 := kr2.cell 1
      simp only [List.getElem?_cons_zero, List.getElem?_cons_succ] at x0 x1 y0 y1
      go_wp2
      have K2 := (kr2.set 0 (.int .i64 0)).set 1 (.slice none 0 0)
      have b8 := (B2.setCell (p := ⟨w.heap.size + 1, 0, none⟩) (Nat.le_succ _) (.int .i64 0)).setCell (p := ⟨w.heap.size + 1, 1, none⟩) (Nat.le_succ _) (.slice none 0 0)
      generalize (w2.setCell ⟨w.heap.size + 1, 0, none⟩ (.int .i64 0)).setCell ⟨w.heap.size + 1, 1, none⟩ (.slice none 0 0) = w8 at K2 b8 ⊢
      have r0 := K2.cell 0
      have r1 := K2.cell 1
      simp only [List.set_cons_zero, List.set_cons_succ, List.getElem?_cons_zero, List.getElem?_cons_succ] at r0 r1
      exact bodyPost_ret (v := .tuple #[.agg #[.int .i64 0, .slice none 0 0], .int .i64 (-1)]) (by simp [results, Tryd.results26, go_sem, r0, r1]) rfl (gives_dg_nil b8)
    · have v2 := of_decide_eq_true k2
      have wv : IntKind.i64.wrap (v + 1) = v + 1 := IntWalk.i64_in _ (by omega)
      have HV1 := Lib.hid (fun W => HV.out v W)
      rw [k2] at HV1
      cases k3 : isV d (v + 1)
      · rw [isV_far (.inr k3)]
        have HV2 := Lib.hid (fun W => HV.out (v + 1) W)
        rw [k3] at HV2
        obtain ⟨m, fs⟩ := d
        dsimp only at *
        clear k1 k2 k3 h1 eP hT HP HV ok lo hi v2
        go_enter Tryd.func26, Tryd.ntmps26
        go_wp2_with fail
        refine MK0.mono ?_
        rintro e w1 ⟨rfl, b1'⟩
        have b1 := below_call b1'
        obtain ⟨B1, kb1, kr1⟩ := BX.out _ b1
        have x0 := kb1.cell 0
        have x1 := kb1.cell 1
        have f0 := kr1.frozen 0
        have f1 := kr1.frozen 1
        have y0 := kr1.cell 0
        have y1 := kr1.cell 1
        simp only [List.getElem?_cons_zero, List.getElem?_cons_succ] at x0 x1 y0 y1
        go_wp2_with fail
        refine (HV1.out _).mono ?_
        rintro e w2 ⟨rfl, c2⟩
        have b2 := b1.trans (c2.mono b1.size)
        obtain ⟨B2, kb2, kr2⟩ := BX.out _ b2
        have x0 := kb2.cell 0
        have x1 := kb2.cell 1
        have f0 := kr2.frozen 0
        have f1 := kr2.frozen 1
        have y0 := kr2.cell 0
        have y1 := kr2.cell 1
        simp only [List.getElem?_cons_zero, List.getElem?_cons_succ] at x0 x1 y0 y1
        go_wp2_with fail
        refine (HV2.out _).mono ?_
        rintro e w3 ⟨rfl, c3⟩
        have b3 := b2.trans (c3.mono b2.size)
        obtain ⟨B3, kb3, kr3⟩ := BX.out _ b3
        have x0 := kb3.cell 0
        have x1 := kb3.cell 1
        have f0 := kr3.frozen 0
        have f1 := kr3.frozen 1
        have y0 := kr3.cell 0
        have y1 := kr3.cell 1
        simp only [List.getElem?_cons_zero, List.getElem?_cons_succ] at x0 x1 y0 y1
        go_wp2
        have K2 := (kr3.set 0 (.int .i64 0)).set 1 (.slice none 0 0)
        have b8 := (B3.setCell (p := ⟨w.heap.size + 1, 0, none⟩) (Nat.le_succ _) (.int .i64 0)).setCell (p := ⟨w.heap.size + 1, 1, none⟩) (Nat.le_succ _) (.slice none 0 0)
        generalize (w3.setCell ⟨w.heap.size + 1, 0, none⟩ (.int .i64 0)).setCell ⟨w.heap.size + 1, 1, none⟩ (.slice none 0 0) = w8 at K2 b8 ⊢
        have r0 := K2.cell 0
        have r1 := K2.cell 1
        simp only [List.set_cons_zero, List.set_cons_succ, List.getElem?_cons_zero, List.getElem?_cons_succ] at r0 r1
        exact bodyPost_ret (v := .tuple #[.agg #[.int .i64 0, .slice none 0 0], .int .i64 (-1)]) (by simp [results, Tryd.results26, go_sem, r0, r1]) rfl (gives_dg_nil b8)
      · have HV2 := Lib.hid (fun W => HV.out (v + 1) W)
        rw [k3] at HV2
        have v3 := of_decide_eq_true k3
        obtain ⟨N, hN⟩ : ∃ N : Nat, d.vars = N := ⟨d.vars.toNat, by omega⟩
        obtain ⟨u, rfl⟩ : ∃ u : Nat, v = u := ⟨v.toNat, by omega⟩
        have N12 : N ≤ 12 := by omega
        have u1 : u + 1 < N := by omega
        obtain ⟨p0, p1⟩ := isP_iff.1 k1.2
        rw [swapB_yes (by rw [k1.1, decide_eq_true (show 0 ≤ (u : Int) ∧ (u : Int) ≤ d.vars - 2 by omega)]; rfl) hN rfl]
        have so := swL_ord u1 N12
        rw [reoB_yes (by rw [k1.1, k1.2, hN, so]; rfl) hN]
        obtain ⟨m, rfl⟩ : ∃ m : Nat, n = m := ⟨n.toNat, by omega⟩
        have NU := Lib.hid (fun W => numbered_any N N12 W)
        have EX := Lib.hid (fun W => show Calls Tryd.prog 58 #[arV (ix (rngI N)) N, .int .i64 u, .int .i64 ((u : Int) + 1)] W (GivesV W (arV (ix (swL N u)) N)) by
          have := exchanged_any (ix (rngI N)) N u (u + 1) (by omega) (by omega) (by omega) W
          rw [arV_congr _ (exF_sw u1)] at this
          exact this)
        have LI := Lib.hid (fun W => show Calls Tryd.prog 59 #[arV (ix (swL N u)) N] W (GivesInts W (swL N u)) by
          have := listA_any (swL N u) W (by rw [swL_len]; exact N12)
          rw [swL_len] at this
          exact this)
        have SL := Lib.hid (swL_len N u)
        have RO := Lib.hid (fun W (B : Below w.heap.size w W) (A6 : Option Addr) (c6 : Nat) (o : Rd W W.heap.size 1 A6 N (ints (swL N u))) => reordered_any d ok N m hN (by omega) (swL N u) (swL_len N u) (fun k hk => by have := ord_in so (k := k) (by rw [swL_len]; exact hk); rw [swL_len] at this; exact this) A A6 c c6 W (Mem.rd_on h1 B) o (hT.on B))
        have HW := Lib.hid (roF_top N N12 (Trd d m (swL N u))).1.few
        obtain ⟨R, eR⟩ : ∃ R, R = roF N ⟨N, []⟩ 0 (rowsT N (Trd d m (swL N u))) := ⟨_, rfl⟩
        rw [← eR] at RO HW ⊢
        rw [hN] at BX MK0 HV1 HV2 RO ⊢
        clear k1 k2 k3 h1 eP hT HP HV ok lo hi hN N12 v2 v3 p0 p1 so eR B0
        obtain ⟨⟨rm, rg⟩, re⟩ := R
        dsimp only at *
        go_enter Tryd.func26, Tryd.ntmps26
        go_wp2_with fail
        refine MK0.mono ?_
        rintro e w1 ⟨rfl, b1'⟩
        have b1 := below_call b1'
        obtain ⟨B1, kb1, kr1⟩ := BX.out _ b1
        have x0 := kb1.cell 0
        have x1 := kb1.cell 1
        have f0 := kr1.frozen 0
        have f1 := kr1.frozen 1
        have y0 := kr1.cell 0
        have y1 := kr1.cell 1
        simp only [List.getElem?_cons_zero, List.getElem?_cons_succ] at x0 x1 y0 y1
        go_wp2_with fail
        refine (HV1.out _).mono ?_
        rintro e w2 ⟨rfl, c2⟩
        have b2 := b1.trans (c2.mono b1.size)
        obtain ⟨B2, kb2, kr2⟩ := BX.out _ b2
        have x0 := kb2.cell 0
        have x1 := kb2.cell 1
        have f0 := kr2.frozen 0
        have f1 := kr2.frozen 1
        have y0 := kr2.cell 0
        have y1 := kr2.cell 1
        simp only [List.getElem?_cons_zero, List.getElem?_cons_succ] at x0 x1 y0 y1
        go_wp2_with fail
        refine (HV2.out _).mono ?_
        rintro e w3 ⟨rfl, c3⟩
        have b3 := b2.trans (c3.mono b2.size)
        obtain ⟨B3, kb3, kr3⟩ := BX.out _ b3
        have x0 := kb3.cell 0
        have x1 := kb3.cell 1
        have f0 := kr3.frozen 0
        have f1 := kr3.frozen 1
        have y0 := kr3.cell 0
        have y1 := kr3.cell 1
        simp only [List.getElem?_cons_zero, List.getElem?_cons_succ] at x0 x1 y0 y1
        have l0 := kb3.lt
        have l1 := kr3.lt
        have KR3 := Lib.hid kr3
        have HB3 := Lib.hid b3
        have BW := Lib.hid (fun W (b : Below w3.heap.size w3 W) => B3.trans (b.mono B3.size))
        clear b1' b1 c2 b2 c3 b3 B1 B2 B3 kb1 kr1 kb2 kr2 kb3 kr3 f0 f1 y0 y1 MK0 HV1 HV2
        go_upto_region 3 with fail
        go_region_held3 (fun w' => w'.cell? ⟨w.heap.size, 0, none⟩ = some (.int .i64 N) ∧ w'.cell? ⟨w.heap.size, 1, none⟩ = some (.slice A d.forks.length c)) (go_keep)
          (first
            | (go_at_call 57; refine (NU.out _).mono ?_; rintro e w4 ⟨rfl, b4'⟩
               have b4 : Below w3.heap.size w3 w4 := ⟨b4'.os, b4'.tape, b4'.output, b4'.size, b4'.block⟩
               have x0 := cell_below b4 (p := ⟨w.heap.size, 0, none⟩) l0 x0
               have x1 := cell_below b4 (p := ⟨w.heap.size, 1, none⟩) l0 x1
               clear b4')
            | (go_at_call 58; refine (EX.out _).mono ?_; rintro e w5 ⟨rfl, b5'⟩
               have b5 := b4.trans (b5'.mono b4.size)
               have x0 := cell_below b5' (p := ⟨w.heap.size, 0, none⟩) (Nat.lt_of_lt_of_le l0 b4.size) x0
               have x1 := cell_below b5' (p := ⟨w.heap.size, 1, none⟩) (Nat.lt_of_lt_of_le l0 b4.size) x1
               clear b5')
            | (go_at_call 59; refine (LI.out _).mono ?_; rintro e w6 ⟨v6, rfl, o6, b6'⟩
               obtain ⟨A6, c6, rfl⟩ := row_slice o6
               rw [SL.out] at o6 ⊢
               have b6 := b5.trans (b6'.mono b5.size)
               have x0 := cell_below b6' (p := ⟨w.heap.size, 0, none⟩) (Nat.lt_of_lt_of_le l0 b5.size) x0
               have x1 := cell_below b6' (p := ⟨w.heap.size, 1, none⟩) (Nat.lt_of_lt_of_le l0 b5.size) x1
               have RO6 := Lib.hid (RO.out w6 (BW.out _ b6) A6 c6 (Rd.of_own o6))
               clear o6 b6')
            | (go_at_call 53; refine (RO6.out).mono ?_; rintro e w9 ⟨A7, c7, rfl, o9, d9⟩
               have x0 := cell_below d9 (p := ⟨w.heap.size, 0, none⟩) (Nat.lt_of_lt_of_le l0 b6.size) x0
               have x1 := cell_below d9 (p := ⟨w.heap.size, 1, none⟩) (Nat.lt_of_lt_of_le l0 b6.size) x1
               have b9 := b6.trans (d9.mono b6.size)
               have B9 := Lib.hid (BW.out _ b9)
               have kr9 := KR3.out.below b9 l1
               have f0 := kr9.frozen 0
               have f1 := kr9.frozen 1
               have y0 := kr9.cell 0
               have y1 := kr9.cell 1
               simp only [List.getElem?_cons_zero, List.getElem?_cons_succ] at y0 y1
               have O9 := Lib.hid o9
               have KR9 := Lib.hid kr9
               have l9 := Nat.lt_of_lt_of_le l1 b6.size
               clear o9 kr9))
        all_goals
          (try dsimp only at O9)
          have n9 : (Value.slice A7 (rg).length c7).ownBlock ≠ some (w.heap.size + 1) := fun e => by have := (O9.out.lt _ e).1; omega
          go_wp2
          have K2 := (KR9.out.set 0 (.int .i64 rm)).set 1 (.slice A7 (rg).length c7)
          have o8 := own_away (own_away O9.out (p := ⟨w.heap.size + 1, 0, none⟩) (.int .i64 rm) n9) (p := ⟨w.heap.size + 1, 1, none⟩) (.slice A7 (rg).length c7) n9
          have b8 := (B9.out.setCell (p := ⟨w.heap.size + 1, 0, none⟩) (Nat.le_succ _) (.int .i64 rm)).setCell (p := ⟨w.heap.size + 1, 1, none⟩) (Nat.le_succ _) (.slice A7 (rg).length c7)
          generalize (w9.setCell ⟨w.heap.size + 1, 0, none⟩ (.int .i64 rm)).setCell ⟨w.heap.size + 1, 1, none⟩ (.slice A7 (rg).length c7) = w8 at K2 b8 o8 ⊢
          have r0 := K2.cell 0
          have r1 := K2.cell 1
          simp only [List.set_cons_zero, List.set_cons_succ, List.getElem?_cons_zero, List.getElem?_cons_succ] at r0 r1
          obtain ⟨fp, q1, q2, q3⟩ := own_flat (α := Fk) o8 rfl (by unfold maxLen; have := HW.out; omega)
          exact bodyPost_ret (v := .tuple #[.agg #[.int .i64 rm, .slice A7 (rg).length c7], .int .i64 re]) (by simp [results, Tryd.results26, go_sem, r0, r1]) rfl (by exact ⟨A7, _, c7, fp, rfl, q1, q2, fun y hy => by have := q3 y hy; omega, b8⟩)
theorem swap_implR (d : Dg) (n v : Int) (A : Option Addr) (n1 c : Nat) (w : World) (h1 : Mem.rd w w.heap.size [.slice A n1 c] d.forks) (hT : DoorAt w) :
    Calls Tryd.prog 26 #[.agg #[.int .i64 d.vars, .slice A n1 c], .int .i64 n, .int .i64 v] w (GivesDgN w (swap1 d n v) (swap2 d n v)) := swap_impl d n v A n1 c w h1 hT

set_option maxHeartbeats 2000000 in
theorem l9Plain_any (N : Nat) (hN : N ≤ 12) (w : World) : Calls Tryd.prog 55 #[.int .i64 N] w (GivesInts w (rngI N)) := by
  have own0 : (w.alloc (.cells #[] 3)).ownsRow w.heap.size 3 1 (.slice (some ⟨w.heap.size, 0, none⟩) 0 0) 0 (ints (rngI 0)) :=
    World.ownsRow_lit (base := w.heap.size) (e := 3) (size := 1) w #[] 0 (Nat.le_refl _) (by unfold maxLen; omega) rfl
  have B0 := below_alloc w (.cells #[] 3)
  have RS := Lib.hid (fun k => rngI_succ k)
  have RL := Lib.hid (rngI_len N)
  go_enter Tryd.func55, Tryd.ntmps55
  go_wp2_with fail
  go_loopg [3, 4] N (fun m v i wr => ∃ k : Nat, k + m = N ∧ i = .int .i64 k ∧ wr.ownsRow w.heap.size 3 1 v k (ints (rngI k)) ∧ Below w.heap.size w wr)
  case atStart => exact ⟨0, by omega, rfl, own0, B0⟩
  case round =>
    clear own0 B0
    obtain ⟨k, hk, rfl, ho, hb⟩ := hrel
    by_cases hlt : k < N
    · have kn : (k : Int) < N := by omega
      have RSk := Lib.hid (RS.out k)
      go_wp2_with (first
        | (at_builtin; refine app_int_at rfl _ _ rfl w.heap.size _ k _ _ _ rfl (ho.alloc _) rfl (World.cell?_alloc_at _ _ _ _ (by simp)) (by omega) (by have := hb.size; simp; omega) ?_; intro v' w6 ho6 hb6))
      have b6 := (hb.alloc hb.size _).trans hb6
      go_roundg (N - (k + 1))
      case measure => omega
      case rel => exact ⟨k + 1, by omega, by go_num, by rw [RSk.out]; exact ho6, b6⟩
    · obtain rfl : k = N := by omega
      have kn : ¬ (k : Int) < k := by omega
      go_wp2
      go_ret
      exact ⟨_, rfl, by rw [RL.out]; exact ho, hb⟩
theorem blk_own_part {w : World} {g : Nat} {t : TypeId} {cs xs : List Value} (h : Blk w g t cs) {base n cap : Nat} (hb : base ≤ g) (hn : n ≤ cap) (hc : cap ≤ maxLen) (hs : cs.length = cap) (hx : cs.take n = xs) : w.ownsRow base t 1 (.slice (some ⟨g, 0, none⟩) n cap) n xs :=
  ⟨by rw [← hx, List.length_take]; omega, .inr ⟨g, cap, cs.toArray, rfl, hb, h, hn, hc, by simpa using hs, by simpa using hx⟩⟩
theorem own_part_blk {w : World} {base n : Nat} {t : TypeId} {v : Value} {xs : List Value} (h : w.ownsRow base t 1 v n xs) (hn : 0 < n) : ∃ g cap cs, v = .slice (some ⟨g, 0, none⟩) n cap ∧ base ≤ g ∧ Blk w g t cs ∧ n ≤ cap ∧ cap ≤ maxLen ∧ cs.length = cap ∧ cs.take n = xs := by
  rcases h.2 with ⟨_, h0⟩ | ⟨g, cap, cur, e, hb, hg, h1, h2, h3, h4⟩
  · omega
  · exact ⟨g, cap, cur.toList, e, hb, by unfold Blk; simpa using hg, h1, h2, by simpa using h3, by simpa using h4⟩

theorem only_setS (W : World) (g i : Nat) (u : Value) : Only [g] W (W.setCell ⟨g, i, none⟩ u) :=
  have b := (Below.refl 0 W).setCell (p := ⟨g, i, none⟩) (Nat.zero_le _) u
  ⟨b.os, b.tape, b.output, b.size, fun k _ hn => setCell_heap W _ u (by simpa using hn)⟩
set_option maxHeartbeats 8000000 in
theorem swap_spec (d : Dg) (n v : Int) (A : Option Addr) (n1 c : Nat) (w : World) (h1 : Mem.rd w w.heap.size [.slice A n1 c] d.forks) :
    Calls Tryd.prog 25 #[.agg #[.int .i64 d.vars, .slice A n1 c], .int .i64 n, .int .i64 v] w (GivesDgN w (swapB d n v).1 (swapB d n v).2) := by
  obtain rfl : d.forks.length = n1 := rd_len h1
  have CK := Lib.hid (fun W (B : Below w.heap.size w W) => dgValid_spec d A d.forks.length c W (Mem.rd_on h1 B))
  have BX := Lib.hid (two_boxes w #[.int .i64 d.vars, .slice A d.forks.length c] #[.int .i64 0, .slice none 0 0] 35 35)
  have B0 : Below w.heap.size w ((w.alloc (.cells #[.int .i64 d.vars, .slice A d.forks.length c] 35)).alloc (.cells #[.int .i64 0, .slice none 0 0] 35)) := (below_alloc w _).alloc (by simp) _
  cases k1 : dgB d
  · rw [k1] at CK
    rw [swapB_no (d := d) (n := n) (v := v) (by rw [k1]; rfl)]
    obtain ⟨m, fs⟩ := d
    dsimp only at *
    clear k1 h1
    go_enter Tryd.func25, Tryd.ntmps25
    go_wp2_with fail
    refine (CK.out _ B0).mono ?_
    rintro e w1 ⟨rfl, b1⟩
    obtain ⟨B1, kb1, kr1⟩ := BX.out _ b1
    have x0 := kb1.cell 0
    have x1 := kb1.cell 1
    have f0 := kr1.frozen 0
    have f1 := kr1.frozen 1
    have y0 := kr1.cell 0
    have y1 := kr1.cell 1
    simp only [List.getElem?_cons_zero, List.getElem?_cons_succ] at x0 x1 y0 y1
    go_wp2
    have K2 := (kr1.set 0 (.int .i64 0)).set 1 (.slice none 0 0)
    have b8 := (B1.setCell (p := ⟨w.heap.size + 1, 0, none⟩) (Nat.le_succ _) (.int .i64 0)).setCell (p := ⟨w.heap.size + 1, 1, none⟩) (Nat.le_succ _) (.slice none 0 0)
    generalize (w1.setCell ⟨w.heap.size + 1, 0, none⟩ (.int .i64 0)).setCell ⟨w.heap.size + 1, 1, none⟩ (.slice none 0 0) = w8 at K2 b8 ⊢
    have r0 := K2.cell 0
    have r1 := K2.cell 1
    simp only [List.set_cons_zero, List.set_cons_succ, List.getElem?_cons_zero, List.getElem?_cons_succ] at r0 r1
    exact bodyPost_ret (v := .tuple #[.agg #[.int .i64 0, .slice none 0 0], .int .i64 (-1)]) (by simp [results, Tryd.results25, go_sem, r0, r1]) rfl (gives_dg_nil b8)
  · have ok := dgB_iff.1 k1
    have lo := ok.lo
    have hi := ok.hi
    rw [k1] at CK
    have ws : IntKind.i64.wrap (d.vars - 2) = d.vars - 2 := IntWalk.i64_in _ (by omega)
    by_cases q1 : 0 ≤ v ∧ v ≤ d.vars - 2
    · obtain ⟨N, hN⟩ : ∃ N : Nat, d.vars = N := ⟨d.vars.toNat, by omega⟩
      obtain ⟨u, rfl⟩ : ∃ u : Nat, v = u := ⟨v.toNat, by omega⟩
      rw [swapB_yes (by rw [k1, decide_eq_true q1]; rfl) hN rfl]
      have N12 : N ≤ 12 := by omega
      have u1 : u + 1 < N := by omega
      have RE := Lib.hid (fun W (B : Below w.heap.size w W) (Ao : Option Addr) (co : Nat) (o : W.ownsRow 0 3 1 (.slice Ao N co) N (ints (swL N u))) => reo_spec d n (swL N u) A Ao d.forks.length c N co W (Mem.rd_on h1 B) (rd_ints.2 ⟨by unfold maxLen; omega, Rd.of_own o⟩))
      have LP := Lib.hid (fun W => l9Plain_any N N12 W)
      have HL := Lib.hid (reo1_len d n (swL N u))
      unfold reo1 at HL
      have RL := Lib.hid (rngI_len N)
      have SW : Hid (((ints (rngI N)).set u (.int .i64 ((u : Int) + 1))).set (u + 1) (.int .i64 (u : Int)) = ints (swL N u)) := Lib.hid (by unfold swL ints; rw [List.map_set, List.map_set])
      have wu : IntKind.i64.wrap ((u : Int) + 1) = (u : Int) + 1 := IntWalk.i64_in _ (by omega)
      have q1' : (0 : Int) ≤ (u : Int) ∧ (u : Int) ≤ (N : Int) - 2 := by omega
      rw [hN] at BX B0 CK ws RE ⊢
      clear k1 q1 h1 ok lo hi hN
      generalize reoB d n (swL N u) = R at *
      obtain ⟨⟨rm, rg⟩, re⟩ := R
      dsimp only at *
      go_enter Tryd.func25, Tryd.ntmps25
      go_wp2_with fail
      refine (CK.out _ B0).mono ?_
      rintro e w1 ⟨rfl, b1⟩
      obtain ⟨B1, kb1, kr1⟩ := BX.out _ b1
      have x0 := kb1.cell 0
      have x1 := kb1.cell 1
      have f0 := kr1.frozen 0
      have f1 := kr1.frozen 1
      have y0 := kr1.cell 0
      have y1 := kr1.cell 1
      simp only [List.getElem?_cons_zero, List.getElem?_cons_succ] at x0 x1 y0 y1
      go_wp2_with (first | (go_at_call 54; refine (l1In_yes q1' _).mono ?_; rintro e w3 ⟨rfl, rfl⟩))
      refine (LP.out _).mono ?_
      rintro e w2 ⟨v2, rfl, o2, c2⟩
      have b2 := b1.trans (c2.mono b1.size)
      obtain ⟨B2, kb2, kr2⟩ := BX.out _ b2
      have x0 := kb2.cell 0
      have x1 := kb2.cell 1
      have f0 := kr2.frozen 0
      have f1 := kr2.frozen 1
      have y0 := kr2.cell 0
      have y1 := kr2.cell 1
      simp only [List.getElem?_cons_zero, List.getElem?_cons_succ] at x0 x1 y0 y1
      rw [RL.out] at o2
      obtain ⟨g, cap, cs, rfl, hbg, hK, hn1, hn2, hn3, hx⟩ := own_part_blk o2 (by omega)
      have un : (u : Int) < N := by omega
      have un1 : (u : Int) + 1 < N := by omega
      have lg := hK.lt
      have hz1 := kr1.lt
      have zf := hK.frozen u
      have zf1 := hK.frozen (u + 1)
      have z : w2.cell? ⟨g, u, none⟩ = some (cs[u]'(by omega)) := by rw [hK.cell u, List.getElem?_eq_getElem (by omega)]
      have hK2 := hK.set u (.int .i64 ((u : Int) + 1))
      have z1 : (w2.setCell ⟨g, u, none⟩ (.int .i64 ((u : Int) + 1))).cell? ⟨g, u + 1, none⟩ = some ((cs.set u (.int .i64 ((u : Int) + 1)))[u + 1]'(by rw [List.length_set]; omega)) := by rw [hK2.cell (u + 1), List.getElem?_eq_getElem (by rw [List.length_set]; omega)]
      have hK3 := hK2.set (u + 1) (.int .i64 (u : Int))
      have o3 := blk_own_part (base := 0) (xs := ints (swL N u)) hK3 (Nat.zero_le _) hn1 hn2 (by rw [List.length_set, List.length_set]; exact hn3) (by rw [List.take_set, List.take_set, hx, SW.out])
      have b3 := (b2.setCell (p := ⟨g, u, none⟩) (Nat.le_trans b1.size hbg) (.int .i64 ((u : Int) + 1))).setCell (p := ⟨g, u + 1, none⟩) (Nat.le_trans b1.size hbg) (.int .i64 (u : Int))
      obtain ⟨B3, kb3, kr3⟩ := BX.out _ b3
      have x0 := kb3.cell 0
      have x1 := kb3.cell 1
      have f0 := kr3.frozen 0
      have f1 := kr3.frozen 1
      have y0 := kr3.cell 0
      have y1 := kr3.cell 1
      simp only [List.getElem?_cons_zero, List.getElem?_cons_succ] at x0 x1 y0 y1
      have RE3 := Lib.hid (RE.out _ B3 _ _ o3)
      have HB3 := Lib.hid b3
      clear RE o3 hK hK2 hx o2 CK LP
      go_wp2_with fail
      refine (RE3.out).mono ?_
      rintro e w4 ⟨A4, n4, c4, f4, rfl, o4, q2, q3, c4'⟩
      have b4 := HB3.out.trans (c4'.mono HB3.out.size)
      clear RE3
      obtain ⟨B4, kb4, kr4⟩ := BX.out _ b4
      have x0 := kb4.cell 0
      have x1 := kb4.cell 1
      have f0 := kr4.frozen 0
      have f1 := kr4.frozen 1
      have y0 := kr4.cell 0
      have y1 := kr4.cell 1
      simp only [List.getElem?_cons_zero, List.getElem?_cons_succ] at x0 x1 y0 y1
      have s3 : w.heap.size + 2 ≤ ((w2.setCell ⟨g, u, none⟩ (.int .i64 ((u : Int) + 1))).setCell ⟨g, u + 1, none⟩ (.int .i64 (u : Int))).heap.size := by have := HB3.out.size; (try simp only [World.size_alloc] at this); omega
      have q4 : ∀ b ∈ f4, w.heap.size + 2 ≤ b := fun b hb => Nat.le_trans s3 (q3 b hb)
      have O4 := Lib.hid o4
      have on8 : Only [w.heap.size + 1] w4 ((w4.setCell ⟨w.heap.size + 1, 0, none⟩ (.int .i64 rm)).setCell ⟨w.heap.size + 1, 1, none⟩ (.slice A4 n4 c4)) := (only_setS w4 (w.heap.size + 1) 0 _).trans (only_setS _ (w.heap.size + 1) 1 _)
      clear o4 q3 s3
      go_wp2
      have K2 := (kr4.set 0 (.int .i64 rm)).set 1 (.slice A4 n4 c4)
      have o8 := Mem.own_only O4.out on8 (fun b x y => by have := q4 b x; simp at y; omega)
      have b8 := (B4.setCell (p := ⟨w.heap.size + 1, 0, none⟩) (Nat.le_succ _) (.int .i64 rm)).setCell (p := ⟨w.heap.size + 1, 1, none⟩) (Nat.le_succ _) (.slice A4 n4 c4)
      generalize (w4.setCell ⟨w.heap.size + 1, 0, none⟩ (.int .i64 rm)).setCell ⟨w.heap.size + 1, 1, none⟩ (.slice A4 n4 c4) = w8 at K2 b8 o8 ⊢
      have r0 := K2.cell 0
      have r1 := K2.cell 1
      simp only [List.set_cons_zero, List.set_cons_succ, List.getElem?_cons_zero, List.getElem?_cons_succ] at r0 r1
      exact bodyPost_ret (v := .tuple #[.agg #[.int .i64 rm, .slice A4 n4 c4], .int .i64 re]) (by simp [results, Tryd.results25, go_sem, r0, r1]) rfl (by exact ⟨A4, n4, c4, f4, rfl, o8, q2, fun b hb => by have := q4 b hb; omega, b8⟩)

    · have q1' : v < 0 ∨ d.vars - 2 < v := by omega
      rw [swapB_no (d := d) (n := n) (v := v) (by rw [decide_eq_false q1]; simp)]
      obtain ⟨m, fs⟩ := d
      dsimp only at *
      clear k1 q1 h1 ok lo hi
      go_enter Tryd.func25, Tryd.ntmps25
      go_wp2_with fail
      refine (CK.out _ B0).mono ?_
      rintro e w1 ⟨rfl, b1⟩
      obtain ⟨B1, kb1, kr1⟩ := BX.out _ b1
      have x0 := kb1.cell 0
      have x1 := kb1.cell 1
      have f0 := kr1.frozen 0
      have f1 := kr1.frozen 1
      have y0 := kr1.cell 0
      have y1 := kr1.cell 1
      simp only [List.getElem?_cons_zero, List.getElem?_cons_succ] at x0 x1 y0 y1
      go_wp2_with (first | (go_at_call 54; refine (l1In_no q1' _).mono ?_; rintro e w3 ⟨rfl, rfl⟩))
      have K2 := (kr1.set 0 (.int .i64 0)).set 1 (.slice none 0 0)
      have b8 := (B1.setCell (p := ⟨w.heap.size + 1, 0, none⟩) (Nat.le_succ _) (.int .i64 0)).setCell (p := ⟨w.heap.size + 1, 1, none⟩) (Nat.le_succ _) (.slice none 0 0)
      generalize (w1.setCell ⟨w.heap.size + 1, 0, none⟩ (.int .i64 0)).setCell ⟨w.heap.size + 1, 1, none⟩ (.slice none 0 0) = w8 at K2 b8 ⊢
      have r0 := K2.cell 0
      have r1 := K2.cell 1
      simp only [List.set_cons_zero, List.set_cons_succ, List.getElem?_cons_zero, List.getElem?_cons_succ] at r0 r1
      exact bodyPost_ret (v := .tuple #[.agg #[.int .i64 0, .slice none 0 0], .int .i64 (-1)]) (by simp [results, Tryd.results25, go_sem, r0, r1]) rfl (gives_dg_nil b8)
theorem swap_specR (d : Dg) (n v : Int) (A : Option Addr) (n1 c : Nat) (w : World) (h1 : Mem.rd w w.heap.size [.slice A n1 c] d.forks) :
    Calls Tryd.prog 25 #[.agg #[.int .i64 d.vars, .slice A n1 c], .int .i64 n, .int .i64 v] w (GivesDgN w (swap1 d n v) (swap2 d n v)) := swap_spec d n v A n1 c w h1
end Go.Proofs.YtnhjcokmajejcaaDoor
