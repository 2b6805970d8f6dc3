/- Reordered, in the program. -/
import Derived.Test.YtnhjcokmajejcaaDoorRfI
namespace Go.Proofs.YtnhjcokmajejcaaDoor
open Go.RowKit
set_option maxRecDepth 100000

theorem reoB_no {d : Dg} {n : Int} {order : List Int} (h : (dgB d && (isP d n && ordB order d.vars)) = false) : reoB d n order = (⟨0, []⟩, -1) := if_neg (by rw [h]; simp)
theorem reoB_yes {d : Dg} {n : Int} {order : List Int} {N : Nat} (h : (dgB d && (isP d n && ordB order d.vars)) = true) (hN : d.vars = N) : reoB d n order = roF N ⟨N, []⟩ 0 (rowsT N (Trd d n order)) := by
  unfold reoB
  rw [if_pos h, hN]
  rfl
set_option maxHeartbeats 8000000 in
theorem reo_impl (d : Dg) (n : Int) (order : List Int) (A Ao : Option Addr) (n1 c no co : Nat) (w : World) (h1 : Mem.rd w w.heap.size [.slice A n1 c] d.forks) (h3 : Mem.rd w w.heap.size [.slice Ao no co] order) (hT : DoorAt w) :
    Calls Tryd.prog 22 #[.agg #[.int .i64 d.vars, .slice A n1 c], .int .i64 n, .slice Ao no co] w (GivesDgN w (reoB d n order).1 (reoB d n order).2) := by
  obtain rfl : d.forks.length = n1 := rd_len h1
  have BX := Lib.hid (two_boxes w #[.int .i64 d.vars, .slice A d.forks.length c] #[.int .i64 0, .slice none 0 0] 35 35)
  have B0 : Below w.heap.size w ((w.alloc (.cells #[.int .i64 d.vars, .slice A d.forks.length c] 35)).alloc (.cells #[.int .i64 0, .slice none 0 0] 35)) := (below_alloc w _).alloc (by simp) _
  have HP := Lib.hid (fun W (B : Below w.heap.size w W) => hasPlaces_any d [n] A d.forks.length c (some ⟨W.heap.size, 0, none⟩) 1 1 (W.alloc (.cells #[.int .i64 n] 3)) (Mem.rd_on_alloc (Mem.rd_on h1 B) _) (rd_newD1 W n))
  have OV := Lib.hid (fun W (B : Below w.heap.size w W) => orderValid_impl order d.vars Ao no co W (Mem.rd_on h3 B))
  have eP : (dgB d && areP d [n]) = (dgB d && isP d n) := by simp [areP]
  rw [eP] at HP
  cases k1 : (dgB d && isP d n)
  · rw [k1] at HP
    rw [reoB_no (d := d) (n := n) (order := order) (by cases q : dgB d <;> simp_all)]
    have MK0 := HP.out _ B0
    simp only [World.size_alloc] at MK0
    obtain ⟨v, fs⟩ := d
    dsimp only at *
    clear k1 h1 h3 eP hT OV HP
    go_enter Tryd.func22, Tryd.ntmps22
    go_wp2_with fail
    refine MK0.mono ?_
    rintro e w1 ⟨rfl, b1'⟩
    have b1 := below_call b1'
    obtain ⟨B1, kb1, kr1⟩ := BX.out _ b1
    have x0 := kb1.cell 0
    have x1 := kb1.cell 1
    have f0 := kr1.frozen 0
    have f1 := kr1.frozen 1
    have y0 := kr1.cell 0
    have y1 := kr1.cell 1
    simp only [List.getElem?_cons_zero, List.getElem?_cons_succ] at x0 x1 y0 y1
    go_wp2
    have K2 := (kr1.set 0 (.int .i64 0)).set 1 (.slice none 0 0)
    have b8 := (B1.setCell (p := ⟨w.heap.size + 1, 0, none⟩) (Nat.le_succ _) (.int .i64 0)).setCell (p := ⟨w.heap.size + 1, 1, none⟩) (Nat.le_succ _) (.slice none 0 0)
    generalize (w1.setCell ⟨w.heap.size + 1, 0, none⟩ (.int .i64 0)).setCell ⟨w.heap.size + 1, 1, none⟩ (.slice none 0 0) = w8 at K2 b8 ⊢
    have r0 := K2.cell 0
    have r1 := K2.cell 1
    simp only [List.set_cons_zero, List.set_cons_succ, List.getElem?_cons_zero, List.getElem?_cons_succ] at r0 r1
    exact bodyPost_ret (v := .tuple #[.agg #[.int .i64 0, .slice none 0 0], .int .i64 (-1)]) (by simp [results, Tryd.results22, go_sem, r0, r1]) rfl (gives_dg_nil b8)
  · rw [k1] at HP
    have MK0 := HP.out _ B0
    simp only [World.size_alloc] at MK0
    cases k2 : ordB order d.vars
    · rw [k2] at OV
      rw [reoB_no (d := d) (n := n) (order := order) (by rw [k2]; simp)]
      obtain ⟨v, fs⟩ := d
      dsimp only at *
      clear k1 k2 h1 h3 eP hT HP
      go_enter Tryd.func22, Tryd.ntmps22
      go_wp2_with fail
      refine MK0.mono ?_
      rintro e w1 ⟨rfl, b1'⟩
      have b1 := below_call b1'
      obtain ⟨B1, kb1, kr1⟩ := BX.out _ b1
      have x0 := kb1.cell 0
      have x1 := kb1.cell 1
      have f0 := kr1.frozen 0
      have f1 := kr1.frozen 1
      have y0 := kr1.cell 0
      have y1 := kr1.cell 1
      simp only [List.getElem?_cons_zero, List.getElem?_cons_succ] at x0 x1 y0 y1
      go_wp2_with fail
      refine (OV.out _ B1).mono ?_
      rintro e w2 ⟨rfl, c2⟩
      have b2 := b1.trans (c2.mono b1.size)
      obtain ⟨B2, kb2, kr2⟩ := BX.out _ b2
      have x0 := kb2.cell 0
      have x1 := kb2.cell 1
      have f0 := kr2.frozen 0
      have f1 := kr2.frozen 1
      have y0 := kr2.cell 0
      have y1 := kr2.cell 1
      simp only [List.getElem?_cons_zero, List.getElem?_cons_succ] at x0 x1 y0 y1
      go_wp2
      have K2 := (kr2.set 0 (.int .i64 0)).set 1 (.slice none 0 0)
      have b8 := (B2.setCell (p := ⟨w.heap.size + 1, 0, none⟩) (Nat.le_succ _) (.int .i64 0)).setCell (p := ⟨w.heap.size + 1, 1, none⟩) (Nat.le_succ _) (.slice none 0 0)
      generalize (w2.setCell ⟨w.heap.size + 1, 0, none⟩ (.int .i64 0)).setCell ⟨w.heap.size + 1, 1, none⟩ (.slice none 0 0) = w8 at K2 b8 ⊢
      have r0 := K2.cell 0
      have r1 := K2.cell 1
      simp only [List.set_cons_zero, List.set_cons_succ, List.getElem?_cons_zero, List.getElem?_cons_succ] at r0 r1
      exact bodyPost_ret (v := .tuple #[.agg #[.int .i64 0, .slice none 0 0], .int .i64 (-1)]) (by simp [results, Tryd.results22, go_sem, r0, r1]) rfl (gives_dg_nil b8)
    · rw [k2] at OV
      rw [Bool.and_eq_true] at k1
      have ok := dgB_iff.1 k1.1
      obtain ⟨p0, p1⟩ := isP_iff.1 k1.2
      have lo := ok.lo
      have hi := ok.hi
      obtain ⟨N, hN⟩ : ∃ N : Nat, d.vars = N := ⟨d.vars.toNat, by omega⟩
      have N12 : N ≤ 12 := by omega
      rw [reoB_yes (by rw [k1.1, k1.2, k2]; rfl) hN]
      obtain ⟨m, rfl⟩ : ∃ m : Nat, n = m := ⟨n.toNat, by omega⟩
      have oi := fun k (hk : k < order.length) => ord_in k2 hk
      have ol := (ordB_iff.1 k2).1
      have lno := rd_len h3
      have eno : no = N := by omega
      subst eno
      have RO := Lib.hid (fun W (B : Below w.heap.size w W) => reordered_any d ok no m hN (by omega) order (by omega) (fun k hk => by have := oi k (by omega); omega) A Ao c co W (Mem.rd_on h1 B) ((rd_ints.1 (Mem.rd_on h3 B)).2) (hT.on B))
      have HW := Lib.hid (roF_top no N12 (Trd d m order)).1.few
      obtain ⟨R, eR⟩ : ∃ R, R = roF no ⟨no, []⟩ 0 (rowsT no (Trd d m order)) := ⟨_, rfl⟩
      rw [← eR] at RO HW ⊢
      rw [hN] at BX MK0 OV RO ⊢
      clear k1 k2 h1 h3 eP hT HP ok lo hi hN N12 oi ol lno eR p0 p1 B0
      obtain ⟨⟨rm, rg⟩, re⟩ := R
      dsimp only at *
      go_enter Tryd.func22, Tryd.ntmps22
      go_wp2_with fail
      refine MK0.mono ?_
      rintro e w1 ⟨rfl, b1'⟩
      have b1 := below_call b1'
      obtain ⟨B1, kb1, kr1⟩ := BX.out _ b1
      have x0 := kb1.cell 0
      have x1 := kb1.cell 1
      have f0 := kr1.frozen 0
      have f1 := kr1.frozen 1
      have y0 := kr1.cell 0
      have y1 := kr1.cell 1
      simp only [List.getElem?_cons_zero, List.getElem?_cons_succ] at x0 x1 y0 y1
      go_wp2_with fail
      refine (OV.out _ B1).mono ?_
      rintro e w2 ⟨rfl, c2⟩
      have b2 := b1.trans (c2.mono b1.size)
      obtain ⟨B2, kb2, kr2⟩ := BX.out _ b2
      have x0 := kb2.cell 0
      have x1 := kb2.cell 1
      have f0 := kr2.frozen 0
      have f1 := kr2.frozen 1
      have y0 := kr2.cell 0
      have y1 := kr2.cell 1
      simp only [List.getElem?_cons_zero, List.getElem?_cons_succ] at x0 x1 y0 y1
      go_wp2_with fail
      refine (RO.out _ B2).mono ?_
      rintro e w9 ⟨A7, c7, rfl, o9, d9⟩
      have b9 := b2.trans (d9.mono b2.size)
      have hz2 := kr2.lt
      obtain ⟨B9, kb9, kr9⟩ := BX.out _ b9
      have x0 := kb9.cell 0
      have x1 := kb9.cell 1
      have f0 := kr9.frozen 0
      have f1 := kr9.frozen 1
      have y0 := kr9.cell 0
      have y1 := kr9.cell 1
      simp only [List.getElem?_cons_zero, List.getElem?_cons_succ] at x0 x1 y0 y1
      dsimp only at o9 ⊢
      have n9 : (Value.slice A7 (rg).length c7).ownBlock ≠ some (w.heap.size + 1) := fun e => by have := (o9.lt _ e).1; omega
      go_wp2
      have K2 := (kr9.set 0 (.int .i64 rm)).set 1 (.slice A7 (rg).length c7)
      have o8 := own_away (own_away o9 (p := ⟨w.heap.size + 1, 0, none⟩) (.int .i64 rm) n9) (p := ⟨w.heap.size + 1, 1, none⟩) (.slice A7 (rg).length c7) n9
      have b8 := (B9.setCell (p := ⟨w.heap.size + 1, 0, none⟩) (Nat.le_succ _) (.int .i64 rm)).setCell (p := ⟨w.heap.size + 1, 1, none⟩) (Nat.le_succ _) (.slice A7 (rg).length c7)
      generalize (w9.setCell ⟨w.heap.size + 1, 0, none⟩ (.int .i64 rm)).setCell ⟨w.heap.size + 1, 1, none⟩ (.slice A7 (rg).length c7) = w8 at K2 b8 o8 ⊢
      have r0 := K2.cell 0
      have r1 := K2.cell 1
      simp only [List.set_cons_zero, List.set_cons_succ, List.getElem?_cons_zero, List.getElem?_cons_succ] at r0 r1
      obtain ⟨fp, q1, q2, q3⟩ := own_flat (α := Fk) o8 rfl (by unfold maxLen; have := HW.out; omega)
      exact bodyPost_ret (v := .tuple #[.agg #[.int .i64 rm, .slice A7 (rg).length c7], .int .i64 re]) (by simp [results, Tryd.results22, go_sem, r0, r1]) rfl (by exact ⟨A7, _, c7, fp, rfl, q1, q2, fun y hy => by have := q3 y hy; omega, b8⟩)
theorem reo_implR (d : Dg) (n : Int) (order : List Int) (A : Option Addr) (n1 c : Nat) (Ao : Option Addr) (no co : Nat) (w : World) (h1 : Mem.rd w w.heap.size [.slice A n1 c] d.forks) (h3 : Mem.rd w w.heap.size [.slice Ao no co] order) (hT : DoorAt w) :
    Calls Tryd.prog 22 #[.agg #[.int .i64 d.vars, .slice A n1 c], .int .i64 n, .slice Ao no co] w (GivesDgN w (reo1 d n order) (reo2 d n order)) := reo_impl d n order A Ao n1 c no co w h1 h3 hT
end Go.Proofs.YtnhjcokmajejcaaDoor
