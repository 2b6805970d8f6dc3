/- Circuits that are made: copies, in the model. -/
import Derived.Test.YtmimefcljdllcaaMkV
namespace Go.Proofs.Ytmimefcljdllcaa
open Go.RowKit

theorem three_boxes (w : World) (a1 a2 a3 : Array Value) (t1 t2 t3 : TypeId) : ∀ W, Below (((w.alloc (.cells a1 t1)).alloc (.cells a2 t2)).alloc (.cells a3 t3)).heap.size (((w.alloc (.cells a1 t1)).alloc (.cells a2 t2)).alloc (.cells a3 t3)) W →
    Below w.heap.size w W ∧ Blk W w.heap.size t1 a1.toList ∧ Blk W (w.heap.size + 1) t2 a2.toList ∧ Blk W (w.heap.size + 1 + 1) t3 a3.toList := fun W hW => by
  have k0 := (((ci_blk w a1 t1).alloc (.cells a2 t2)).alloc (.cells a3 t3)).below hW (by simp; omega)
  have k1 := ((ci_blk (w.alloc (.cells a1 t1)) a2 t2).alloc (.cells a3 t3)).below hW (by simp)
  have k2 := (ci_blk ((w.alloc (.cells a1 t1)).alloc (.cells a2 t2)) a3 t3).below hW (by simp)
  rw [World.size_alloc] at k1
  rw [World.size_alloc, World.size_alloc] at k2
  exact ⟨below_call (below_call (below_call hW)), k0, k1, k2⟩
theorem take_ga {l : List Ga} {k : Nat} (h : k < l.length) : l.take (k + 1) = l.take k ++ [el l k] := take_el h

set_option maxRecDepth 100000 in
set_option maxHeartbeats 2000000 in
theorem l7Copy_any (s : Ci) (A : Option Addr) (n c : Nat) (w : World) (h : Mem.rd w w.heap.size [.slice A n c] s.gates) (hn : n ≤ 1000) :
    Calls Try.prog 53 #[.agg #[.int .i64 s.ins, .slice A n c]] w (fun e w' => ∃ A' c', e = .returned (.agg #[.int .i64 s.ins, .slice A' n c']) ∧ w'.ownsRow w.heap.size 52 2 (.slice A' n c') n (fl s.gates) ∧ Below w.heap.size w w') := by
  have hl := rd_len h
  obtain ⟨m, gs⟩ := s
  dsimp only at *
  have L1 := Lib.hid hl
  clear hl
  have BX := Lib.hid (ci_box (w := w) (v1 := .int .i64 m) (v2 := .slice A n c) (t := 29))
  go_enter Try.func53, Try.ntmps53
  go_wp2
  have B0 : Below w.heap.size w (((w.alloc (.cells #[.int .i64 m, .slice A n c] 29)).alloc (.cells #[.int .i64 0, .slice none 0 0] 29)).alloc (.cells #[.int .i64 m, .slice none 0 0] 29)) := ((below_alloc w _).alloc (by simp) _).alloc (by simp; omega) _
  have K0 := three_boxes w #[.int .i64 m, .slice A n c] #[.int .i64 0, .slice none 0 0] #[.int .i64 m, .slice none 0 0] 29 29 29 _ (Below.refl _ _)
  have o0 := World.ownsRow_nil (((w.alloc (.cells #[.int .i64 m, .slice A n c] 29)).alloc (.cells #[.int .i64 0, .slice none 0 0] 29)).alloc (.cells #[.int .i64 m, .slice none 0 0] 29)) (w.heap.size + 1 + 1 + 1) 52 2
  go_loopg [4] n (fun r i wr => ∃ (k : Nat) (A' : Option Addr) (c' : Nat), k + r = n ∧ i = .int .i64 k ∧ Blk wr w.heap.size 29 [.int .i64 m, .slice A n c] ∧ Blk wr (w.heap.size + 1) 29 [.int .i64 0, .slice none 0 0] ∧ Blk wr (w.heap.size + 1 + 1) 29 [.int .i64 m, .slice A' k c'] ∧
    wr.ownsRow (w.heap.size + 1 + 1 + 1) 52 2 (.slice A' k c') k (fl (gs.take k)) ∧ Below w.heap.size w wr)
  case atStart => exact ⟨0, none, 0, by omega, rfl, K0.2.1, K0.2.2.1, K0.2.2.2, o0, B0⟩
  case round =>
    clear K0 o0 B0
    obtain ⟨k, A', c', hk, rfl, k0, k1, k2, ho, B⟩ := hrel
    have x1 := k0.cell 1
    have z1 := k2.cell 1
    have f1 := k2.frozen 1
    simp only [List.getElem?_cons_zero, List.getElem?_cons_succ] at x1 z1
    have hs0 := k2.lt
    by_cases hlt : k < n
    · obtain ⟨ad, rfl, hbl, d0, d1⟩ := ga_at (Mem.rd_below h B) hlt
      have HT : Hid (gs.take (k + 1) = gs.take k ++ [el gs k]) := Lib.hid (take_ga (by rw [L1.out]; exact hlt))
      have HO := Lib.hid ho
      have HK := Lib.hid (⟨k0, k1, k2⟩ : Blk wr _ _ _ ∧ Blk wr _ _ _ ∧ Blk wr _ _ _)
      have nb : Hid (∀ x, x ≤ w.heap.size + 1 + 1 → (Value.slice A' k c').ownBlock ≠ some x) := Lib.hid (fun x hx e => by have := (ho.lt x e).1; omega)
      generalize el gs k = G at *
      obtain ⟨ga, gb⟩ := G
      dsimp only at *
      have kn : (k : Int) < n := by omega
      clear ho k0 k1 k2
      go_wp2
      go_region_law (first
        | (refine step_app_ga (by rfl) _ _ (by rfl) (w.heap.size + 1 + 1 + 1) _ k (gs.take k) ⟨ga, gb⟩ ⟨wr.heap.size, 0, none⟩ (by rfl) (own_of_heap (HO.out.alloc _) rfl) (by rfl) (by first | exact World.cell?_alloc_at _ _ _ _ rfl | (simp [go_sem]; done)) (by first | exact World.cell?_alloc_at _ _ _ _ rfl | (simp [go_sem]; done)) rfl (by omega) (by simp; omega) ?_; intro A8 c8 w8 ho8 hg8 hl8
           have k28 := blk_on hg8 (HK.out.2.2.alloc _) rfl (nb.out _ (Nat.le_refl _))
           have z8 := k28.cell 1
           have f8 := k28.frozen 1
           simp only [List.getElem?_cons_zero, List.getElem?_cons_succ] at z8))
      all_goals
        have k08 := blk_on hg8 (HK.out.1.alloc _) rfl (nb.out _ (by omega))
        have k18 := blk_on hg8 (HK.out.2.1.alloc _) rfl (nb.out _ (by omega))
        have n8 : ∀ x, x ≤ w.heap.size + 1 + 1 → (Value.slice A8 (k + 1) c8).ownBlock ≠ some x := fun x hx e => by have := (ho8.lt x e).1; omega
        go_wp2
        go_roundg (n - (k + 1))
        case measure => omega
        case rel =>
          refine ⟨k + 1, A8, c8, by omega, by go_num, (setCell_heap _ _ _ (by show w.heap.size ≠ w.heap.size + 1 + 1; omega)).trans k08, (setCell_heap _ _ _ (by show w.heap.size + 1 ≠ w.heap.size + 1 + 1; omega)).trans k18, k28.set 1 _, own_away (by rw [HT.out]; exact ho8) _ (n8 _ (Nat.le_refl _)), ?_⟩
          have hq : ∀ g', (Value.slice A' k c').ownBlock = some g' → w.heap.size ≤ g' := fun g' hg' => by have := (HO.out.lt g' hg').1; omega
          refine Below.setCell ?_ (by simp; omega) _
          first
            | exact (B.alloc (by omega) _).grown hg8 (by simp; omega) (fun g' hg' => hq g' hg')
            | exact ((B.alloc (by omega) _).drew).grown hg8 (by simp; omega) (fun g' hg' => hq g' hg')
            | exact ((B.drew).alloc (by simp; omega) _).grown hg8 (by simp; omega) (fun g' hg' => hq g' hg')
    · obtain rfl : k = n := by omega
      have y0 := k1.cell 0
      have y1 := k1.cell 1
      have g0 := k1.frozen 0
      have g1 := k1.frozen 1
      have z0 := k2.cell 0
      simp only [List.getElem?_cons_zero, List.getElem?_cons_succ] at y0 y1 z0
      have HO := Lib.hid ho
      have K1 := Lib.hid k1
      clear ho
      go_wp2
      have K2 := (K1.out.set 0 (.int .i64 m)).set 1 (.slice A' k c')
      have b8 := (B.setCell (p := ⟨w.heap.size + 1, 0, none⟩) (Nat.le_succ _) (.int .i64 m)).setCell (p := ⟨w.heap.size + 1, 1, none⟩) (Nat.le_succ _) (.slice A' k c')
      have nb : ∀ x, x ≤ w.heap.size + 1 + 1 → (Value.slice A' k c').ownBlock ≠ some x := fun x hx e => by have := (HO.out.lt x e).1; omega
      have o8 := own_away (own_away HO.out (p := ⟨w.heap.size + 1, 0, none⟩) (.int .i64 m) (nb _ (Nat.le_succ _))) (p := ⟨w.heap.size + 1, 1, none⟩) (.slice A' k c') (nb _ (Nat.le_succ _))
      generalize (wr.setCell ⟨w.heap.size + 1, 0, none⟩ (.int .i64 m)).setCell ⟨w.heap.size + 1, 1, none⟩ (.slice A' k c') = w8 at K2 b8 o8 ⊢
      have r0 := K2.cell 0
      have r1 := K2.cell 1
      simp only [List.set_cons_zero, List.set_cons_succ, List.getElem?_cons_zero, List.getElem?_cons_succ] at r0 r1
      rw [List.take_of_length_le (Nat.le_of_eq L1.out)] at o8
      exact bodyPost_ret (v := .agg #[.int .i64 m, .slice A' k c']) (by simp [results, Try.results53, go_sem, r0, r1]) rfl ⟨A', c', rfl, own_lower o8 (by omega), b8⟩
end Go.Proofs.Ytmimefcljdllcaa
