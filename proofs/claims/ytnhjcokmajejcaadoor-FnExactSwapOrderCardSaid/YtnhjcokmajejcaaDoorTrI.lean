/- The words of the values of an edge in all rows of bits, in the program. -/
import Derived.Test.YtnhjcokmajejcaaDoorColI
import Derived.Test.YtnhjcokmajejcaaDoorDoD
import Derived.Deep.RegionHeld3
namespace Go.Proofs.YtnhjcokmajejcaaDoor
open Go.RowKit
set_option maxRecDepth 100000

theorem trW_edge (s : Ci) (e : Int) (n b : Nat) : trW (Tc s e) n b = edgeW s.gates (colsB b n) s.gates.length e := rfl

set_option maxHeartbeats 4000000 in
theorem truthsF_any (s : Ci) (ok : s.Ok) (x : Int) (x0 : 0 ≤ x) (x1 : x < 2 * s.nodes) (A : Option Addr) (c N b g cc q q' : Nat) (hN : s.ins = N) (W : World) (h1 : Mem.rd W W.heap.size [.slice A s.gates.length c] s.gates)
    (k0 : W.cell? ⟨q, 0, none⟩ = some (.int .i64 s.ins)) (k1 : W.cell? ⟨q, 1, none⟩ = some (.slice A s.gates.length c)) (k2 : W.cell? ⟨q', 0, none⟩ = some (.int .i64 x)) (hq : q < W.heap.size) (hq' : q' < W.heap.size) (h2 : Rd W W.heap.size 1 (some ⟨g, 0, none⟩) N (us ((colsB b N).map fw))) :
    Calls Tryd.prog 66 #[.slice (some ⟨g, 0, none⟩) N cc, .pointer (some ⟨q, 0, none⟩), .pointer (some ⟨q', 0, none⟩)] W (GivesU64 W (trW (Tc s x) N b)) := by
  rw [trW_edge]
  have lc := colsB_len b N
  have hi := ok.hi
  have few := ok.few
  unfold Ci.nodes at x1
  have WC := Lib.hid (fun W' (B : Below W.heap.size W W') => words_any s A s.gates.length c (colsB b N) ⟨g, 0, none⟩ N cc W' (Mem.rd_on h1 B) (by
    refine ⟨h2.1, fun hn => ?_⟩
    obtain ⟨ad, e, hb, hc⟩ := h2.2 hn
    exact ⟨ad, e, Nat.lt_of_lt_of_le hb B.size, fun i u hu => cell_below B (by rw [add_block]; exact hb) (hc i u hu)⟩) ok (by rw [lc, hN]))
  have LW := Lib.hid (wsTo_len s.gates (colsB b N) s.gates.length)
  have EW := Lib.hid (fun W' (v : Value) (own : W'.ownsRow W.heap.size 64 1 v (wsTo s.gates (colsB b N) s.gates.length).length (us (wsTo s.gates (colsB b N) s.gates.length))) => show Calls Tryd.prog 67 #[v, .int .i64 x] W' (GivesU64 W' (edgeW s.gates (colsB b N) s.gates.length x)) from by
    obtain ⟨A', c', rfl⟩ := row_slice own
    have k := edgeWord_any A' _ c' (wsTo s.gates (colsB b N) s.gates.length) x W' (Rd.of_own own) x0 (by rw [LW.out, lc]; omega) (by rw [LW.out, lc]; omega) (fun j hj => wsTo_lt _ _ (by rw [LW.out] at hj; exact hj))
    rwa [edgeW_eq x0 (by rw [lc]; omega)] at k)
  generalize edgeW s.gates (colsB b N) s.gates.length x = z at *
  rw [hN] at WC k0
  clear h1 h2 lc hi few x0 x1 LW hN
  have BW0 : Below W.heap.size W W.drew := (Below.refl _ _).drew
  go_enter Tryd.func66, Tryd.ntmps66
  go_wp2
  refine wp_region_held_drew (S := (fun w' => w'.cell? ⟨q, 0, none⟩ = some (.int .i64 N) ∧ w'.cell? ⟨q, 1, none⟩ = some (.slice A s.gates.length c) ∧ w'.cell? ⟨q', 0, none⟩ = some (.int .i64 x))) (by kernel_rfl) ?_ (fun hHeld => ?_)
  · (try dsimp only); exact ⟨k0, k1, k2⟩
  refine wpAnyH_take (i := 0) (v := ?v0) rfl (by kernel_rfl) (by kernel_rfl) (by kernel_rfl) (fun _ _ _ h => h) (Or.inl ⟨by kernel_rfl, ?h0⟩) (by assumption) ?r0
  case h0 => ((intro w hSw; (try dsimp only at hSw); go_simp) <;> with_reducible rfl)
  (try simp only [List.getElem_toArray, List.getElem_cons_zero]); (try simp only [Act.put]); (try simp only [List.setIfInBounds_toArray]); (try simp only [List.set_cons_succ]); (try simp only [List.set_cons_zero])
  refine wpAnyH_take (i := 1) (v := ?v1) rfl (by kernel_rfl) (by kernel_rfl) (by kernel_rfl) (fun _ _ _ h => h) (Or.inl ⟨by kernel_rfl, ?h1⟩) (by assumption) ?r1
  case h1 => ((intro w hSw; (try dsimp only at hSw); go_simp) <;> with_reducible rfl)
  (try simp only [List.getElem_toArray, List.getElem_cons_zero, List.getElem_cons_succ]); (try simp only [Act.put]); (try simp only [List.setIfInBounds_toArray]); (try simp only [List.set_cons_succ]); (try simp only [List.set_cons_zero])
  refine wpAnyH_take (i := 3) (v := ?v3) rfl (by kernel_rfl) (by kernel_rfl) (by kernel_rfl) (fun _ _ _ h => h) (Or.inl ⟨by kernel_rfl, ?h3⟩) (by assumption) ?r3
  case h3 => ((intro w hSw; (try dsimp only at hSw); go_simp) <;> with_reducible rfl)
  (try simp only [List.getElem_toArray, List.getElem_cons_zero, List.getElem_cons_succ]); (try simp only [Act.put]); (try simp only [List.setIfInBounds_toArray]); (try simp only [List.set_cons_succ]); (try simp only [List.set_cons_zero])
  refine wpAnyH_ready (rs := [2]) (by kernel_rfl) (by simp) ?_
  refine AllReadyH.cons (o := _) rfl (fun K hK => ?_) AllReadyH.nil
  go_simp
  refine (WC.out W.drew BW0).mono ?_
  rintro e w4 ⟨v4, rfl, o4, b4'⟩
  have b4 : Below W.heap.size W w4 := ⟨b4'.os, b4'.tape, b4'.output, b4'.size, b4'.block⟩
  have k0 := cell_below b4 (p := ⟨q, 0, none⟩) hq k0
  have k1 := cell_below b4 (p := ⟨q, 1, none⟩) hq k1
  have k2 := cell_below b4 (p := ⟨q', 0, none⟩) hq' k2
  have E4 := Lib.hid (EW.out w4 v4 o4)
  have hq4 := Nat.lt_of_lt_of_le hq b4.size
  have hq4' := Nat.lt_of_lt_of_le hq' b4.size
  clear o4 b4'
  refine hK.out _ _ ?_ (fun hHeld => ?_)
  · (try dsimp only); exact ⟨k0, k1, k2⟩
  clear hK K
  (try simp only [List.getElem_toArray, List.getElem_cons_zero, List.getElem_cons_succ]); (try simp only [Act.put]); (try simp only [List.setIfInBounds_toArray]); (try simp only [List.set_cons_succ]); (try simp only [List.set_cons_zero])
  refine wpAnyH_ready (rs := [4]) (by kernel_rfl) (by simp) ?_
  refine AllReadyH.cons (o := _) rfl (fun K hK => ?_) AllReadyH.nil
  go_simp
  refine (E4.out).mono ?_
  rintro e w5 ⟨rfl, b5⟩
  have k0 := cell_below b5 (p := ⟨q, 0, none⟩) hq4 k0
  have k1 := cell_below b5 (p := ⟨q, 1, none⟩) hq4 k1
  have k2 := cell_below b5 (p := ⟨q', 0, none⟩) hq4' k2
  have B5 := Lib.hid (b4.trans (b5.mono b4.size))
  refine hK.out _ _ ?_ (fun hHeld => ?_)
  · (try dsimp only); exact ⟨k0, k1, k2⟩
  clear hK K
  (try simp only [List.getElem_toArray, List.getElem_cons_zero, List.getElem_cons_succ]); (try simp only [Act.put]); (try simp only [List.setIfInBounds_toArray]); (try simp only [List.set_cons_succ]); (try simp only [List.set_cons_zero])
  refine wpAnyH_take (i := 5) (v := ?v5) rfl (by kernel_rfl) (by kernel_rfl) (by kernel_rfl) (fun _ _ _ h => h) (Or.inl ⟨by kernel_rfl, ?h5⟩) (by assumption) ?r5
  case h5 => ((intro w hSw; (try dsimp only at hSw); go_simp) <;> with_reducible rfl)
  (try simp only [List.getElem_toArray, List.getElem_cons_zero, List.getElem_cons_succ]); (try simp only [Act.put]); (try simp only [List.setIfInBounds_toArray]); (try simp only [List.set_cons_succ]); (try simp only [List.set_cons_zero])
  refine wpAnyH_done (by kernel_rfl) ?_ _
  go_wp2
  go_ret
  exact ⟨rfl, B5.out⟩

theorem blk_pow {n : Nat} (hn : n ≤ 12) : 2 ^ (n - 6) ≤ 64 := by
  have : 2 ^ (n - 6) ≤ 2 ^ 6 := Nat.pow_le_pow_right (by omega) (by omega)
  omega
theorem trL_take (T : List Bool → Bool) (n k : Nat) : (List.range (k + 1)).map (trW T n) = (List.range k).map (trW T n) ++ [trW T n k] := by
  rw [List.range_succ, List.map_append]; rfl
set_option maxHeartbeats 4000000 in
theorem rowTruthsC_any (T : List Bool → Bool) (n q q' : Nat) (hn : n ≤ 12) (w : World) (hT : DoorAt w)
    (HV : Hid (∀ (W : World) (b g cc : Nat), Below w.heap.size w W → b < blkN n → Rd W W.heap.size 1 (some ⟨g, 0, none⟩) n (us ((colsB b n).map fw)) → Calls Tryd.prog 66 #[.slice (some ⟨g, 0, none⟩) n cc, .pointer (some ⟨q, 0, none⟩), .pointer (some ⟨q', 0, none⟩)] W (GivesU64 W (trW T n b)))) :
    Calls Tryd.prog 65 #[.int .i64 n, .func (.func 66) #[] #[.pointer (some ⟨q, 0, none⟩), .pointer (some ⟨q', 0, none⟩)]] w (GivesUS w (trL T n)) := by
  obtain ⟨m, hm⟩ : ∃ m : Nat, m = n - 6 := ⟨_, rfl⟩
  obtain ⟨K, hK⟩ : ∃ K : Nat, K = 2 ^ m := ⟨_, rfl⟩
  have hK64 : K ≤ 64 := by rw [hK, hm]; exact blk_pow hn
  have eK : blkN n = K := by unfold blkN; rw [hK, hm]
  have wm : IntKind.i64.wrap ((n : Int) - 6) = (n : Int) - 6 := IntWalk.i64_in _ (by omega)
  have w3 : wrap64 ((2 : Int) ^ (n - 6)) = (K : Int) := by
    rw [← hm, show (2 : Int) ^ m = ((2 ^ m : Nat) : Int) by simp, ← hK]
    exact IntWalk.wrap64_in _ (by omega)
  have w1 : n ≤ 6 → K = 1 := fun h => by
    rw [hK, show m = 0 by omega]
  have LT : Hid ((trL T n).length = K) := Lib.hid (by rw [trL_len, eK])
  have LE : Hid (trL T n = (List.range K).map (trW T n)) := Lib.hid (by unfold trL; rw [eK])
  have CO := Lib.hid (fun W b (B : Below w.heap.size w W) (hb : b < K) => columnsOf_any b n (by omega) hn W (hT.on B))
  have LC := Lib.hid (fun b => show ((colsB b n).map fw).length = n from by rw [List.length_map, colsB_len])
  rw [eK] at HV
  have HK := Lib.hid hK
  clear hm hK eK hT
  by_cases h6 : n ≤ 6
  · obtain rfl := w1 h6
    clear w1 w3
    have l6 : (n : Int) - 6 ≤ 0 := by omega
    go_enter Tryd.func65, Tryd.ntmps65
    go_wp2_with (first
      | (at_make; refine make_us rfl _ _ rfl w.heap.size .i64 .i64 _ _ 0 1 rfl rfl rfl rfl (Nat.zero_le _) (by omega) (Nat.le_refl _) ?_; intro w2 hown2 hg2
         have b2 := (Below.refl w.heap.size w).grown hg2 (Nat.le_refl _) (by simp))
      | (exfalso; omega))
    all_goals
     go_loopg [6, 7, 15] 1 (fun r v i7 i wr => ∃ (k g c : Nat), k + r = 1 ∧ i = .int .i64 k ∧ v = .slice (some ⟨g, 0, none⟩) k c ∧ Hid (wr.ownsRow w.heap.size 64 1 (.slice (some ⟨g, 0, none⟩) k c) k (us ((List.range k).map (trW T n)))) ∧ Below w.heap.size w wr)
     case atStart => exact ⟨0, _, _, by omega, rfl, rfl, Lib.hid hown2, b2⟩
     case round =>
       clear hown2 b2 hg2
       obtain ⟨k, g, c, hk, rfl, rfl, ho, hb'⟩ := hrel
       by_cases hlt : k < 1
       · have kn : (k : Int) < 1 := by omega
         have CS := Lib.hid (trL_take T n k)
         have hz := hb'.size
         have COk := Lib.hid (CO.out wr k hb' hlt)
         go_wp2_with fail
         refine (COk.out).mono ?_
         rintro e w4 ⟨g4, c4, rfl, o4, b4⟩
         have HVk := Lib.hid (HV.out w4 k g4 c4 (hb'.trans (b4.mono hz)) hlt (by have := Rd.of_own o4; rw [LC.out] at this; exact this))
         rw [LC.out]
         have ho4 := Lib.hid (own_below ho.out b4)
         clear o4
         go_wp2_with fail
         refine (HVk.out).mono ?_
         rintro e w5 ⟨rfl, b5⟩
         have ho5 := Lib.hid (own_below ho4.out b5)
         have hb5 := Lib.hid ((hb'.trans (b4.mono hz)).trans (b5.mono (Nat.le_trans hz b4.size)))
         have hz5 : w.heap.size ≤ w5.heap.size := Nat.le_trans hz (Nat.le_trans b4.size b5.size)
         generalize trW T n k = z at *
         go_wp2_with (first
           | (at_builtin; refine app_us_at rfl _ _ rfl w.heap.size _ k ((List.range k).map (trW T n)) [z] _ 1 ⟨w5.heap.size, 0, none⟩ rfl (ho5.out.alloc _) rfl rfl (one_us _ _ rfl) (by omega) (by rw [World.size_alloc]; omega) ?_; intro v' w' ho6 hb6))
         obtain ⟨A', c', rfl⟩ := row_slice ho6
         go_roundg (1 - (k + 1))
         case measure => omega
         case rel =>
           rcases ho6.2 with ⟨_, h0⟩ | ⟨g', cap', _, e, _⟩
           · omega
           · injection e with e1 e2 e3
             subst e1
             exact ⟨k + 1, g', c', by omega, by go_num, rfl, by rw [CS.out]; exact Lib.hid ho6, (hb5.out.alloc hz5 _).trans hb6⟩
       · obtain rfl : k = 1 := by omega
         go_wp2
         go_ret
         unfold GivesUS
         rw [LT.out, LE.out]
         exact ⟨g, c, rfl, ho.out, hb'⟩
  · clear w1
    have l6 : ¬ (n : Int) - 6 ≤ 0 := by omega
    go_enter Tryd.func65, Tryd.ntmps65
    go_wp2_with (first
      | (at_make; refine make_us rfl _ _ rfl w.heap.size .i64 .i64 _ _ 0 K rfl rfl rfl w3 (Nat.zero_le _) (Nat.le_trans hK64 (by decide)) (Nat.le_refl _) ?_; intro w2 hown2 hg2
         have b2 := (Below.refl w.heap.size w).grown hg2 (Nat.le_refl _) (by simp))
      | (exfalso; omega))
    clear w3
    all_goals
     go_loopg [6, 7, 15] K (fun r v i7 i wr => ∃ (k g c : Nat), k + r = K ∧ i = .int .i64 k ∧ v = .slice (some ⟨g, 0, none⟩) k c ∧ Hid (wr.ownsRow w.heap.size 64 1 (.slice (some ⟨g, 0, none⟩) k c) k (us ((List.range k).map (trW T n)))) ∧ Below w.heap.size w wr)
     case atStart => exact ⟨0, _, _, by omega, rfl, rfl, Lib.hid hown2, b2⟩
     case round =>
       clear hown2 b2 hg2
       obtain ⟨k, g, c, hk, rfl, rfl, ho, hb'⟩ := hrel
       by_cases hlt : k < K
       · have kn : (k : Int) < K := by omega
         have CS := Lib.hid (trL_take T n k)
         have hz := hb'.size
         have COk := Lib.hid (CO.out wr k hb' hlt)
         go_wp2_with fail
         refine (COk.out).mono ?_
         rintro e w4 ⟨g4, c4, rfl, o4, b4⟩
         have HVk := Lib.hid (HV.out w4 k g4 c4 (hb'.trans (b4.mono hz)) hlt (by have := Rd.of_own o4; rw [LC.out] at this; exact this))
         rw [LC.out]
         have ho4 := Lib.hid (own_below ho.out b4)
         clear o4
         go_wp2_with fail
         refine (HVk.out).mono ?_
         rintro e w5 ⟨rfl, b5⟩
         have ho5 := Lib.hid (own_below ho4.out b5)
         have hb5 := Lib.hid ((hb'.trans (b4.mono hz)).trans (b5.mono (Nat.le_trans hz b4.size)))
         have hz5 : w.heap.size ≤ w5.heap.size := Nat.le_trans hz (Nat.le_trans b4.size b5.size)
         generalize trW T n k = z at *
         go_wp2_with (first
           | (at_builtin; refine app_us_at rfl _ _ rfl w.heap.size _ k ((List.range k).map (trW T n)) [z] _ 1 ⟨w5.heap.size, 0, none⟩ rfl (ho5.out.alloc _) rfl rfl (one_us _ _ rfl) (by omega) (by rw [World.size_alloc]; omega) ?_; intro v' w' ho6 hb6))
         obtain ⟨A', c', rfl⟩ := row_slice ho6
         go_roundg (K - (k + 1))
         case measure => omega
         case rel =>
           rcases ho6.2 with ⟨_, h0⟩ | ⟨g', cap', _, e, _⟩
           · omega
           · injection e with e1 e2 e3
             subst e1
             exact ⟨k + 1, g', c', by omega, by go_num, rfl, by rw [CS.out]; exact Lib.hid ho6, (hb5.out.alloc hz5 _).trans hb6⟩
       · obtain rfl : k = K := by omega
         go_wp2
         go_ret
         unfold GivesUS
         rw [LT.out, LE.out]
         exact ⟨g, c, rfl, ho.out, hb'⟩

/-- The boxes of a circuit and an edge. -/
theorem trC_box {w : World} {a b x : Value} (t1 t2 : TypeId) : ∀ W, Below ((w.alloc (.cells #[a, b] t1)).alloc (.cells #[x] t2)).heap.size ((w.alloc (.cells #[a, b] t1)).alloc (.cells #[x] t2)) W →
    Below w.heap.size w W ∧ W.cell? ⟨w.heap.size, 0, none⟩ = some a ∧ W.cell? ⟨w.heap.size, 1, none⟩ = some b ∧ W.cell? ⟨w.heap.size + 1, 0, none⟩ = some x ∧ w.heap.size + 1 < W.heap.size := fun W hW => by
  obtain ⟨B, k0, k1⟩ := two_boxes w #[a, b] #[x] t1 t2 W hW
  exact ⟨B, k0.cell 0, k0.cell 1, k1.cell 0, k1.lt⟩
set_option maxHeartbeats 4000000 in
theorem truths_any (s : Ci) (ok : s.Ok) (x : Int) (x0 : 0 ≤ x) (x1 : x < 2 * s.nodes) (A : Option Addr) (c N : Nat) (hN : s.ins = N) (w : World) (h1 : Mem.rd w w.heap.size [.slice A s.gates.length c] s.gates) (hT : DoorAt w) :
    Calls Tryd.prog 36 #[.agg #[.int .i64 s.ins, .slice A s.gates.length c], .int .i64 x] w (GivesUS w (trL (Tc s x) N)) := by
  have hi := ok.hi
  have BX := Lib.hid (trC_box (w := w) (a := .int .i64 s.ins) (b := .slice A s.gates.length c) (x := .int .i64 x) 29 3)
  have B0 : Below w.heap.size w ((w.alloc (.cells #[.int .i64 s.ins, .slice A s.gates.length c] 29)).alloc (.cells #[.int .i64 x] 3)) := (below_alloc w _).alloc (by simp) _
  have RT := Lib.hid (rowTruthsC_any (Tc s x) N w.heap.size (w.heap.size + 1) (by omega) ((w.alloc (.cells #[.int .i64 s.ins, .slice A s.gates.length c] 29)).alloc (.cells #[.int .i64 x] 3)) (hT.on B0) (Lib.hid (fun W b g cc B hb h2 => by
    obtain ⟨B', k0, k1, k2, lt⟩ := BX.out W B
    exact truthsF_any s ok x x0 x1 A c N b g cc w.heap.size (w.heap.size + 1) hN W (Mem.rd_on h1 B') k0 k1 k2 (by omega) lt h2)))
  rw [hN] at BX B0 RT ⊢
  generalize trL (Tc s x) N = L at *
  clear h1 ok x0 x1 hN hT hi
  go_enter Tryd.func36, Tryd.ntmps36
  go_wp2_with fail
  refine (RT.out).mono ?_
  rintro e w4 ⟨g4, c4, rfl, o4, b4⟩
  go_wp2
  go_ret
  exact ⟨g4, c4, rfl, own_lower o4 (by simp; omega), B0.trans (b4.mono B0.size)⟩
end Go.Proofs.YtnhjcokmajejcaaDoor
