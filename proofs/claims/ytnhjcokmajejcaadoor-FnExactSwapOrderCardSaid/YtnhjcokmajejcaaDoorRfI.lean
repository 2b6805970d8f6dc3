/- Reordered, in the program. -/
import Derived.Test.YtnhjcokmajejcaaDoorCoD
import Derived.Test.YtnhjcokmajejcaaDoorTrI
import Derived.Test.YtnhjcokmajejcaaDoorDoT
import Derived.Test.YtnhjcokmajejcaaDoorOrI
import Derived.Deep.RegionHeld3
namespace Go.Proofs.YtnhjcokmajejcaaDoor
open Go.RowKit
set_option maxRecDepth 100000

theorem run_full_us (n : Nat) (hn : n ≤ 100000) (w : World) : (Instr.makeSlice 63 (.int .i64 n) (.int .i64 n)).run Tryd.prog w = .ok (.slice (some ⟨w.heap.size, 0, none⟩) n n) (w.alloc (.cells (madeCells #[.int .u64 0] n) 64)) := by
  have h := run_make (P := Tryd.prog) w 63 64 u64Row (.int .u64 0) Tryd.underlying63 u64_row.1 u64_row.2.1 .i64 .i64 n n (by omega) (by omega) (by rw [u64_row.2.2.2]; omega) (by omega)
  rw [u64_row.2.2.1] at h
  simp only [Int.toNat_natCast, Nat.mul_one] at h
  exact h
theorem us_set (l : List Nat) (i x : Nat) : (us l).set i (.int .u64 (x : Int)) = us (l.set i x) := by unfold us; rw [List.map_set]
theorem blk_us {w : World} {g n : Nat} {l : List Nat} (h : Blk w g 64 (us l)) (hl : l.length = n) : Rd w w.heap.size 1 (some ⟨g, 0, none⟩) n (us l) := by
  refine ⟨by rw [us_len, hl]; omega, fun _ => ⟨_, rfl, h.lt, fun i u hu => ?_⟩⟩
  have e : (⟨g, 0, none⟩ : Addr).add i = ⟨g, i, none⟩ := by
    unfold Addr.add
    by_cases q : i = 0
    · subst q; simp
    · simp [q]
  rw [e, h.cell i]
  exact hu
theorem prm_word (V : Nat) (order : List Int) (C : List (Nat → Bool)) (k : Nat) (hk : k < C.length) : (prm (fun _ => false) V order C (k + 1)).map fw = ((prm (fun _ => false) V order C k).map fw).set (ix order k).toNat (el (C.map fw) k) := by
  show ((prm (fun _ => false) V order C k).set _ _).map fw = _
  rw [List.map_set]
  congr 1
  unfold el
  rw [List.getElem?_map, List.getElem?_eq_getElem hk]; rfl
theorem prm_start (V : Nat) (order : List Int) (C : List (Nat → Bool)) : us ((prm (fun _ => false) V order C 0).map fw) = (madeCells #[.int .u64 0] V).toList := by
  show us ((List.replicate V fun _ => false).map fw) = _
  rw [List.map_replicate, fw_none, toList_madeCells_one]
  simp [us]

set_option maxHeartbeats 4000000 in
theorem reoF_any (d : Dg) (ok : d.Ok) (N n : Nat) (hN : d.vars = N) (hn : n < 2 + d.forks.length) (order : List Int) (hL : order.length = N) (hO : ∀ k, k < N → 0 ≤ ix order k ∧ ix order k < N) (A Ao : Option Addr) (c co b g cc q q2 q3 : Nat) (W : World)
    (h1 : Mem.rd W W.heap.size [.slice A d.forks.length c] d.forks) (h3 : Rd W W.heap.size 1 Ao N (ints order))
    (k0 : W.cell? ⟨q, 0, none⟩ = some (.int .i64 N)) (k1 : W.cell? ⟨q, 1, none⟩ = some (.slice A d.forks.length c)) (k2 : W.cell? ⟨q2, 0, none⟩ = some (.slice Ao N co)) (k3 : W.cell? ⟨q3, 0, none⟩ = some (.int .i64 n))
    (hq : q < W.heap.size) (hq2 : q2 < W.heap.size) (hq3 : q3 < W.heap.size) (h2 : Rd W W.heap.size 1 (some ⟨g, 0, none⟩) N (us ((colsB b N).map fw))) :
    Calls Tryd.prog 81 #[.slice (some ⟨g, 0, none⟩) N cc, .pointer (some ⟨q, 0, none⟩), .pointer (some ⟨q2, 0, none⟩), .pointer (some ⟨q3, 0, none⟩)] W (GivesU64 W (trW (Trd d n order) N b)) := by
  have N12 : N ≤ 12 := by have := ok.hi; omega
  have lc := colsB_len b N
  have eT := colD_trW d n order N b (by rw [hN]; rfl)
  rw [hL] at eT
  rw [← eT]
  have PL := fun k => prm_len (fun _ => false) N order (colsB b N) k
  have CO := Lib.hid (fun (W' : World) (B : Below W.heap.size W W') (gO : Nat) (hb : Blk W' gO 64 (us ((prm (fun _ => false) N order (colsB b N) N).map fw))) => column_any d ok N n hN hn (prm (fun _ => false) N order (colsB b N) N) (PL N) A c gO N W' (Mem.rd_on h1 B) (blk_us hb (by rw [List.length_map]; exact PL N)))
  have P0 := prm_start N order (colsB b N)
  have PS := Lib.hid (fun k (hk : k < N) => prm_word N order (colsB b N) k (by rw [lc]; exact hk))
  have HM := fun W' => run_full_us N (by omega) W'
  have CC := Lib.hid (fun W' (B : Below W.heap.size W W') v (hv : v < N) => show W'.cell? ⟨g, v, none⟩ = some (.int .u64 (el ((colsB b N).map fw) v : Nat)) from by
    obtain ⟨ad, e, hb, hc⟩ := us_read h2 hv
    injection e with e
    subst e
    exact cell_below B (p := ⟨g, v, none⟩) hb (us_addr hc))
  have HOX := Lib.hid hO
  have H3 := Lib.hid (fun W' (B : Below W.heap.size W W') k (hk : k < N) => (h3.below B).int hk)
  have K0 := Lib.hid (fun W' (B : Below W.heap.size W W') => cell_below B (p := ⟨q, 0, none⟩) hq k0)
  have K1 := Lib.hid (fun W' (B : Below W.heap.size W W') => cell_below B (p := ⟨q, 1, none⟩) hq k1)
  have K2 := Lib.hid (fun W' (B : Below W.heap.size W W') => cell_below B (p := ⟨q2, 0, none⟩) hq2 k2)
  have K3 := Lib.hid (fun W' (B : Below W.heap.size W W') => cell_below B (p := ⟨q3, 0, none⟩) hq3 k3)
  generalize colD d (prm (fun _ => false) N order (colsB b N) N) n = Z at *
  rw [hN] at CO
  obtain ⟨F, hF⟩ : ∃ F : Nat → List Nat, F = fun k => (prm (fun _ => false) N order (colsB b N) k).map fw := ⟨_, rfl⟩
  have PF := Lib.hid (fun k => congrFun hF k)
  have CO' := Lib.hid (fun (W' : World) (B : Below W.heap.size W W') (gO : Nat) (hb : Blk W' gO 64 (us (F N))) => CO.out W' B gO (by rw [PF.out N] at hb; exact hb))
  have PS' := Lib.hid (fun k (hk : k < N) => show F (k + 1) = (F k).set (ix order k).toNat (el ((colsB b N).map fw) k) from by rw [PF.out, PF.out]; exact PS.out k hk)
  have P0' : Hid (us (F 0) = (madeCells #[.int .u64 0] N).toList) := Lib.hid (by rw [PF.out]; exact P0)
  have LF := Lib.hid (fun k => show (F k).length = N from by rw [PF.out, List.length_map]; exact PL k)
  clear CO PS P0 PF hF PL eT lc h1 h2 h3 k1 k3 hL hN hO ok hn
  generalize (colsB b N).map fw = cw at *
  go_enter Tryd.func81, Tryd.ntmps81
  go_wp2
  have BM := below_alloc W (.cells (madeCells #[.int .u64 0] N) 64)
  have KB0 : Blk (W.alloc (.cells (madeCells #[.int .u64 0] N) 64)) W.heap.size 64 (us (F 0)) := by rw [P0'.out]; exact Blk.new W _ _
  have x2 := K2.out _ BM
  go_loopg [7, 8, 14] N (fun r i7 i8 i wr => ∃ k : Nat, k + r = N ∧ i = .int .i64 k ∧ Hid (Blk wr W.heap.size 64 (us (F k))) ∧ Below W.heap.size W wr)
  case atStart => exact ⟨0, by omega, rfl, Lib.hid KB0, BM⟩
  case round =>
    clear KB0 BM x2 k0 k2
    obtain ⟨k, hk, rfl, hB, hb⟩ := hrel
    by_cases hlt : k < N
    · have kn : (k : Int) < N := by omega
      obtain ⟨ad, rfl, hbl, d0⟩ := H3.out wr hb k hlt
      obtain ⟨o0, o1⟩ := HOX.out k hlt
      have e2 := CC.out wr hb k hlt
      have PSk := Lib.hid (PS'.out k hlt)
      generalize ix order k = o at *
      obtain ⟨v, rfl⟩ : ∃ v : Nat, o = v := ⟨o.toNat, by omega⟩
      generalize el cw k = x at *
      have hv : v < N := by omega
      have fz := hB.out.frozen v
      have yz := hB.out.cell v
      rw [us_at (by rw [LF.out]; exact hv)] at yz
      have lB := hB.out.lt
      have s2 := Lib.hid (hB.out.set v (.int .u64 x))
      rw [us_set] at s2
      rw [Int.toNat_natCast] at PSk
      rw [← PSk.out] at s2
      go_wp2
      all_goals
        go_roundg (N - (k + 1))
        case measure => omega
        case rel => exact ⟨k + 1, by omega, by go_num, s2, hb.setCell (p := ⟨W.heap.size, v, none⟩) (Nat.le_refl _) _⟩
    · obtain rfl : k = N := by omega
      have x0 := K0.out wr hb
      have x1 := K1.out wr hb
      have x3 := K3.out wr hb
      have C9 := Lib.hid (CO'.out wr hb W.heap.size hB.out)
      go_wp2_with fail
      refine (C9.out).mono ?_
      rintro e w5 ⟨rfl, b5⟩
      go_wp2
      go_ret
      exact ⟨rfl, hb.trans (b5.mono hb.size)⟩

set_option maxHeartbeats 4000000 in
theorem rowTruthsD_any (T : List Bool → Bool) (n q q2 q3 : Nat) (hn : n ≤ 12) (w : World) (hT : DoorAt w)
    (HV : Hid (∀ (W : World) (b g cc : Nat), Below w.heap.size w W → b < blkN n → Rd W W.heap.size 1 (some ⟨g, 0, none⟩) n (us ((colsB b n).map fw)) → Calls Tryd.prog 81 #[.slice (some ⟨g, 0, none⟩) n cc, .pointer (some ⟨q, 0, none⟩), .pointer (some ⟨q2, 0, none⟩), .pointer (some ⟨q3, 0, none⟩)] W (GivesU64 W (trW T n b)))) :
    Calls Tryd.prog 65 #[.int .i64 n, .func (.func 81) #[] #[.pointer (some ⟨q, 0, none⟩), .pointer (some ⟨q2, 0, none⟩), .pointer (some ⟨q3, 0, none⟩)]] w (GivesUS w (trL T n)) := by
  obtain ⟨m, hm⟩ : ∃ m : Nat, m = n - 6 := ⟨_, rfl⟩
  obtain ⟨K, hK⟩ : ∃ K : Nat, K = 2 ^ m := ⟨_, rfl⟩
  have hK64 : K ≤ 64 := by rw [hK, hm]; exact blk_pow hn
  have eK : blkN n = K := by unfold blkN; rw [hK, hm]
  have wm : IntKind.i64.wrap ((n : Int) - 6) = (n : Int) - 6 := IntWalk.i64_in _ (by omega)
  have w3 : wrap64 ((2 : Int) ^ (n - 6)) = (K : Int) := by
    rw [← hm, show (2 : Int) ^ m = ((2 ^ m : Nat) : Int) by simp, ← hK]
    exact IntWalk.wrap64_in _ (by omega)
  have w1 : n ≤ 6 → K = 1 := fun h => by
    rw [hK, show m = 0 by omega]
  have LT : Hid ((trL T n).length = K) := Lib.hid (by rw [trL_len, eK])
  have LE : Hid (trL T n = (List.range K).map (trW T n)) := Lib.hid (by unfold trL; rw [eK])
  have CO := Lib.hid (fun W b (B : Below w.heap.size w W) (hb : b < K) => columnsOf_any b n (by omega) hn W (hT.on B))
  have LC := Lib.hid (fun b => show ((colsB b n).map fw).length = n from by rw [List.length_map, colsB_len])
  rw [eK] at HV
  have HK := Lib.hid hK
  clear hm hK eK hT
  by_cases h6 : n ≤ 6
  · obtain rfl := w1 h6
    clear w1 w3
    have l6 : (n : Int) - 6 ≤ 0 := by omega
    go_enter Tryd.func65, Tryd.ntmps65
    go_wp2_with (first
      | (at_make; refine make_us rfl _ _ rfl w.heap.size .i64 .i64 _ _ 0 1 rfl rfl rfl rfl (Nat.zero_le _) (by omega) (Nat.le_refl _) ?_; intro w2 hown2 hg2
         have b2 := (Below.refl w.heap.size w).grown hg2 (Nat.le_refl _) (by simp))
      | (exfalso; omega))
    all_goals
     go_loopg [6, 7, 15] 1 (fun r v i7 i wr => ∃ (k g c : Nat), k + r = 1 ∧ i = .int .i64 k ∧ v = .slice (some ⟨g, 0, none⟩) k c ∧ Hid (wr.ownsRow w.heap.size 64 1 (.slice (some ⟨g, 0, none⟩) k c) k (us ((List.range k).map (trW T n)))) ∧ Below w.heap.size w wr)
     case atStart => exact ⟨0, _, _, by omega, rfl, rfl, Lib.hid hown2, b2⟩
     case round =>
       clear hown2 b2 hg2
       obtain ⟨k, g, c, hk, rfl, rfl, ho, hb'⟩ := hrel
       by_cases hlt : k < 1
       · have kn : (k : Int) < 1 := by omega
         have CS := Lib.hid (trL_take T n k)
         have hz := hb'.size
         have COk := Lib.hid (CO.out wr k hb' hlt)
         go_wp2_with fail
         refine (COk.out).mono ?_
         rintro e w4 ⟨g4, c4, rfl, o4, b4⟩
         have HVk := Lib.hid (HV.out w4 k g4 c4 (hb'.trans (b4.mono hz)) hlt (by have := Rd.of_own o4; rw [LC.out] at this; exact this))
         rw [LC.out]
         have ho4 := Lib.hid (own_below ho.out b4)
         clear o4
         go_wp2_with fail
         refine (HVk.out).mono ?_
         rintro e w5 ⟨rfl, b5⟩
         have ho5 := Lib.hid (own_below ho4.out b5)
         have hb5 := Lib.hid ((hb'.trans (b4.mono hz)).trans (b5.mono (Nat.le_trans hz b4.size)))
         have hz5 : w.heap.size ≤ w5.heap.size := Nat.le_trans hz (Nat.le_trans b4.size b5.size)
         generalize trW T n k = z at *
         go_wp2_with (first
           | (at_builtin; refine app_us_at rfl _ _ rfl w.heap.size _ k ((List.range k).map (trW T n)) [z] _ 1 ⟨w5.heap.size, 0, none⟩ rfl (ho5.out.alloc _) rfl rfl (one_us _ _ rfl) (by omega) (by rw [World.size_alloc]; omega) ?_; intro v' w' ho6 hb6))
         obtain ⟨A', c', rfl⟩ := row_slice ho6
         go_roundg (1 - (k + 1))
         case measure => omega
         case rel =>
           rcases ho6.2 with ⟨_, h0⟩ | ⟨g', cap', _, e, _⟩
           · omega
           · injection e with e1 e2 e3
             subst e1
             exact ⟨k + 1, g', c', by omega, by go_num, rfl, by rw [CS.out]; exact Lib.hid ho6, (hb5.out.alloc hz5 _).trans hb6⟩
       · obtain rfl : k = 1 := by omega
         go_wp2
         go_ret
         unfold GivesUS
         rw [LT.out, LE.out]
         exact ⟨g, c, rfl, ho.out, hb'⟩
  · clear w1
    have l6 : ¬ (n : Int) - 6 ≤ 0 := by omega
    go_enter Tryd.func65, Tryd.ntmps65
    go_wp2_with (first
      | (at_make; refine make_us rfl _ _ rfl w.heap.size .i64 .i64 _ _ 0 K rfl rfl rfl w3 (Nat.zero_le _) (Nat.le_trans hK64 (by decide)) (Nat.le_refl _) ?_; intro w2 hown2 hg2
         have b2 := (Below.refl w.heap.size w).grown hg2 (Nat.le_refl _) (by simp))
      | (exfalso; omega))
    clear w3
    all_goals
     go_loopg [6, 7, 15] K (fun r v i7 i wr => ∃ (k g c : Nat), k + r = K ∧ i = .int .i64 k ∧ v = .slice (some ⟨g, 0, none⟩) k c ∧ Hid (wr.ownsRow w.heap.size 64 1 (.slice (some ⟨g, 0, none⟩) k c) k (us ((List.range k).map (trW T n)))) ∧ Below w.heap.size w wr)
     case atStart => exact ⟨0, _, _, by omega, rfl, rfl, Lib.hid hown2, b2⟩
     case round =>
       clear hown2 b2 hg2
       obtain ⟨k, g, c, hk, rfl, rfl, ho, hb'⟩ := hrel
       by_cases hlt : k < K
       · have kn : (k : Int) < K := by omega
         have CS := Lib.hid (trL_take T n k)
         have hz := hb'.size
         have COk := Lib.hid (CO.out wr k hb' hlt)
         go_wp2_with fail
         refine (COk.out).mono ?_
         rintro e w4 ⟨g4, c4, rfl, o4, b4⟩
         have HVk := Lib.hid (HV.out w4 k g4 c4 (hb'.trans (b4.mono hz)) hlt (by have := Rd.of_own o4; rw [LC.out] at this; exact this))
         rw [LC.out]
         have ho4 := Lib.hid (own_below ho.out b4)
         clear o4
         go_wp2_with fail
         refine (HVk.out).mono ?_
         rintro e w5 ⟨rfl, b5⟩
         have ho5 := Lib.hid (own_below ho4.out b5)
         have hb5 := Lib.hid ((hb'.trans (b4.mono hz)).trans (b5.mono (Nat.le_trans hz b4.size)))
         have hz5 : w.heap.size ≤ w5.heap.size := Nat.le_trans hz (Nat.le_trans b4.size b5.size)
         generalize trW T n k = z at *
         go_wp2_with (first
           | (at_builtin; refine app_us_at rfl _ _ rfl w.heap.size _ k ((List.range k).map (trW T n)) [z] _ 1 ⟨w5.heap.size, 0, none⟩ rfl (ho5.out.alloc _) rfl rfl (one_us _ _ rfl) (by omega) (by rw [World.size_alloc]; omega) ?_; intro v' w' ho6 hb6))
         obtain ⟨A', c', rfl⟩ := row_slice ho6
         go_roundg (K - (k + 1))
         case measure => omega
         case rel =>
           rcases ho6.2 with ⟨_, h0⟩ | ⟨g', cap', _, e, _⟩
           · omega
           · injection e with e1 e2 e3
             subst e1
             exact ⟨k + 1, g', c', by omega, by go_num, rfl, by rw [CS.out]; exact Lib.hid ho6, (hb5.out.alloc hz5 _).trans hb6⟩
       · obtain rfl : k = K := by omega
         go_wp2
         go_ret
         unfold GivesUS
         rw [LT.out, LE.out]
         exact ⟨g, c, rfl, ho.out, hb'⟩

theorem rd_onR {w W : World} {A : Option Addr} {n : Nat} {xs : List Value} (h : Rd w w.heap.size 1 A n xs) (B : Below w.heap.size w W) : Rd W W.heap.size 1 A n xs := by
  have h' := h.below B
  refine ⟨h'.1, fun hn => ?_⟩
  obtain ⟨ad, e, hb, hc⟩ := h'.2 hn
  exact ⟨ad, e, Nat.lt_of_lt_of_le hb B.size, hc⟩
/-- The boxes of reordered: a diagram, a place, an order, what is answered. -/
theorem re_box {w : World} {a b x o r0 r1 : Value} (t1 t2 t3 : TypeId) : ∀ W, Below ((((w.alloc (.cells #[a, b] t1)).alloc (.cells #[x] t2)).alloc (.cells #[o] t3)).alloc (.cells #[r0, r1] t1)).heap.size ((((w.alloc (.cells #[a, b] t1)).alloc (.cells #[x] t2)).alloc (.cells #[o] t3)).alloc (.cells #[r0, r1] t1)) W →
    Below w.heap.size w W ∧ Blk W w.heap.size t1 [a, b] ∧ Blk W (w.heap.size + 1) t2 [x] ∧ Blk W (w.heap.size + 1 + 1) t3 [o] ∧ Blk W (w.heap.size + 1 + 1 + 1) t1 [r0, r1] := fun W hW => by
  have k3 := (ci_blk (((w.alloc (.cells #[a, b] t1)).alloc (.cells #[x] t2)).alloc (.cells #[o] t3)) #[r0, r1] t1).below hW (by simp)
  have hW' := below_call hW
  obtain ⟨B, j0, j1, j2⟩ := three_boxes w #[a, b] #[x] #[o] t1 t2 t3 W hW'
  simp only [World.size_alloc] at k3
  exact ⟨B, j0, j1, j2, k3⟩
set_option maxHeartbeats 4000000 in
theorem reordered_any (d : Dg) (ok : d.Ok) (N n : Nat) (hN : d.vars = N) (hn : n < 2 + d.forks.length) (order : List Int) (hL : order.length = N) (hO : ∀ k, k < N → 0 ≤ ix order k ∧ ix order k < N) (A Ao : Option Addr) (c co : Nat) (w : World)
    (h1 : Mem.rd w w.heap.size [.slice A d.forks.length c] d.forks) (h3 : Rd w w.heap.size 1 Ao N (ints order)) (hT : DoorAt w) :
    Calls Tryd.prog 53 #[.agg #[.int .i64 d.vars, .slice A d.forks.length c], .int .i64 n, .slice Ao N co] w (GivesDgO w (roF N ⟨N, []⟩ 0 (rowsT N (Trd d n order)))) := by
  have N12 : N ≤ 12 := by have := ok.hi; omega
  have BX := Lib.hid (re_box (w := w) (a := .int .i64 N) (b := .slice A d.forks.length c) (x := .int .i64 n) (o := .slice Ao N co) (r0 := .int .i64 0) (r1 := .slice none 0 0) 35 3 45)
  obtain ⟨W0, hW0⟩ : ∃ W0, W0 = (((w.alloc (.cells #[.int .i64 N, .slice A d.forks.length c] 35)).alloc (.cells #[.int .i64 n] 3)).alloc (.cells #[.slice Ao N co] 45)).alloc (.cells #[.int .i64 0, .slice none 0 0] 35) := ⟨_, rfl⟩
  rw [← hW0] at BX
  have B0 := (BX.out W0 (Below.refl _ _)).1
  have RT := Lib.hid (rowTruthsD_any (Trd d n order) N w.heap.size (w.heap.size + 1 + 1) (w.heap.size + 1) N12 W0 (hT.on B0) (Lib.hid (fun W b g cc B hb h2 => by
    obtain ⟨B', k0, k1, k2, k3⟩ := BX.out W B
    have l0 := k0.lt
    have l1 := k1.lt
    have l2 := k2.lt
    exact reoF_any d ok N n hN hn order hL hO A Ao c co b g cc w.heap.size (w.heap.size + 1 + 1) (w.heap.size + 1) W (Mem.rd_on h1 B') (rd_onR h3 B') (k0.cell 0) (k0.cell 1) (k2.cell 0) (k1.cell 0) l0 l2 l1 h2)))
  have LT := trL_len (Trd d n order) N
  have DT := Lib.hid (fun (g4 c4 : Nat) (W : World) (h : Rd W W.heap.size 1 (some ⟨g4, 0, none⟩) (blkN N) (us (trL (Trd d n order) N))) => dgTruths_any (Trd d n order) N g4 c4 N12 W h)
  have HW := Lib.hid (roF_top N N12 (Trd d n order)).1.few
  rw [hN]
  obtain ⟨la, ela⟩ : ∃ la, la = trL (Trd d n order) N := ⟨_, rfl⟩
  rw [← ela] at RT LT DT
  obtain ⟨R, eR⟩ : ∃ R, R = roF N ⟨N, []⟩ 0 (rowsT N (Trd d n order)) := ⟨_, rfl⟩
  rw [← eR] at DT HW ⊢
  have LTh := Lib.hid LT
  clear h1 h3 hT ela eR LT ok hO hL hn hN N12
  obtain ⟨⟨rm, rg⟩, re⟩ := R
  dsimp only at *
  have HB0 := Lib.hid B0
  clear B0
  go_enter Tryd.func53, Tryd.ntmps53
  go_wp2_with fail
  rw [← hW0]
  refine (RT.out).mono ?_
  rintro e w4 ⟨g4, c4, rfl, o4, b4⟩
  obtain ⟨B4, kb4, _, _, kr4⟩ := BX.out _ b4
  have x0 := kb4.cell 0
  have x1 := kb4.cell 1
  simp only [List.getElem?_cons_zero, List.getElem?_cons_succ] at x0 x1
  rw [LTh.out] at o4 ⊢
  have DT4 := Lib.hid (DT.out g4 c4 w4 (Rd.of_own o4))
  have lr := kr4.lt
  have KR4 := Lib.hid kr4
  have HB4 := Lib.hid B4
  clear o4 b4 kb4 B4 kr4 RT DT hW0
  go_wp2_with fail
  refine (DT4.out).mono ?_
  rintro e w9 ⟨A7, c7, rfl, o9, d9⟩
  dsimp only at o9 ⊢
  have kr9 := KR4.out.below d9 lr
  have B9 := Lib.hid (HB4.out.trans (d9.mono HB4.out.size))
  have f0 := kr9.frozen 0
  have f1 := kr9.frozen 1
  have y0 := kr9.cell 0
  have y1 := kr9.cell 1
  simp only [List.getElem?_cons_zero, List.getElem?_cons_succ] at y0 y1
  have n9 : (Value.slice A7 (rg).length c7).ownBlock ≠ some (w.heap.size + 1 + 1 + 1) := fun e => by have := (o9.lt _ e).1; omega
  have ow := HB4.out.size
  clear x0 x1
  go_wp2
  have K2 := (kr9.set 0 (.int .i64 rm)).set 1 (.slice A7 (rg).length c7)
  have o8 := own_away (own_away o9 (p := ⟨w.heap.size + 1 + 1 + 1, 0, none⟩) (.int .i64 rm) n9) (p := ⟨w.heap.size + 1 + 1 + 1, 1, none⟩) (.slice A7 (rg).length c7) n9
  have b8 := (B9.out.setCell (p := ⟨w.heap.size + 1 + 1 + 1, 0, none⟩) (by show w.heap.size ≤ w.heap.size + 1 + 1 + 1; omega) (.int .i64 rm)).setCell (p := ⟨w.heap.size + 1 + 1 + 1, 1, none⟩) (by show w.heap.size ≤ w.heap.size + 1 + 1 + 1; omega) (.slice A7 (rg).length c7)
  generalize (w9.setCell ⟨w.heap.size + 1 + 1 + 1, 0, none⟩ (.int .i64 rm)).setCell ⟨w.heap.size + 1 + 1 + 1, 1, none⟩ (.slice A7 (rg).length c7) = w8 at K2 b8 o8 ⊢
  have r0 := K2.cell 0
  have r1 := K2.cell 1
  simp only [List.set_cons_zero, List.set_cons_succ, List.getElem?_cons_zero, List.getElem?_cons_succ] at r0 r1
  exact bodyPost_ret (v := .tuple #[.agg #[.int .i64 rm, .slice A7 (rg).length c7], .int .i64 re]) (by simp [results, Tryd.results53, go_sem, r0, r1]) rfl ⟨A7, c7, rfl, own_lower o8 ow, b8⟩
end Go.Proofs.YtnhjcokmajejcaaDoor
