/- A clause of edges put behind others, in the model. -/
import Derived.Test.YthlkbkomecnbaaaKfC
import Derived.Test.YthlkbkomecnbaaaKoS
import Derived.Test.YthlkbkomecnbaaaCiS
namespace Go.Proofs.Ythlkbkomecnbaaa
open Go.RowKit
set_option maxRecDepth 100000

theorem l11Edge_any (x : Int) (w : World) (h0 : 0 ≤ x) (h1 : x ≤ 1000000) : Calls Try.prog 106 #[.int .i64 x] w fun e w' => e = .returned (.int .i64 (litE x)) ∧ w = w' := by
  obtain ⟨p, d, hd, ee, _, _, e3, e4⟩ := edge_parts h0
  have hp : (p : Int) ≤ 1000000 := by omega
  have w4 : IntKind.i64.wrap (x.tdiv 2) = (p : Int) := by rw [e4]; exact IntWalk.i64_in _ (by omega)
  have w5 : IntKind.i64.wrap (-(p : Int)) = -(p : Int) := IntWalk.i64_in _ (by omega)
  obtain rfl | rfl : d = 0 ∨ d = 1 := by omega
  · have e5 : x.tmod 2 = 0 := e3
    have e : litE x = (p : Int) := by unfold litE; rw [if_neg (by omega)]; omega
    rw [e]
    clear e e3 e4 ee h0 h1
    go_enter Try.func106, Try.ntmps106
    go_wp2
    go_ret
    exact ⟨rfl, rfl⟩
  · have e5 : x.tmod 2 = 1 := e3
    have e : litE x = -(p : Int) := by unfold litE; rw [if_pos (by omega)]; omega
    rw [e]
    clear e e3 e4 ee h0 h1
    go_enter Try.func106, Try.ntmps106
    go_wp2
    go_ret
    exact ⟨rfl, rfl⟩

set_option maxHeartbeats 4000000 in
theorem l11Put_any (m : Nat) (h7 : m ≤ 700) (v : Value) (base : Nat) (L : List (List Int)) (fp : List Nat) (E : Option Addr) (ne ce : Nat) (es : List Int) (w : World)
    (hL : LL w base 22 v L.length L fp) (hE : Mem.rd w w.heap.size [.slice E ne ce] es) (hk : L.length ≤ 5000) (hne : ne ≤ 3) (hes : ∀ i, i < ne → 0 ≤ ix es i ∧ ix es i ≤ 2 * m + 1) (hb : base ≤ w.heap.size) :
    Calls Try.prog 67 #[.agg #[.int .i64 (m : Int), v], .slice E ne ce] w fun e w' => ∃ v' fp', e = .returned (.agg #[.int .i64 (m : Int), v']) ∧ LL w' base 22 v' (putC m L es).length (putC m L es) fp' ∧ Only fp w w' ∧ ∀ b ∈ fp', b ∈ fp ∨ w.heap.size ≤ b := by
  have ln := rd_len hE
  have r := (rd_ints.1 hE).2
  obtain ⟨Av, cv, rfl⟩ := row_slice hL.2.2.choose_spec.choose_spec.1
  have HL := Lib.hid hL
  have HK := Lib.hid hk
  have HLO := Lib.hid hL.lt
  have HB := Lib.hid hb
  have H1 : Hid (∀ k, k < ne → ix es k = 1 → putC m L es = L) := Lib.hid fun k hk e => putC_one (by rw [ln]; exact hk) e
  have H2 : Hid ((∀ k, k < ne → ix es k ≠ 1) → clauseOkB (eTo es ne) m = true → putC m L es = L ++ [clauseB (eTo es ne) m]) := Lib.hid fun q c => by
    rw [← ln] at c ⊢; exact putC_yes (fun k hk => q k (by rw [← ln]; exact hk)) c
  have H3 : Hid ((∀ k, k < ne → ix es k ≠ 1) → clauseOkB (eTo es ne) m = false → putC m L es = L) := Lib.hid fun q c => by
    rw [← ln] at c; exact putC_no (fun k hk => q k (by rw [← ln]; exact hk)) c
  have HE := Lib.hid (fun k => eTo_len es k)
  have HES := Lib.hid hes
  have HC := Lib.hid (fun A n c W (hW : Mem.rd W W.heap.size [.slice A n c] (eTo es ne)) (hn : n ≤ 1048576) => l11Clause_any (eTo es ne) m h7 A n c W hW hn (eTo_lits fun i hi => (hes i hi).2))
  obtain ⟨g, hg⟩ : ∃ g, g = w.heap.size := ⟨_, rfl⟩
  have HG := Lib.hid hg
  have BX := Lib.hid (two_boxes w #[.int .i64 (m : Int), .slice Av L.length cv] #[.int .i64 0, .slice none 0 0] 31 31)
  clear hL hE hk ln hb hes hg
  have own0 : (((w.alloc (.cells #[.int .i64 (m : Int), .slice Av L.length cv] 31)).alloc (.cells #[.int .i64 0, .slice none 0 0] 31)).alloc (.cells #[] 3)).ownsRow (g + 2) 3 1 (.slice (some ⟨((w.alloc (.cells #[.int .i64 (m : Int), .slice Av L.length cv] 31)).alloc (.cells #[.int .i64 0, .slice none 0 0] 31)).heap.size, 0, none⟩) 0 0) 0 (ints []) :=
    World.ownsRow_lit (base := g + 2) (e := 3) (size := 1) ((w.alloc (.cells #[.int .i64 (m : Int), .slice Av L.length cv] 31)).alloc (.cells #[.int .i64 0, .slice none 0 0] 31)) #[] 0 (by rw [HG.out]; simp) (by unfold maxLen; omega) rfl
  simp only [World.size_alloc] at own0
  have HO0 := Lib.hid own0
  clear own0
  go_enter Try.func67, Try.ntmps67
  go_wp2_with fail
  go_loopg [5, 6] ne (fun q s i wr => ∃ k : Nat, k + q = ne ∧ i = .int .i64 k ∧ Hid (wr.ownsRow (g + 2) 3 1 s (eTo es k).length (ints (eTo es k))) ∧ Hid (∀ j, j < k → ix es j ≠ 1) ∧ Hid (Below ((w.alloc (.cells #[.int .i64 (m : Int), .slice Av L.length cv] 31)).alloc (.cells #[.int .i64 0, .slice none 0 0] 31)).heap.size ((w.alloc (.cells #[.int .i64 (m : Int), .slice Av L.length cv] 31)).alloc (.cells #[.int .i64 0, .slice none 0 0] 31)) wr))
  case atStart => exact ⟨0, by omega, rfl, HO0, Lib.hid (fun j hj => absurd hj (by omega)), Lib.hid (below_alloc _ _)⟩
  case round =>
    clear HO0
    obtain ⟨k, hk, rfl, HO, HJ, HW⟩ := hrel
    obtain ⟨B, K1, K2⟩ := BX.out _ HW.out
    have HB1 := Lib.hid B
    have c0 : wr.cell? ⟨w.heap.size, 0, none⟩ = some (.int .i64 (m : Int)) := K1.cell 0
    have c1 : wr.cell? ⟨w.heap.size, 1, none⟩ = some (.slice Av L.length cv) := K1.cell 1
    have d0 : wr.cell? ⟨w.heap.size + 1, 0, none⟩ = some (.int .i64 0) := K2.cell 0
    have d1 : wr.cell? ⟨w.heap.size + 1, 1, none⟩ = some (.slice none 0 0) := K2.cell 1
    have fd0 := K2.frozen 0
    have fd1 := K2.frozen 1
    have hsz : w.heap.size + 1 < wr.heap.size := K2.lt
    have HK1 := Lib.hid K1
    have HK2 := Lib.hid K2
    clear K1 K2
    by_cases hlt : k < ne
    · obtain ⟨ad, rfl, hbl, e0⟩ := (r.below B).int hlt
      obtain ⟨x0, x1⟩ := HES.out k hlt
      have HX : Hid (ix es k ≠ 1 → ∀ j, j < k + 1 → ix es j ≠ 1) := Lib.hid fun ok j hj => by
        by_cases z : j < k
        · exact HJ.out j z
        · obtain rfl : j = k := by omega
          exact ok
      have H1k := Lib.hid (H1.out k hlt)
      have ES : Hid (eTo es (k + 1) = if 1 < ix es k then eTo es k ++ [litE (ix es k)] else eTo es k) := Lib.hid rfl
      have ED := Lib.hid (fun W => l11Edge_any (ix es k) W x0 (by omega))
      have hel := HE.out k
      clear B
      generalize litE (ix es k) = lt at *
      generalize ix es k = x at *
      by_cases g1 : x = 1
      · have EE := Lib.hid (H1k.out g1)
        have g2 : (x == 1) = true := by simp [g1]
        clear g1 HX H1k ES ED
        go_wp2
        refine bodyPost_ret (v := .agg #[.int .i64 (m : Int), .slice Av L.length cv]) (by simp [results, Try.results67, go_sem, d0, d1]) rfl ?_
        rw [EE.out]
        have b9 := (HB1.out.setCell (p := ⟨w.heap.size + 1, 0, none⟩) (Nat.le_succ _) (.int .i64 (m : Int))).setCell (p := ⟨w.heap.size + 1, 1, none⟩) (Nat.le_succ _) (.slice Av L.length cv)
        exact ⟨_, fp, rfl, HL.out.below b9, Only.of_below b9 fp, fun b hb => .inl hb⟩
      · have HX2 := Lib.hid (HX.out g1)
        have g2 : (x == 1) = false := by simp [g1]
        clear g1 HX H1k
        by_cases g3 : 1 < x
        · have ES2 := Lib.hid (ES.out.trans (if_pos g3))
          clear ES
          go_wp2_with (first
            | (go_at_call 106; refine (ED.out _).mono ?_; rintro e w3 ⟨rfl, rfl⟩)
            | (at_builtin; refine app_int_at rfl _ _ rfl (g + 2) _ (eTo es k).length _ _ _ rfl (HO.out.alloc _) rfl (World.cell?_alloc_at _ _ _ _ (by simp)) (by omega) (by rw [HG.out]; simp; omega) ?_; intro v' w4 ho4 hb4))
          go_roundg (ne - (k + 1))
          case measure => omega
          case rel =>
            have hs2 : ((w.alloc (.cells #[.int .i64 (m : Int), .slice Av L.length cv] 31)).alloc (.cells #[.int .i64 0, .slice none 0 0] 31)).heap.size ≤ wr.heap.size := HW.out.size
            have hg2 : ((w.alloc (.cells #[.int .i64 (m : Int), .slice Av L.length cv] 31)).alloc (.cells #[.int .i64 0, .slice none 0 0] 31)).heap.size = g + 2 := by rw [HG.out]; simp
            refine ⟨k + 1, by omega, by go_num, Lib.hid (by rw [ES2.out, List.length_append, List.length_singleton]; exact ho4), HX2, Lib.hid ((HW.out.alloc hs2 _).trans (hb4.mono (by rw [hg2]; exact Nat.le_refl _)))⟩
        · have ES2 := Lib.hid (ES.out.trans (if_neg g3))
          clear ES
          go_wp2
          go_roundg (ne - (k + 1))
          case measure => omega
          case rel => exact ⟨k + 1, by omega, by go_num, Lib.hid (by rw [ES2.out]; exact HO.out), HX2, HW⟩
    · obtain rfl : k = ne := by omega
      have ho := HO.out
      obtain ⟨A1, c1', rfl, _, r1⟩ := own_form ho
      have hel := HE.out k
      have LC := Lib.hid (HC.out A1 _ c1' wr (rd_ints.2 ⟨by unfold maxLen; omega, r1⟩) (by omega))
      have EQ1 := Lib.hid (H2.out HJ.out)
      have EQ2 := Lib.hid (H3.out HJ.out)
      clear ho r1 H1 H2 H3 HC B
      generalize (eTo es k).length = n1 at *
      generalize clauseB (eTo es k) m = F at *
      generalize clauseOkB (eTo es k) m = G at *
      go_wp2_with fail
      refine LC.out.mono ?_
      rintro e w3 ⟨A9, n9, c9, f9, rfl, o9, nd9, lo9, b9⟩
      have B3 := HB1.out.trans (b9.mono HB1.out.size)
      have K1 := HK1.out.below b9 (by omega)
      have K2 := HK2.out.below b9 hsz
      have x0 : w3.cell? ⟨w.heap.size, 0, none⟩ = some (.int .i64 (m : Int)) := K1.cell 0
      have x1 : w3.cell? ⟨w.heap.size, 1, none⟩ = some (.slice Av L.length cv) := K1.cell 1
      have y0 : w3.cell? ⟨w.heap.size + 1, 0, none⟩ = some (.int .i64 0) := K2.cell 0
      have y1 : w3.cell? ⟨w.heap.size + 1, 1, none⟩ = some (.slice none 0 0) := K2.cell 1
      have fy0 := K2.frozen 0
      have fy1 := K2.frozen 1
      have hs3 : w.heap.size + 1 < w3.heap.size := K2.lt
      have HB3 := Lib.hid B3
      have HO9 := Lib.hid (fun o => Mem.own_below o9 (below_alloc w3 o))
      have HND := Lib.hid nd9
      have HL9 : Hid (∀ b ∈ f9, w.heap.size + 2 ≤ b) := Lib.hid fun b hb => by have := lo9 b hb; omega
      have HK1 := Lib.hid K1
      have HK2 := Lib.hid K2
      clear c0 c1 d0 d1 fd0 fd1 B3 o9 nd9 lo9 K1 K2 hsz b9 LC
      cases G
      · have EE := Lib.hid (EQ2.out rfl)
        clear EQ1 EQ2
        go_wp2
        refine bodyPost_ret (v := .agg #[.int .i64 (m : Int), .slice Av L.length cv]) (by simp [results, Try.results67, go_sem, y0, y1]) rfl ?_
        rw [EE.out]
        have b9 := (HB3.out.setCell (p := ⟨w.heap.size + 1, 0, none⟩) (Nat.le_succ _) (.int .i64 (m : Int))).setCell (p := ⟨w.heap.size + 1, 1, none⟩) (Nat.le_succ _) (.slice Av L.length cv)
        exact ⟨_, fp, rfl, HL.out.below b9, Only.of_below b9 fp, fun b hb => .inl hb⟩
      · have EE := Lib.hid (EQ1.out rfl)
        clear EQ1 EQ2
        have HNG : Hid (w.heap.size ∉ fp) := Lib.hid fun hm => by have := (HLO.out _ hm).2; omega
        have HNG2 : Hid (w.heap.size + 1 ∉ fp) := Lib.hid fun hm => by have := (HLO.out _ hm).2; omega
        have hk := HK.out
        go_wp2_with (first
          | (at_builtin; refine app_ll rfl _ _ rfl rfl HL.out (HB3.out.trans ((below_alloc w3 _).mono HB3.out.size)) (HO9.out _) HND.out (fun b hb => by have := HL9.out b hb; omega) rfl (World.cell?_alloc_at _ _ _ _ (by simp)) (by omega) HB.out ?_; intro v9 w9 f8 q1 q2 q3
             obtain ⟨A8, c8, rfl⟩ := row_slice q1.2.2.choose_spec.choose_spec.1
             have k1 := q2.out (HK1.out.alloc _) HNG.out
             have k2 := q2.out (HK2.out.alloc _) HNG2.out
             have z0 : w9.cell? ⟨w.heap.size, 0, none⟩ = some (.int .i64 (m : Int)) := k1.cell 0
             have z1 : w9.cell? ⟨w.heap.size, 1, none⟩ = some (.slice Av L.length cv) := k1.cell 1
             have fz1 := k1.frozen 1
             have v0 : w9.cell? ⟨w.heap.size + 1, 0, none⟩ = some (.int .i64 0) := k2.cell 0
             have v1 : w9.cell? ⟨w.heap.size + 1, 1, none⟩ = some (.slice none 0 0) := k2.cell 1
             have fv0 := k2.frozen 0
             have fv1 := k2.frozen 1
             have HQ1 := Lib.hid q1
             have HQ2 := Lib.hid q2
             have HQ3 := Lib.hid q3
             clear q1 q2 q3 k1 k2))
        refine bodyPost_ret (v := .agg #[.int .i64 (m : Int), .slice A8 (L.length + 1) c8]) (by simp [results, Try.results67, go_sem, v0, v1]) rfl ?_
        rw [EE.out]
        have hni : ∀ b ∈ f8, b ≠ w.heap.size ∧ b ≠ w.heap.size + 1 ∧ (b ∈ fp ∨ w.heap.size ≤ b) := fun b hb => by
          rcases HQ3.out b hb with h | h | h
          · have := (HLO.out b h).2; exact ⟨by omega, by omega, .inl h⟩
          · have := HL9.out b h; exact ⟨by omega, by omega, .inr (by omega)⟩
          · rw [World.size_alloc] at h; exact ⟨by omega, by omega, .inr (by omega)⟩
        refine ⟨_, f8, rfl, ?_, ?_, fun b hb => (hni b hb).2.2⟩
        · rw [List.length_append, List.length_singleton]
          exact ((HQ1.out.only (Only.set1 _ _ _ _) fun b hb => by simp [(hni b hb).1]).only (Only.set1 _ _ _ _) fun b hb => by simp [(hni b hb).2.1]).only (Only.set1 _ _ _ _) fun b hb => by simp [(hni b hb).2.1]
        · exact ((((Only.of_below (HB3.out.trans ((below_alloc w3 _).mono HB3.out.size)) fp).trans HQ2.out).setOut (Nat.le_refl _) _).setOut (Nat.le_succ _) _).setOut (Nat.le_succ _) _
end Go.Proofs.Ythlkbkomecnbaaa
