/- DiagramOf, in the model. -/
import Derived.Test.YtnhjcokmajejcaaDoorDoD
import Derived.Test.YtnhjcokmajejcaaDoorRoS
import Derived.Test.YtnhjcokmajejcaaDoorCiR
import Derived.Test.YtnhjcokmajejcaaDoorBitL
import Derived.Test.YtnhjcokmajejcaaDoorDgA
import Derived.Deep.RegionHeld3
namespace Go.Proofs.YtnhjcokmajejcaaDoor
open Go.RowKit
set_option maxRecDepth 100000

theorem rowsT_take (T : List Bool → Bool) {N k : Nat} (h : k < 2 ^ N) : (rowsT N T).take (k + 1) = (rowsT N T).take k ++ [bi (T (boL (bitsN k N)))] := by
  have hl : k < (rowsT N T).length := by rw [rowsT_len]; exact h
  rw [List.take_succ_eq_append_getElem hl]
  congr 2
  simp [rowsT]
theorem bitsN_are (p n : Nat) : arB (bitsN p n) = true := by
  unfold arB
  rw [List.all_eq_true]
  intro x hx
  obtain ⟨i, _, rfl⟩ := List.mem_map.1 hx
  have := bt_01 p n i
  have : bt p n i = 0 ∨ bt p n i = 1 := by omega
  rcases this with h | h <;> rw [h] <;> rfl
theorem own_cap2 {w : World} {base n c : Nat} {A : Option Addr} {t : TypeId} {xs : List Value} (h : w.ownsRow base t 1 (.slice A n c) n xs) (hn : 0 < n) : n ≤ c := by
  rcases h.2 with ⟨_, h0⟩ | ⟨g', cap, cur, e, _, _, h1, _⟩
  · omega
  · injection e with _ _ e3
    omega
set_option maxHeartbeats 8000000 in
theorem dgOf_spec (s : Ci) (x : Int) (A : Option Addr) (n c : Nat) (w : World) (h1 : Mem.rd w w.heap.size [.slice A n c] s.gates) :
    Calls Tryd.prog 12 #[.agg #[.int .i64 s.ins, .slice A n c], .int .i64 x] w (GivesDgN w (dgOfB s x).1 (dgOfB s x).2) := by
  obtain rfl : s.gates.length = n := rd_len h1
  have CK := Lib.hid (fun W (B : Below w.heap.size w W) => ckValid_spec s A s.gates.length c W (Mem.rd_on h1 B))
  have BX := Lib.hid (two_boxes w #[.int .i64 s.ins, .slice A s.gates.length c] #[.int .i64 0, .slice none 0 0] 29 35)
  have B0 : Below w.heap.size w ((w.alloc (.cells #[.int .i64 s.ins, .slice A s.gates.length c] 29)).alloc (.cells #[.int .i64 0, .slice none 0 0] 35)) := (below_alloc w _).alloc (by simp) _
  cases k1 : ckB s
  · rw [show dgOfB s x = (⟨0, []⟩, -1) from if_neg (by rw [k1]; simp)]
    rw [k1] at CK
    obtain ⟨m, gs⟩ := s
    dsimp only at *
    clear k1 h1
    go_enter Tryd.func12, Tryd.ntmps12
    go_wp2_with fail
    refine (CK.out _ B0).mono ?_
    rintro e w1 ⟨rfl, b1⟩
    obtain ⟨B1, kb1, kr1⟩ := BX.out _ b1
    have x0 := kb1.cell 0
    have x1 := kb1.cell 1
    have f0 := kr1.frozen 0
    have f1 := kr1.frozen 1
    have y0 := kr1.cell 0
    have y1 := kr1.cell 1
    simp only [List.getElem?_cons_zero, List.getElem?_cons_succ] at x0 x1 y0 y1
    go_wp2
    have K2 := (kr1.set 0 (.int .i64 0)).set 1 (.slice none 0 0)
    have b8 := (B1.setCell (p := ⟨w.heap.size + 1, 0, none⟩) (Nat.le_succ _) (.int .i64 0)).setCell (p := ⟨w.heap.size + 1, 1, none⟩) (Nat.le_succ _) (.slice none 0 0)
    generalize (w1.setCell ⟨w.heap.size + 1, 0, none⟩ (.int .i64 0)).setCell ⟨w.heap.size + 1, 1, none⟩ (.slice none 0 0) = w8 at K2 b8 ⊢
    have r0 := K2.cell 0
    have r1 := K2.cell 1
    simp only [List.set_cons_zero, List.set_cons_succ, List.getElem?_cons_zero, List.getElem?_cons_succ] at r0 r1
    exact bodyPost_ret (v := .tuple #[.agg #[.int .i64 0, .slice none 0 0], .int .i64 (-1)]) (by simp [results, Tryd.results12, go_sem, r0, r1]) rfl (gives_dg_nil b8)
  · have ok := ckB_iff.1 k1
    have few := ok.few
    have lo := ok.lo
    have hi := ok.hi
    rw [k1] at CK
    have L1 := Lib.hid (fun W => l7Edge_any s A c x W lo hi few)
    cases q1 : isE s x
    · rw [show dgOfB s x = (⟨0, []⟩, -1) from if_neg (by rw [q1]; simp)]
      rw [q1] at L1
      obtain ⟨m, gs⟩ := s
      dsimp only at *
      clear k1 h1 q1 ok lo hi few
      go_enter Tryd.func12, Tryd.ntmps12
      go_wp2_with fail
      refine (CK.out _ B0).mono ?_
      rintro e w1 ⟨rfl, b1⟩
      obtain ⟨B1, kb1, kr1⟩ := BX.out _ b1
      have x0 := kb1.cell 0
      have x1 := kb1.cell 1
      have f0 := kr1.frozen 0
      have f1 := kr1.frozen 1
      have y0 := kr1.cell 0
      have y1 := kr1.cell 1
      simp only [List.getElem?_cons_zero, List.getElem?_cons_succ] at x0 x1 y0 y1
      go_wp2_with fail
      refine (L1.out _).mono ?_
      rintro e w2 ⟨rfl, c2⟩
      have b2 := b1.trans (c2.mono b1.size)
      obtain ⟨B2, kb2, kr2⟩ := BX.out _ b2
      have x0 := kb2.cell 0
      have x1 := kb2.cell 1
      have f0 := kr2.frozen 0
      have f1 := kr2.frozen 1
      have y0 := kr2.cell 0
      have y1 := kr2.cell 1
      simp only [List.getElem?_cons_zero, List.getElem?_cons_succ] at x0 x1 y0 y1
      go_wp2
      have K2 := (kr2.set 0 (.int .i64 0)).set 1 (.slice none 0 0)
      have b8 := (B2.setCell (p := ⟨w.heap.size + 1, 0, none⟩) (Nat.le_succ _) (.int .i64 0)).setCell (p := ⟨w.heap.size + 1, 1, none⟩) (Nat.le_succ _) (.slice none 0 0)
      generalize (w2.setCell ⟨w.heap.size + 1, 0, none⟩ (.int .i64 0)).setCell ⟨w.heap.size + 1, 1, none⟩ (.slice none 0 0) = w8 at K2 b8 ⊢
      have r0 := K2.cell 0
      have r1 := K2.cell 1
      simp only [List.set_cons_zero, List.set_cons_succ, List.getElem?_cons_zero, List.getElem?_cons_succ] at r0 r1
      exact bodyPost_ret (v := .tuple #[.agg #[.int .i64 0, .slice none 0 0], .int .i64 (-1)]) (by simp [results, Tryd.results12, go_sem, r0, r1]) rfl (gives_dg_nil b8)
    · rw [q1] at L1
      rw [show dgOfB s x = roF s.ins.toNat ⟨s.ins, []⟩ 0 (rowsT s.ins.toNat (Tc s x)) from if_pos (by rw [k1, q1]; rfl)]
      obtain ⟨N, hN⟩ : ∃ N : Nat, s.ins = N := ⟨s.ins.toNat, by omega⟩
      have eN : s.ins.toNat = N := by omega
      have N12 : N ≤ 12 := by omega
      obtain ⟨z0, z1⟩ := isE_iff.1 q1
      unfold Ci.nodes at z1
      rw [hN] at z1
      obtain ⟨M, hM⟩ : ∃ M : Nat, M = 2 ^ N := ⟨_, rfl⟩
      have M4 : M ≤ 4096 := by
        have : 2 ^ N ≤ 2 ^ 12 := Nat.pow_le_pow_right (by omega) N12
        omega
      have M0 : 0 < M := by rw [hM]; exact Nat.pow_pos (by omega)
      have N64 : N ≤ 64 := by omega
      have w3 : wrap64 ((2 : Int) ^ N) = (M : Int) := by
        rw [show (2 : Int) ^ N = ((2 ^ N : Nat) : Int) by simp, ← hM]
        exact IntWalk.wrap64_in _ (by omega)
      have LV := Lib.hid (fun k W (hk : k < M) => l6Value_any k N W N12 (by omega))
      have LBk := Lib.hid (fun k => bitsN_len k N)
      have LR := Lib.hid (fun k W A4 c4 b0 (o4 : W.ownsRow b0 3 1 (.slice A4 (bitsN k N).length c4) (bitsN k N).length (ints (bitsN k N))) (B : Below w.heap.size w W) => l7Run_any s A s.gates.length c A4 (bitsN k N).length c4 (bitsN k N) W (Mem.rd_on h1 B) (rd_ints.2 ⟨by rw [bitsN_len]; unfold maxLen; omega, Rd.of_own o4⟩) ok (by rw [bitsN_len]; exact hN.symm) (bitsN_are k N))
      have LVL : ∀ k, (valTo s.gates (false :: boL (bitsN k N)) s.gates.length).length = 1 + N + s.gates.length := fun k => by rw [valTo_len, List.length_cons, boL_len, bitsN_len]; omega
      have LO := Lib.hid (fun k W A5 c5 b0 (o5 : W.ownsRow b0 3 1 (.slice A5 (biL (valTo s.gates (false :: boL (bitsN k N)) s.gates.length)).length c5) (biL (valTo s.gates (false :: boL (bitsN k N)) s.gates.length)).length (ints (biL (valTo s.gates (false :: boL (bitsN k N)) s.gates.length)))) => l7Of_any A5 (biL (valTo s.gates (false :: boL (bitsN k N)) s.gates.length)).length c5 (valTo s.gates (false :: boL (bitsN k N)) s.gates.length) x W (Rd.of_own o5) z0 (by rw [biL_len, LVL]; omega) (by rw [biL_len, LVL]; omega))
      have TK := Lib.hid (fun k (hk : k < M) => rowsT_take (Tc s x) (N := N) (k := k) (by rw [← hM]; exact hk))
      have TA : Hid ((rowsT N (Tc s x)).take M = rowsT N (Tc s x)) := Lib.hid (List.take_of_length_le (by rw [rowsT_len, hM]; exact Nat.le_refl _))
      have TL : Hid ((rowsT N (Tc s x)).length = M) := Lib.hid (by rw [rowsT_len, hM])
      have HP := roF_top N N12 (Tc s x)
      have HW := Lib.hid HP.1.few
      have hre := HP.2
      have L8 := Lib.hid (fun (Av : Option Addr) (cv : Nat) (W : World) (o : W.ownsRow (w.heap.size + 2) 3 1 (.slice Av M cv) M (ints (rowsT N (Tc s x)))) =>
        l8Rows_any N ⟨N, []⟩ none 0 0 Av M cv (rowsT N (Tc s x)) W.heap.size W (World.ownsRow_nil W W.heap.size 108 3) (Nat.le_refl _) (rd_ints.2 ⟨by unfold maxLen; omega, Rd.of_own o⟩) (own_cap2 o M0) (ok_none (by omega) (by omega)) (Int.le_refl 0) (by show (0 : Int) + N = N; omega) (rowsT_len N _) (rowsT_01 N _) (ro2_le N12 _))
      rw [eN]
      rw [hN] at BX B0 CK L1 LR ⊢
      have HM := Lib.hid hM
      clear k1 q1 ok lo hi hN eN z0 z1 h1 LVL HP hM few
      generalize roF N ⟨N, []⟩ 0 (rowsT N (Tc s x)) = R at *
      obtain ⟨⟨rm, rg⟩, re⟩ := R
      dsimp only [List.length_nil] at *
      go_enter Tryd.func12, Tryd.ntmps12
      go_wp2_with fail
      refine (CK.out _ B0).mono ?_
      rintro e w1 ⟨rfl, b1⟩
      obtain ⟨B1, kb1, kr1⟩ := BX.out _ b1
      have x0 := kb1.cell 0
      have x1 := kb1.cell 1
      have f0 := kr1.frozen 0
      have f1 := kr1.frozen 1
      have y0 := kr1.cell 0
      have y1 := kr1.cell 1
      simp only [List.getElem?_cons_zero, List.getElem?_cons_succ] at x0 x1 y0 y1
      go_wp2_with fail
      refine (L1.out _).mono ?_
      rintro e w2 ⟨rfl, c2⟩
      have b2 := b1.trans (c2.mono b1.size)
      have hb2 : w.heap.size + 2 ≤ w2.heap.size := by have := b2.size; (try simp only [World.size_alloc] at this); omega
      obtain ⟨B2, kb2, kr2⟩ := BX.out _ b2
      have x0 := kb2.cell 0
      have x1 := kb2.cell 1
      have f0 := kr2.frozen 0
      have f1 := kr2.frozen 1
      have y0 := kr2.cell 0
      have y1 := kr2.cell 1
      simp only [List.getElem?_cons_zero, List.getElem?_cons_succ] at x0 x1 y0 y1
      have hown0 := World.ownsRow_lit (base := w.heap.size + 2) (e := 3) (size := 1) w2 #[] 0 hb2 (by unfold maxLen; omega) rfl
      have HB2 := Lib.hid b2
      clear b1 b2 c2 CK L1 kb1 kr1 kb2 kr2 B1 B2
      go_upto_region 5 with fail
      clear x0 x1 f0 f1 y0 y1
      go_loopg [6, 7] M (fun r v i wr => ∃ k : Nat, k + r = M ∧ i = .int .i64 k ∧ Hid (wr.ownsRow (w.heap.size + 2) 3 1 v k (ints ((rowsT N (Tc s x)).take k))) ∧ Below ((w.alloc (.cells #[.int .i64 N, .slice A s.gates.length c] 29)).alloc (.cells #[.int .i64 0, .slice none 0 0] 35)).heap.size ((w.alloc (.cells #[.int .i64 N, .slice A s.gates.length c] 29)).alloc (.cells #[.int .i64 0, .slice none 0 0] 35)) wr)
      case atStart => exact ⟨0, by omega, rfl, Lib.hid hown0, HB2.out.trans ((below_alloc w2 _).mono HB2.out.size)⟩
      case round =>
        clear hown0 HB2
        obtain ⟨k, hk, rfl, ho, hb⟩ := hrel
        obtain ⟨B, kb, kr⟩ := BX.out _ hb
        have x0 := kb.cell 0
        have x1 := kb.cell 1
        have f0 := kr.frozen 0
        have f1 := kr.frozen 1
        have y0 := kr.cell 0
        have y1 := kr.cell 1
        simp only [List.getElem?_cons_zero, List.getElem?_cons_succ] at x0 x1 y0 y1
        have l0 := kb.lt
        have hs2 : w.heap.size + 2 ≤ wr.heap.size := by have := hb.size; (try simp only [World.size_alloc] at this); omega
        by_cases hlt : k < M
        · have kn : (k : Int) < M := by omega
          have TKk := Lib.hid (TK.out k hlt)
          have LVk := Lib.hid (LV.out k wr.drew hlt)
          obtain ⟨A0, c0, e0⟩ := row_slice ho.out
          subst e0
          clear f0 f1 y0 y1 TK LV L8
          go_upto_region 7 with fail
          go_region_held3 (fun w' => w'.cell? ⟨w.heap.size, 0, none⟩ = some (.int .i64 N) ∧ w'.cell? ⟨w.heap.size, 1, none⟩ = some (.slice A s.gates.length c))
            (first
              | go_keep
              | (refine ⟨?_, ?_⟩
                 · exact cell_grown hg4 (by simp; omega) (fun e => by have := (HO5.out.lt _ e).1; have : (⟨w.heap.size, 0, none⟩ : Addr).block = w.heap.size := rfl; omega) (K0.out _)
                 · exact cell_grown hg4 (by simp; omega) (fun e => by have := (HO5.out.lt _ e).1; have : (⟨w.heap.size, 1, none⟩ : Addr).block = w.heap.size := rfl; omega) (K1.out _)))
            (first
              | (go_at_call 31; refine (LVk.out).mono ?_; rintro e w4 ⟨v4, rfl, o4, b4'⟩
                 have b4 : Below wr.heap.size wr w4 := ⟨b4'.os, b4'.tape, b4'.output, b4'.size, b4'.block⟩
                 obtain ⟨A4, c4, rfl⟩ := row_slice o4
                 have x0 := cell_below b4 (p := ⟨w.heap.size, 0, none⟩) l0 x0
                 have x1 := cell_below b4 (p := ⟨w.heap.size, 1, none⟩) l0 x1
                 have L7 := Lib.hid (LR.out k w4 A4 c4 _ o4 (B.trans (b4.mono B.size)))
                 have l4 := Nat.lt_of_lt_of_le l0 b4.size
                 clear o4 b4')
              | (go_at_call 30; refine (L7.out).mono ?_; rintro e w5 ⟨v5, rfl, o5, b5⟩
                 obtain ⟨A5, c5, rfl⟩ := row_slice o5
                 have x0 := cell_below b5 (p := ⟨w.heap.size, 0, none⟩) l4 x0
                 have x1 := cell_below b5 (p := ⟨w.heap.size, 1, none⟩) l4 x1
                 have b45 := b4.trans (b5.mono b4.size)
                 have LOk := Lib.hid (LO.out k w5 A5 c5 _ o5)
                 have HO5 := Lib.hid (own_below ho.out b45)
                 have l5 := Nat.lt_of_lt_of_le l0 b45.size
                 have K0 := Lib.hid (fun o => (World.cell?_alloc_lt w5 o ⟨w.heap.size, 0, none⟩ l5).trans x0)
                 have K1 := Lib.hid (fun o => (World.cell?_alloc_lt w5 o ⟨w.heap.size, 1, none⟩ l5).trans x1)
                 have s5 := b45.size
                 clear o5)
              | (go_at_call 32; refine (LOk.out).mono ?_; rintro e w6 ⟨rfl, rfl⟩)
              | (refine step_app_int (by rfl) _ _ (by rfl) (w.heap.size + 2) _ k _ _ _ (by rfl) (by first | exact own_of_heap ((HO5.out).alloc _) rfl | exact (HO5.out).alloc _) (by rfl) (by first | exact World.cell?_alloc_at _ _ _ _ (by simp) | (simp [go_sem]; done)) (by omega) (by simp; omega) ?_; intro v' w7 ho4 hg4 hk4))
          all_goals
            go_wp2
            obtain ⟨A9, c9, rfl⟩ := row_slice ho4
            go_roundg (M - (k + 1))
            case measure => omega
            case rel =>
              refine ⟨k + 1, by omega, by go_num, Lib.hid (by rw [TKk.out]; exact ho4), ?_⟩
              have hb5 := hb.trans (b45.mono hb.size)
              have hh : ∀ g, (Value.slice A0 k c0).ownBlock = some g → ((w.alloc (.cells #[.int .i64 N, .slice A s.gates.length c] 29)).alloc (.cells #[.int .i64 0, .slice none 0 0] 35)).heap.size ≤ g := fun g hg => by have := (HO5.out.lt _ hg).1; simp; omega
              first
                | exact (hb5.alloc hb5.size _).grown hg4 (by simp at *; omega) hh
                | exact ((hb5.alloc hb5.size _).drew).grown hg4 (by simp at *; omega) hh
                | exact ((hb5.drew).alloc hb5.size _).grown hg4 (by simp at *; omega) hh
        · obtain rfl : k = M := by omega
          rw [TA.out] at ho
          obtain ⟨A0, c0, e0⟩ := row_slice ho.out
          subst e0
          have L8r := Lib.hid (L8.out A0 c0 wr ho.out)
          clear L8 LR LO LV TK
          go_wp2_with fail
          refine (L8r.out).mono ?_
          rintro e w7 hG
          clear L8r
          obtain ⟨m3, A3, n3, c3, x3, rfl, on7, kd7, on1⟩ := gives_de_one rfl hG
          have d7 : Below wr.heap.size wr w7 := on7.below (Nat.le_refl _) (fun x hx => by cases hx)
          rcases on1 with ⟨_, hr⟩ | ⟨_, ex, em, en, ho3, hy3⟩
          · exact absurd hr (by dsimp only; omega)
          dsimp only at ex em en ho3
          subst ex
          subst em
          subst en
          have O7 := Lib.hid ho3
          have b7 := hb.trans (d7.mono hb.size)
          clear hG kd7 on7 ho3 hy3
          obtain ⟨B7, kb7, kr7⟩ := BX.out _ b7
          have x0 := kb7.cell 0
          have x1 := kb7.cell 1
          have f0 := kr7.frozen 0
          have f1 := kr7.frozen 1
          have y0 := kr7.cell 0
          have y1 := kr7.cell 1
          simp only [List.getElem?_cons_zero, List.getElem?_cons_succ] at x0 x1 y0 y1
          go_wp2_with fail
          refine (l8Told_yes m3 A3 rg.length c3 x3 _ (by omega)).mono ?_
          rintro e w9 ⟨rfl, d9'⟩
          have d9 := below_call d9'
          have b9 := b7.trans (d9.mono b7.size)
          obtain ⟨B9, kb9, kr9⟩ := BX.out _ b9
          have x0 := kb9.cell 0
          have x1 := kb9.cell 1
          have f0 := kr9.frozen 0
          have f1 := kr9.frozen 1
          have y0 := kr9.cell 0
          have y1 := kr9.cell 1
          simp only [List.getElem?_cons_zero, List.getElem?_cons_succ] at x0 x1 y0 y1
          have o9 := own_below O7.out d9
          have hz9 : w.heap.size + 1 < wr.heap.size := by have := hb.size; (try simp only [World.size_alloc] at this); omega
          have n9 : (Value.slice A3 rg.length c3).ownBlock ≠ some (w.heap.size + 1) := fun e => by have := (o9.lt _ e).1; omega
          go_wp2
          have K2 := (kr9.set 0 (.int .i64 m3)).set 1 (.slice A3 rg.length c3)
          have o8 := own_away (own_away o9 (p := ⟨w.heap.size + 1, 0, none⟩) (.int .i64 m3) n9) (p := ⟨w.heap.size + 1, 1, none⟩) (.slice A3 rg.length c3) n9
          have b8 := (B9.setCell (p := ⟨w.heap.size + 1, 0, none⟩) (Nat.le_succ _) (.int .i64 m3)).setCell (p := ⟨w.heap.size + 1, 1, none⟩) (Nat.le_succ _) (.slice A3 rg.length c3)
          generalize (w9.setCell ⟨w.heap.size + 1, 0, none⟩ (.int .i64 m3)).setCell ⟨w.heap.size + 1, 1, none⟩ (.slice A3 rg.length c3) = w8 at K2 b8 o8 ⊢
          have r0 := K2.cell 0
          have r1 := K2.cell 1
          simp only [List.set_cons_zero, List.set_cons_succ, List.getElem?_cons_zero, List.getElem?_cons_succ] at r0 r1
          obtain ⟨fp, q1, q2, q3⟩ := own_flat (α := Fk) o8 rfl (by unfold maxLen; have := HW.out; omega)
          exact bodyPost_ret (v := .tuple #[.agg #[.int .i64 m3, .slice A3 rg.length c3], .int .i64 x3]) (by simp [results, Tryd.results12, go_sem, r0, r1]) rfl (by exact ⟨A3, _, c3, fp, rfl, q1, q2, fun y hy => by have := q3 y hy; omega, b8⟩)
theorem dgOf_specR (s : Ci) (x : Int) (A : Option Addr) (n c : Nat) (w : World) (h1 : Mem.rd w w.heap.size [.slice A n c] s.gates) :
    Calls Tryd.prog 12 #[.agg #[.int .i64 s.ins, .slice A n c], .int .i64 x] w (GivesDgN w (dgOf1 s x) (dgOf2 s x)) := dgOf_spec s x A n c w h1
end Go.Proofs.YtnhjcokmajejcaaDoor
