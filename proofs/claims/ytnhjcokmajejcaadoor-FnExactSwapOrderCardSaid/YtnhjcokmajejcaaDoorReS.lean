/- Reordered, in the model. -/
import Derived.Test.YtnhjcokmajejcaaDoorReP
import Derived.Test.YtnhjcokmajejcaaDoorDoT
import Derived.Test.YtnhjcokmajejcaaDoorDoS
import Derived.Test.YtnhjcokmajejcaaDoorReI
import Derived.Test.YtnhjcokmajejcaaDoorOrS
namespace Go.Proofs.YtnhjcokmajejcaaDoor
open Go.RowKit
set_option maxRecDepth 100000

theorem valP_01 {d : Dg} (ok : d.Ok) (bits : List Int) : ∀ (m : Nat) {n : Int}, isP d n = true → n < m → valP d bits n = 0 ∨ valP d bits n = 1
  | 0, n, hn, h => by have := (isP_iff.1 hn).1; omega
  | m + 1, n, hn, h => by
    by_cases h2 : n < 2
    · rw [valP_end h2]
      have := (isP_iff.1 hn).1
      omega
    · rw [valP_next ok bits hn (by omega)]
      have := nextP_ok ok bits hn (by omega)
      exact valP_01 ok bits m this.1 (by omega)
theorem Trd_val {d : Dg} (ok : d.Ok) {n : Int} (hn : isP d n = true) (order : List Int) {N : Nat} (hN : d.vars = N) (p : Nat) : valP d (prm 0 N order (bitsN p N) order.length) n = bi (Trd d n order (boL (bitsN p N))) := by
  have e : prm 0 N order (bitsN p N) order.length = biL (prm false d.vars.toNat order (boL (bitsN p N)) order.length) := by
    unfold biL
    rw [prm_map, show bi false = 0 from rfl, show (boL (bitsN p N)).map bi = bitsN p N from biL_boL (bitsN_are p N), hN]
    rfl
  unfold Trd plB
  rw [← e]
  have := valP_01 ok (prm 0 N order (bitsN p N) order.length) (2 + d.forks.length) hn (by have := (isP_iff.1 hn).2; omega)
  rcases this with h | h <;> rw [h] <;> rfl
theorem prm_next (N : Nat) (order row : List Int) (j : Nat) {x : Nat} (e : ix order j = x) : (ints (prm 0 N order row j)).set x (.int .i64 (ix row j)) = ints (prm 0 N order row (j + 1)) := by
  show _ = ints ((prm 0 N order row j).set (ix order j).toNat (row[j]?.getD 0))
  rw [e]
  unfold ints
  rw [List.map_set]
  rfl

set_option maxHeartbeats 8000000 in
theorem l9Moved_any (d : Dg) (ok : d.Ok) (n : Int) (hp : isP d n = true) (order : List Int) (hO : ordB order d.vars = true) (N : Nat) (hN : d.vars = N) (A Ao : Option Addr) (c co : Nat) (w : World) (h1 : Mem.rd w w.heap.size [.slice A d.forks.length c] d.forks) (h3 : Mem.rd w w.heap.size [.slice Ao N co] order) :
    Calls Tryd.prog 49 #[.agg #[.int .i64 d.vars, .slice A d.forks.length c], .int .i64 n, .slice Ao N co] w (GivesDgO w (roF N ⟨N, []⟩ 0 (rowsT N (Trd d n order)))) := by
  have hi := ok.hi
  have N12 : N ≤ 12 := by omega
  have oL : order.length = N := by have := (ordB_iff.1 hO).1; omega
  have OI := Lib.hid (fun (k : Nat) (hk : k < N) => ord_in hO (k := k) (by omega))
  rw [oL] at OI
  have h3' := (rd_ints.1 h3).2
  obtain ⟨M, hM⟩ : ∃ M : Nat, M = 2 ^ N := ⟨_, rfl⟩
  have M4 : M ≤ 4096 := by
    have : 2 ^ N ≤ 2 ^ 12 := Nat.pow_le_pow_right (by omega) N12
    omega
  have M0 : 0 < M := by rw [hM]; exact Nat.pow_pos (by omega)
  have N64 : N ≤ 64 := by omega
  have w3 : wrap64 ((2 : Int) ^ N) = (M : Int) := by
    rw [show (2 : Int) ^ N = ((2 ^ N : Nat) : Int) by simp, ← hM]
    exact IntWalk.wrap64_in _ (by omega)
  have BX := Lib.hid (two_boxes w #[.int .i64 d.vars, .slice A d.forks.length c] #[.int .i64 0, .slice none 0 0] 35 35)
  have BR : Below ((w.alloc (.cells #[.int .i64 d.vars, .slice A d.forks.length c] 35)).alloc (.cells #[.int .i64 0, .slice none 0 0] 35)).heap.size ((w.alloc (.cells #[.int .i64 d.vars, .slice A d.forks.length c] 35)).alloc (.cells #[.int .i64 0, .slice none 0 0] 35)) (((w.alloc (.cells #[.int .i64 d.vars, .slice A d.forks.length c] 35)).alloc (.cells #[.int .i64 0, .slice none 0 0] 35)).alloc (.cells #[] 3)) := below_alloc _ _
  have LV := Lib.hid (fun k W (hk : k < M) => l6Value_any k N W N12 (by omega))
  have LBk := Lib.hid (fun k => bitsN_len k N)
  have LVV := Lib.hid (fun k W (B : Below w.heap.size w W) (g cv : Nat) (o : W.ownsRow 0 3 1 (.slice (some ⟨g, 0, none⟩) N cv) N (ints (prm 0 N order (bitsN k N) N))) => show Calls Tryd.prog 78 #[.agg #[.int .i64 d.vars, .slice A d.forks.length c], .int .i64 n, .slice (some ⟨g, 0, none⟩) N cv] W (GivesInt W (bi (Trd d n order (boL (bitsN k N))))) by
    have := l8Value_any d n (prm 0 N order (bitsN k N) N) A c (some ⟨g, 0, none⟩) N cv W (Mem.rd_on h1 B) (rd_ints.2 ⟨by unfold maxLen; omega, Rd.of_own o⟩) ok hp (by rw [prm_len]; omega)
    have e := Trd_val ok hp order hN k
    rw [oL] at e
    rw [e] at this
    exact this)
  have PL := Lib.hid (fun k j => prm_len (0 : Int) N order (bitsN k N) j)
  have PN := Lib.hid (fun k j (x : Nat) (e : ix order j = x) => prm_next N order (bitsN k N) j e)
  have C0 : Hid (∀ k, (madeCells (Value.int .i64 0).cells (N * 1)).toList = ints (prm 0 N order (bitsN k N) 0)) := Lib.hid (fun k => by rw [Nat.mul_one]; exact (toList_madeCells_one _ _).trans (by simp [ints, prm]))
  have TK := Lib.hid (fun k (hk : k < M) => rowsT_take (Trd d n order) (N := N) (k := k) (by rw [← hM]; exact hk))
  have TA : Hid ((rowsT N (Trd d n order)).take M = rowsT N (Trd d n order)) := Lib.hid (List.take_of_length_le (by rw [rowsT_len, hM]; exact Nat.le_refl _))
  have HP := roF_top N N12 (Trd d n order)
  have HW := Lib.hid HP.1.few
  have hre := HP.2
  have L8 := Lib.hid (fun (Av : Option Addr) (cv : Nat) (W : World) (o : W.ownsRow (w.heap.size + 2) 3 1 (.slice Av M cv) M (ints (rowsT N (Trd d n order)))) =>
    l8Rows_any N ⟨N, []⟩ none 0 0 Av M cv (rowsT N (Trd d n order)) W.heap.size W (World.ownsRow_nil W W.heap.size 108 3) (Nat.le_refl _) (rd_ints.2 ⟨by unfold maxLen; omega, Rd.of_own o⟩) (own_cap2 o M0) (ok_none (by omega) (by omega)) (Int.le_refl 0) (by show (0 : Int) + N = N; omega) (rowsT_len N _) (rowsT_01 N _) (ro2_le N12 _))
  have own0 : (((w.alloc (.cells #[.int .i64 d.vars, .slice A d.forks.length c] 35)).alloc (.cells #[.int .i64 0, .slice none 0 0] 35)).alloc (.cells #[] 3)).ownsRow (w.heap.size + 2) 3 1 (.slice (some ⟨w.heap.size + 2, 0, none⟩) 0 0) 0 (ints []) := by
    have := World.ownsRow_lit (base := w.heap.size + 2) (e := 3) (size := 1) ((w.alloc (.cells #[.int .i64 d.vars, .slice A d.forks.length c] 35)).alloc (.cells #[.int .i64 0, .slice none 0 0] 35)) #[] 0 (by simp) (by unfold maxLen; omega) rfl
    simp only [World.size_alloc] at this
    exact this
  rw [hN] at BX BR LVV own0 ⊢
  have HOWN := Lib.hid own0
  have HBR := Lib.hid BR
  have KX := BX.out _ BR
  clear hi hO oL hM HP own0 BR h1 h3 ok hp hN
  obtain ⟨R, eR⟩ : ∃ R, R = roF N ⟨N, []⟩ 0 (rowsT N (Trd d n order)) := ⟨_, rfl⟩
  rw [← eR] at L8 HW hre ⊢
  clear eR
  obtain ⟨⟨rm, rg⟩, re⟩ := R
  dsimp only [List.length_nil] at *
  obtain ⟨B, kb, kr⟩ := KX
  have x0 := kb.cell 0
  have x1 := kb.cell 1
  simp only [List.getElem?_cons_zero, List.getElem?_cons_succ] at x0 x1
  clear kb kr B
  go_enter Tryd.func49, Tryd.ntmps49
  go_wp2_with fail
  go_loopg [8, 9] M (fun r v i wr => ∃ k : Nat, k + r = M ∧ i = .int .i64 k ∧ Hid (wr.ownsRow (w.heap.size + 2) 3 1 v k (ints ((rowsT N (Trd d n order)).take k))) ∧ Below ((w.alloc (.cells #[.int .i64 N, .slice A d.forks.length c] 35)).alloc (.cells #[.int .i64 0, .slice none 0 0] 35)).heap.size ((w.alloc (.cells #[.int .i64 N, .slice A d.forks.length c] 35)).alloc (.cells #[.int .i64 0, .slice none 0 0] 35)) wr)
  case atStart => exact ⟨0, by omega, rfl, HOWN, HBR.out⟩
  case round =>
    clear HOWN HBR x0 x1
    obtain ⟨k, hk, rfl, ho, hb⟩ := hrel
    obtain ⟨B, kb, kr⟩ := BX.out _ hb
    have x0 := kb.cell 0
    have x1 := kb.cell 1
    have f0 := kr.frozen 0
    have f1 := kr.frozen 1
    have y0 := kr.cell 0
    have y1 := kr.cell 1
    simp only [List.getElem?_cons_zero, List.getElem?_cons_succ] at x0 x1 y0 y1
    have hs2 : w.heap.size + 2 ≤ wr.heap.size := by have := hb.size; (try simp only [World.size_alloc] at this); omega
    by_cases hlt : k < M
    · have kn : (k : Int) < M := by omega
      have TKk := Lib.hid (TK.out k hlt)
      have LVk := Lib.hid (LV.out k wr hlt)
      obtain ⟨A0, c0, e0⟩ := row_slice ho.out
      subst e0
      clear f0 f1 y0 y1 TK LV L8 TA
      go_wp2_with fail
      refine (LVk.out).mono ?_
      rintro e w4 ⟨v4, rfl, o4, b4⟩
      obtain ⟨A4, c4, rfl⟩ := row_slice o4
      rw [LBk.out k] at o4 ⊢
      have x0 := cell_below b4 (p := ⟨w.heap.size, 0, none⟩) kb.lt x0
      have x1 := cell_below b4 (p := ⟨w.heap.size, 1, none⟩) kb.lt x1
      have s4 := b4.size
      clear LVk
      go_wp2_with (first | (at_make; refine wpList_make_full _ rfl _ _ 45 rfl w4.heap.size 3 intRow _ 1 Tryd.underlying45 int_row.1 int_row.2.1 int_row.2.2.1 _ _ _ _ N rfl rfl rfl rfl (by rw [int_row.2.2.2]; omega) (by unfold maxLen; omega) (Nat.le_refl _) ?_; intro w5 hown hg))
      have hbw := (Below.refl w4.heap.size w4).grown hg (Nat.le_refl _) (by simp)
      have hblk := (Blk.of_own hown).1
      rw [C0.out k] at hblk
      have RW4 := Lib.hid (Rd.of_own o4)
      have XX0 := Lib.hid (fun W (Bx : Below w4.heap.size w4 W) => cell_below Bx (p := ⟨w.heap.size, 0, none⟩) (Nat.lt_of_lt_of_le kb.lt s4) x0)
      have XX1 := Lib.hid (fun W (Bx : Below w4.heap.size w4 W) => cell_below Bx (p := ⟨w.heap.size, 1, none⟩) (Nat.lt_of_lt_of_le kb.lt s4) x1)
      have HB4 := Lib.hid (hb.trans (b4.mono hb.size))
      have HO4 := Lib.hid (fun W (Bx : Below w4.heap.size w4 W) => own_below (own_below ho.out b4) Bx)
      obtain ⟨g, eg⟩ : ∃ g, g = w4.heap.size := ⟨_, rfl⟩
      have x0 := XX0.out _ hbw
      have x1 := XX1.out _ hbw
      have lk := kb.lt
      clear hown hg b4 ho hb kb kr B
      simp only [← eg] at *
      have HBW := Lib.hid hbw
      clear hbw
      go_wp2_with fail
      obtain ⟨wo, ewo⟩ : ∃ wo : World, wo = wr := ⟨_, rfl⟩
      simp only [← ewo] at *
      clear ewo
      go_loopg [12] N (fun m i wr => ∃ j : Nat, j + m = N ∧ i = .int .i64 j ∧ Blk wr g 3 (ints (prm 0 N order (bitsN k N) j)) ∧ Below g w4 wr)
      case atStart => exact ⟨0, by omega, rfl, hblk, HBW.out⟩
      case round =>
        clear hblk HBW
        obtain ⟨j, hj, rfl, hK, hbx⟩ := hrel
        have x0 := XX0.out _ hbx
        have x1 := XX1.out _ hbx
        have Bw := (BX.out _ HB4.out).1
        have Bww := Bw.trans (hbx.mono (by have := Bw.size; omega))
        by_cases hjn : j < N
        · obtain ⟨ad, rfl, hbl, d0⟩ := (h3'.below Bww).int hjn
          obtain ⟨ad2, rfl, hbl2, d2⟩ := (RW4.out.below hbx).int (k := j) hjn
          have jn : (j : Int) < N := by omega
          have OIk := OI.out j hjn
          have PNk := Lib.hid (PN.out k j)
          have PLk := PL.out k j
          generalize ix order j = x at *
          generalize ix (bitsN k N) j = y at *
          obtain ⟨v, rfl⟩ : ∃ v : Nat, x = v := ⟨x.toNat, by omega⟩
          have hv : v < N := by omega
          have vn : (v : Int) < N := by omega
          have hk2 := Lib.hid (hK.set v (.int .i64 y))
          have zf := hK.frozen v
          have hvv : v < (ints (prm 0 N order (bitsN k N) j)).length := by rw [len_ints, PLk]; exact hv
          have z : wr.cell? ⟨g, v, none⟩ = some ((ints (prm 0 N order (bitsN k N) j))[v]) := by rw [hK.cell v, List.getElem?_eq_getElem hvv]
          have lg := hK.lt
          have e2 := Lib.hid (PNk.out v rfl)
          rw [e2.out] at hk2
          clear OIk PNk PLk
          go_wp2
          go_region
          all_goals
            go_wp2
            go_roundg (N - (j + 1))
            case measure => omega
            case rel => exact ⟨j + 1, by omega, by go_num, blk_of_heap hk2.out rfl, (hbx.setCell (p := ⟨g, v, none⟩) (Nat.le_refl _) _).drew⟩
        · obtain rfl : j = N := by omega
          have o := hK.own (base := g) (Nat.le_refl _) (n := j) (size := 1) (by unfold maxLen; omega) (by rw [len_ints, PL.out]; omega)
          have LVk := Lib.hid (LVV.out k wr Bww g j (own_lower o (Nat.zero_le _)))
          have HO6 := Lib.hid (HO4.out _ hbx)
          have hb6 := HB4.out.trans (hbx.mono (by simp only [World.size_alloc]; omega))
          clear o hK LVV RW4 OI PN PL C0
          go_wp2_with fail
          refine (LVk.out).mono ?_
          rintro e w6 ⟨rfl, b6⟩
          have HO7 := Lib.hid (own_below HO6.out b6)
          have hb7 := hb6.trans (b6.mono hb6.size)
          have s7 : w.heap.size + 2 ≤ w6.heap.size := by have := hb7.size; (try simp only [World.size_alloc] at this); omega
          go_wp2_with (first
            | (at_builtin; refine app_int_at rfl _ _ rfl (w.heap.size + 2) _ k _ _ _ rfl (HO7.out.alloc _) rfl (World.cell?_alloc_at _ _ _ _ (by simp)) (by omega) (by simp; omega) ?_; intro v' w8 ho8 hb8))
          have b8 := (hb7.alloc hb7.size _).trans (hb8.mono (by simp only [World.size_alloc]; omega))
          go_roundg (M - (k + 1))
          case measure => omega
          case rel => exact ⟨k + 1, by omega, by go_num, Lib.hid (by rw [TKk.out]; exact ho8), b8⟩
    · obtain rfl : k = M := by omega
      have kn : ¬ (k : Int) < k := by omega
      rw [TA.out] at ho
      obtain ⟨A0, c0, e0⟩ := row_slice ho.out
      subst e0
      have L8r := Lib.hid (L8.out A0 c0 wr ho.out)
      clear L8 LV TK LVV PL PN C0 TA OI
      go_wp2_with fail
      refine (L8r.out).mono ?_
      rintro e w7 hG
      clear L8r
      obtain ⟨m3, A3, n3, c3, x3, rfl, on7, kd7, on1⟩ := gives_de_one rfl hG
      have d7 : Below wr.heap.size wr w7 := on7.below (Nat.le_refl _) (fun x hx => by cases hx)
      rcases on1 with ⟨_, hr⟩ | ⟨_, ex, em, en, ho3, hy3⟩
      · exact absurd hr (by dsimp only; omega)
      dsimp only at ex em en ho3
      subst ex
      subst em
      subst en
      have b9 := hb.trans (d7.mono hb.size)
      clear hG kd7 on7 hy3
      obtain ⟨B9, kb9, kr9⟩ := BX.out _ b9
      have x0 := kb9.cell 0
      have x1 := kb9.cell 1
      have f0 := kr9.frozen 0
      have f1 := kr9.frozen 1
      have y0 := kr9.cell 0
      have y1 := kr9.cell 1
      simp only [List.getElem?_cons_zero, List.getElem?_cons_succ] at x0 x1 y0 y1
      have hz9 : w.heap.size + 1 < wr.heap.size := by omega
      have n9 : (Value.slice A3 rg.length c3).ownBlock ≠ some (w.heap.size + 1) := fun e => by have := (ho3.lt _ e).1; omega
      have O9 := Lib.hid ho3
      clear ho3
      go_wp2
      have K2 := (kr9.set 0 (.int .i64 m3)).set 1 (.slice A3 rg.length c3)
      have o8 := own_away (own_away O9.out (p := ⟨w.heap.size + 1, 0, none⟩) (.int .i64 m3) n9) (p := ⟨w.heap.size + 1, 1, none⟩) (.slice A3 rg.length c3) n9
      have b8 := (B9.setCell (p := ⟨w.heap.size + 1, 0, none⟩) (Nat.le_succ _) (.int .i64 m3)).setCell (p := ⟨w.heap.size + 1, 1, none⟩) (Nat.le_succ _) (.slice A3 rg.length c3)
      generalize (w7.setCell ⟨w.heap.size + 1, 0, none⟩ (.int .i64 m3)).setCell ⟨w.heap.size + 1, 1, none⟩ (.slice A3 rg.length c3) = w8 at K2 b8 o8 ⊢
      have r0 := K2.cell 0
      have r1 := K2.cell 1
      simp only [List.set_cons_zero, List.set_cons_succ, List.getElem?_cons_zero, List.getElem?_cons_succ] at r0 r1
      exact bodyPost_ret (v := .tuple #[.agg #[.int .i64 m3, .slice A3 rg.length c3], .int .i64 x3]) (by simp [results, Tryd.results49, go_sem, r0, r1]) rfl ⟨A3, c3, rfl, own_lower o8 (by omega), b8⟩

set_option maxHeartbeats 8000000 in
theorem reo_spec (d : Dg) (n : Int) (order : List Int) (A Ao : Option Addr) (n1 c no co : Nat) (w : World) (h1 : Mem.rd w w.heap.size [.slice A n1 c] d.forks) (h3 : Mem.rd w w.heap.size [.slice Ao no co] order) :
    Calls Tryd.prog 19 #[.agg #[.int .i64 d.vars, .slice A n1 c], .int .i64 n, .slice Ao no co] w (GivesDgN w (reoB d n order).1 (reoB d n order).2) := by
  obtain rfl : d.forks.length = n1 := rd_len h1
  have CK := Lib.hid (fun W (B : Below w.heap.size w W) => dgValid_spec d A d.forks.length c W (Mem.rd_on h1 B))
  have OV := Lib.hid (fun W (B : Below w.heap.size w W) => orderValid_spec order d.vars Ao no co W (Mem.rd_on h3 B))
  have BX := Lib.hid (two_boxes w #[.int .i64 d.vars, .slice A d.forks.length c] #[.int .i64 0, .slice none 0 0] 35 35)
  have B0 : Below w.heap.size w ((w.alloc (.cells #[.int .i64 d.vars, .slice A d.forks.length c] 35)).alloc (.cells #[.int .i64 0, .slice none 0 0] 35)) := (below_alloc w _).alloc (by simp) _
  cases k1 : dgB d
  · rw [k1] at CK
    rw [reoB_no (d := d) (n := n) (order := order) (by rw [k1]; rfl)]
    obtain ⟨v, fs⟩ := d
    dsimp only at *
    clear k1 h1 h3 OV
    go_enter Tryd.func19, Tryd.ntmps19
    go_wp2_with fail
    refine (CK.out _ B0).mono ?_
    rintro e w1 ⟨rfl, b1⟩
    obtain ⟨B1, kb1, kr1⟩ := BX.out _ b1
    have x0 := kb1.cell 0
    have x1 := kb1.cell 1
    have f0 := kr1.frozen 0
    have f1 := kr1.frozen 1
    have y0 := kr1.cell 0
    have y1 := kr1.cell 1
    simp only [List.getElem?_cons_zero, List.getElem?_cons_succ] at x0 x1 y0 y1
    go_wp2
    have K2 := (kr1.set 0 (.int .i64 0)).set 1 (.slice none 0 0)
    have b8 := (B1.setCell (p := ⟨w.heap.size + 1, 0, none⟩) (Nat.le_succ _) (.int .i64 0)).setCell (p := ⟨w.heap.size + 1, 1, none⟩) (Nat.le_succ _) (.slice none 0 0)
    generalize (w1.setCell ⟨w.heap.size + 1, 0, none⟩ (.int .i64 0)).setCell ⟨w.heap.size + 1, 1, none⟩ (.slice none 0 0) = w8 at K2 b8 ⊢
    have r0 := K2.cell 0
    have r1 := K2.cell 1
    simp only [List.set_cons_zero, List.set_cons_succ, List.getElem?_cons_zero, List.getElem?_cons_succ] at r0 r1
    exact bodyPost_ret (v := .tuple #[.agg #[.int .i64 0, .slice none 0 0], .int .i64 (-1)]) (by simp [results, Tryd.results19, go_sem, r0, r1]) rfl (gives_dg_nil b8)
  · have ok := dgB_iff.1 k1
    have few := ok.few
    have lo := ok.lo
    have hi := ok.hi
    rw [k1] at CK
    have L1 := Lib.hid (fun W => l8Place_any d A c n W (by omega))
    cases q1 : isP d n
    · rw [q1] at L1
      rw [reoB_no (d := d) (n := n) (order := order) (by rw [q1]; simp)]
      obtain ⟨v, fs⟩ := d
      dsimp only at *
      clear k1 q1 h1 h3 OV ok few lo hi
      go_enter Tryd.func19, Tryd.ntmps19
      go_wp2_with fail
      refine (CK.out _ B0).mono ?_
      rintro e w1 ⟨rfl, b1⟩
      obtain ⟨B1, kb1, kr1⟩ := BX.out _ b1
      have x0 := kb1.cell 0
      have x1 := kb1.cell 1
      have f0 := kr1.frozen 0
      have f1 := kr1.frozen 1
      have y0 := kr1.cell 0
      have y1 := kr1.cell 1
      simp only [List.getElem?_cons_zero, List.getElem?_cons_succ] at x0 x1 y0 y1
      go_wp2_with fail
      refine (L1.out _).mono ?_
      rintro e w2 ⟨rfl, c2⟩
      have b2 := b1.trans (c2.mono b1.size)
      obtain ⟨B2, kb2, kr2⟩ := BX.out _ b2
      have x0 := kb2.cell 0
      have x1 := kb2.cell 1
      have f0 := kr2.frozen 0
      have f1 := kr2.frozen 1
      have y0 := kr2.cell 0
      have y1 := kr2.cell 1
      simp only [List.getElem?_cons_zero, List.getElem?_cons_succ] at x0 x1 y0 y1
      go_wp2
      have K2 := (kr2.set 0 (.int .i64 0)).set 1 (.slice none 0 0)
      have b8 := (B2.setCell (p := ⟨w.heap.size + 1, 0, none⟩) (Nat.le_succ _) (.int .i64 0)).setCell (p := ⟨w.heap.size + 1, 1, none⟩) (Nat.le_succ _) (.slice none 0 0)
      generalize (w2.setCell ⟨w.heap.size + 1, 0, none⟩ (.int .i64 0)).setCell ⟨w.heap.size + 1, 1, none⟩ (.slice none 0 0) = w8 at K2 b8 ⊢
      have r0 := K2.cell 0
      have r1 := K2.cell 1
      simp only [List.set_cons_zero, List.set_cons_succ, List.getElem?_cons_zero, List.getElem?_cons_succ] at r0 r1
      exact bodyPost_ret (v := .tuple #[.agg #[.int .i64 0, .slice none 0 0], .int .i64 (-1)]) (by simp [results, Tryd.results19, go_sem, r0, r1]) rfl (gives_dg_nil b8)
    · rw [q1] at L1
      cases k2 : ordB order d.vars
      · rw [k2] at OV
        rw [reoB_no (d := d) (n := n) (order := order) (by rw [k2]; simp)]
        obtain ⟨v, fs⟩ := d
        dsimp only at *
        clear k1 q1 k2 h1 h3 ok few lo hi
        go_enter Tryd.func19, Tryd.ntmps19
        go_wp2_with fail
        refine (CK.out _ B0).mono ?_
        rintro e w1 ⟨rfl, b1⟩
        obtain ⟨B1, kb1, kr1⟩ := BX.out _ b1
        have x0 := kb1.cell 0
        have x1 := kb1.cell 1
        have f0 := kr1.frozen 0
        have f1 := kr1.frozen 1
        have y0 := kr1.cell 0
        have y1 := kr1.cell 1
        simp only [List.getElem?_cons_zero, List.getElem?_cons_succ] at x0 x1 y0 y1
        go_wp2_with fail
        refine (L1.out _).mono ?_
        rintro e w2 ⟨rfl, c2⟩
        have b2 := b1.trans (c2.mono b1.size)
        obtain ⟨B2, kb2, kr2⟩ := BX.out _ b2
        have x0 := kb2.cell 0
        have x1 := kb2.cell 1
        have f0 := kr2.frozen 0
        have f1 := kr2.frozen 1
        have y0 := kr2.cell 0
        have y1 := kr2.cell 1
        simp only [List.getElem?_cons_zero, List.getElem?_cons_succ] at x0 x1 y0 y1
        go_wp2_with fail
        refine (OV.out _ B2).mono ?_
        rintro e w3 ⟨rfl, c3⟩
        have b3 := b2.trans (c3.mono b2.size)
        obtain ⟨B3, kb3, kr3⟩ := BX.out _ b3
        have x0 := kb3.cell 0
        have x1 := kb3.cell 1
        have f0 := kr3.frozen 0
        have f1 := kr3.frozen 1
        have y0 := kr3.cell 0
        have y1 := kr3.cell 1
        simp only [List.getElem?_cons_zero, List.getElem?_cons_succ] at x0 x1 y0 y1
        go_wp2
        have K2 := (kr3.set 0 (.int .i64 0)).set 1 (.slice none 0 0)
        have b8 := (B3.setCell (p := ⟨w.heap.size + 1, 0, none⟩) (Nat.le_succ _) (.int .i64 0)).setCell (p := ⟨w.heap.size + 1, 1, none⟩) (Nat.le_succ _) (.slice none 0 0)
        generalize (w3.setCell ⟨w.heap.size + 1, 0, none⟩ (.int .i64 0)).setCell ⟨w.heap.size + 1, 1, none⟩ (.slice none 0 0) = w8 at K2 b8 ⊢
        have r0 := K2.cell 0
        have r1 := K2.cell 1
        simp only [List.set_cons_zero, List.set_cons_succ, List.getElem?_cons_zero, List.getElem?_cons_succ] at r0 r1
        exact bodyPost_ret (v := .tuple #[.agg #[.int .i64 0, .slice none 0 0], .int .i64 (-1)]) (by simp [results, Tryd.results19, go_sem, r0, r1]) rfl (gives_dg_nil b8)
      · rw [k2] at OV
        obtain ⟨N, hN⟩ : ∃ N : Nat, d.vars = N := ⟨d.vars.toNat, by omega⟩
        have N12 : N ≤ 12 := by omega
        rw [reoB_yes (by rw [k1, q1, k2]; rfl) hN]
        have ol := (ordB_iff.1 k2).1
        have lno := rd_len h3
        have eno : no = N := by omega
        subst eno
        have MV := Lib.hid (fun W (B : Below w.heap.size w W) => l9Moved_any d ok n q1 order k2 no hN A Ao c co W (Mem.rd_on h1 B) (Mem.rd_on h3 B))
        have HW := Lib.hid (roF_top no N12 (Trd d n order)).1.few
        have hre := (roF_top no N12 (Trd d n order)).2
        obtain ⟨R, eR⟩ : ∃ R, R = roF no ⟨no, []⟩ 0 (rowsT no (Trd d n order)) := ⟨_, rfl⟩
        rw [← eR] at MV HW hre ⊢
        rw [hN] at BX B0 CK L1 OV MV ⊢
        clear k1 k2 q1 h1 h3 ok few lo hi hN N12 ol lno eR
        obtain ⟨⟨rm, rg⟩, re⟩ := R
        dsimp only at *
        go_enter Tryd.func19, Tryd.ntmps19
        go_wp2_with fail
        refine (CK.out _ B0).mono ?_
        rintro e w1 ⟨rfl, b1⟩
        obtain ⟨B1, kb1, kr1⟩ := BX.out _ b1
        have x0 := kb1.cell 0
        have x1 := kb1.cell 1
        have f0 := kr1.frozen 0
        have f1 := kr1.frozen 1
        have y0 := kr1.cell 0
        have y1 := kr1.cell 1
        simp only [List.getElem?_cons_zero, List.getElem?_cons_succ] at x0 x1 y0 y1
        go_wp2_with fail
        refine (L1.out _).mono ?_
        rintro e w2 ⟨rfl, c2⟩
        have b2 := b1.trans (c2.mono b1.size)
        obtain ⟨B2, kb2, kr2⟩ := BX.out _ b2
        have x0 := kb2.cell 0
        have x1 := kb2.cell 1
        have f0 := kr2.frozen 0
        have f1 := kr2.frozen 1
        have y0 := kr2.cell 0
        have y1 := kr2.cell 1
        simp only [List.getElem?_cons_zero, List.getElem?_cons_succ] at x0 x1 y0 y1
        go_wp2_with fail
        refine (OV.out _ B2).mono ?_
        rintro e w3 ⟨rfl, c3⟩
        have b3 := b2.trans (c3.mono b2.size)
        obtain ⟨B3, kb3, kr3⟩ := BX.out _ b3
        have x0 := kb3.cell 0
        have x1 := kb3.cell 1
        have f0 := kr3.frozen 0
        have f1 := kr3.frozen 1
        have y0 := kr3.cell 0
        have y1 := kr3.cell 1
        simp only [List.getElem?_cons_zero, List.getElem?_cons_succ] at x0 x1 y0 y1
        go_wp2_with fail
        refine (MV.out _ B3).mono ?_
        rintro e w4 ⟨A7, c7, rfl, o9', d9⟩
        dsimp only at o9' ⊢
        have O4 := Lib.hid o9'
        have b4 := b3.trans (d9.mono b3.size)
        have hz3 := kr3.lt
        clear o9' d9
        obtain ⟨B4, kb4, kr4⟩ := BX.out _ b4
        have x0 := kb4.cell 0
        have x1 := kb4.cell 1
        have f0 := kr4.frozen 0
        have f1 := kr4.frozen 1
        have y0 := kr4.cell 0
        have y1 := kr4.cell 1
        simp only [List.getElem?_cons_zero, List.getElem?_cons_succ] at x0 x1 y0 y1
        go_wp2_with fail
        refine (l8Told_yes rm A7 rg.length c7 re _ (by omega)).mono ?_
        rintro e w9 ⟨rfl, d9'⟩
        have d9 : Below w4.heap.size w4 w9 := (below_alloc w4 _).trans (d9'.mono (by simp))
        have b9 := b4.trans (d9.mono b4.size)
        obtain ⟨B9, kb9, kr9⟩ := BX.out _ b9
        have x0 := kb9.cell 0
        have x1 := kb9.cell 1
        have f0 := kr9.frozen 0
        have f1 := kr9.frozen 1
        have y0 := kr9.cell 0
        have y1 := kr9.cell 1
        simp only [List.getElem?_cons_zero, List.getElem?_cons_succ] at x0 x1 y0 y1
        have o9 := own_below O4.out d9
        have n9 : (Value.slice A7 rg.length c7).ownBlock ≠ some (w.heap.size + 1) := fun e => by have := (o9.lt _ e).1; omega
        go_wp2
        have K2 := (kr9.set 0 (.int .i64 rm)).set 1 (.slice A7 rg.length c7)
        have o8 := own_away (own_away o9 (p := ⟨w.heap.size + 1, 0, none⟩) (.int .i64 rm) n9) (p := ⟨w.heap.size + 1, 1, none⟩) (.slice A7 rg.length c7) n9
        have b8 := (B9.setCell (p := ⟨w.heap.size + 1, 0, none⟩) (Nat.le_succ _) (.int .i64 rm)).setCell (p := ⟨w.heap.size + 1, 1, none⟩) (Nat.le_succ _) (.slice A7 rg.length c7)
        generalize (w9.setCell ⟨w.heap.size + 1, 0, none⟩ (.int .i64 rm)).setCell ⟨w.heap.size + 1, 1, none⟩ (.slice A7 rg.length c7) = w8 at K2 b8 o8 ⊢
        have r0 := K2.cell 0
        have r1 := K2.cell 1
        simp only [List.set_cons_zero, List.set_cons_succ, List.getElem?_cons_zero, List.getElem?_cons_succ] at r0 r1
        obtain ⟨fp, q1, q2, q3⟩ := own_flat (α := Fk) o8 rfl (by unfold maxLen; have := HW.out; omega)
        exact bodyPost_ret (v := .tuple #[.agg #[.int .i64 rm, .slice A7 rg.length c7], .int .i64 re]) (by simp [results, Tryd.results19, go_sem, r0, r1]) rfl (by exact ⟨A7, _, c7, fp, rfl, q1, q2, fun y hy => by have := q3 y hy; omega, b8⟩)

theorem reo_specR (d : Dg) (n : Int) (order : List Int) (A : Option Addr) (n1 c : Nat) (Ao : Option Addr) (no co : Nat) (w : World) (h1 : Mem.rd w w.heap.size [.slice A n1 c] d.forks) (h3 : Mem.rd w w.heap.size [.slice Ao no co] order) :
    Calls Tryd.prog 19 #[.agg #[.int .i64 d.vars, .slice A n1 c], .int .i64 n, .slice Ao no co] w (GivesDgN w (reo1 d n order) (reo2 d n order)) := reo_spec d n order A Ao n1 c no co w h1 h3
end Go.Proofs.YtnhjcokmajejcaaDoor
