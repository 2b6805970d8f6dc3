/- The model's use of a rule in a state. -/
import Derived.Test.YtpaagplopefklaaPt
import Derived.Test.YtpaagplopefklaaIl
import Derived.Deep.RegionHeld3
namespace Go.Proofs.Ytpaagplopefklaa
open Go.RowKit

theorem set_far {w : World} {g o : Nat} {u v : Value} {p : Addr} (h : p.block ≠ g) (c : w.cell? p = some v) : (w.setCell ⟨g, o, none⟩ u).cell? p = some v :=
  (World.cell?_of_block (setCell_heap w ⟨g, o, none⟩ u h)).trans c
theorem ix_el {l : List Int} {k : Nat} : ix l k = el l k := rfl
theorem row_form {w : World} {base size n : Nat} {e : TypeId} {v : Value} {xs : List Value} (h : w.ownsRow base e size v n xs) (hn : 0 < n) : ∃ g cap, v = .slice (some ⟨g, 0, none⟩) n cap := by
  rcases h.2 with ⟨rfl, h0⟩ | ⟨g, cap, _, rfl, _⟩
  · omega
  · exact ⟨g, cap, rfl⟩
theorem rule_box {w : World} {v1 v2 u1 u2 u3 : Value} : ∀ W, Below ((w.alloc (.cells #[v1, v2] 31)).alloc (.cells #[u1, u2, u3] 70)).heap.size ((w.alloc (.cells #[v1, v2] 31)).alloc (.cells #[u1, u2, u3] 70)) W →
    Below w.heap.size w W ∧ W.cell? ⟨w.heap.size, 0, none⟩ = some v1 ∧ W.cell? ⟨w.heap.size, 1, none⟩ = some v2 ∧ W.cell? ⟨w.heap.size + 1, 0, none⟩ = some u1 ∧ W.cell? ⟨w.heap.size + 1, 1, none⟩ = some u2 ∧ W.cell? ⟨w.heap.size + 1, 2, none⟩ = some u3 ∧ w.heap.size + 2 ≤ W.heap.size := fun W hW => by
  have k1 := sy_box (v1 := v1) (v2 := v2) W (below_call hW)
  have k2 := Blk.new (w.alloc (.cells #[v1, v2] 31)) #[u1, u2, u3] 70
  have k3 := k2.below hW (by simp)
  have hs := hW.size
  rw [World.size_alloc] at k3
  simp at hs
  exact ⟨k1.1, k1.2.1, k1.2.2, k3.cell 0, k3.cell 1, k3.cell 2, by omega⟩

theorem made_succ (R : Rl) (st : List Int) {k v : Nat} (h : ix R.sets k = v) : madeTo R st (k + 1) = (madeTo R st k).set v (valB (el R.terms k) st) := by
  show (madeTo R st k).set (ix R.sets k).toNat _ = _
  rw [h]; rfl
theorem ints_set (l : List Int) (v : Nat) (x : Int) : (ints l).set v (.int .i64 x) = ints (l.set v x) := by unfold ints; rw [List.map_set]

set_option maxRecDepth 100000 in
set_option maxHeartbeats 4000000 in
theorem l2Use_any (s : Sy) (st : List Int) (r : Nat) (A1 : Option Addr) (n1 c1 : Nat) (A2 : Option Addr) (n2 c2 : Nat) (A3 : Option Addr) (n3 c3 : Nat) (w : World) (h1 : Mem.rd w w.heap.size [.slice A1 n1 c1] s.vars) (h2 : Mem.rd w w.heap.size [.slice A2 n2 c2] s.rules) (h3 : Mem.rd w w.heap.size [.slice A3 n3 c3] st)
    (hs : SysOk s) (hin : hasB s.vars st = true) (hr : r < s.rules.length) :
    Calls Try.prog 57 #[.agg #[.slice A1 n1 c1, .slice A2 n2 c2], .slice A3 n3 c3, .int .i64 r] w (GivesInts w (useL s st r)) := by
  have RO := hs.rules r hr
  have nums := sys_nums hs hin
  have hl := has_len hin
  have hlo := hs.lo
  have hhi := hs.hi
  have hmo := hs.most
  have L2 := rd_len h2
  have L3 := rd_len h3
  rw [← hl] at RO
  have hr2 : r < n2 := by omega
  have hn2 : n2 ≤ 8 := by omega
  have hn3 : 1 ≤ n3 ∧ n3 ≤ 5 := by omega
  obtain ⟨ad, A4, n4, c4, A5, n5, c5, A6, n6, c6, rfl, hbl, d0, d1, d2, r1, r2, r3⟩ := rl_at h2 hr2
  have E : Hid (useL s st r = useR (el s.rules r) s.vars st) := Lib.hid rfl
  generalize el s.rules r = R at RO r1 r2 r3 E
  have L4 := rd_len r1
  have L5 := rd_len r2
  have L6 := rd_len r3
  have m5 := rd_max r2
  unfold maxLen at m5
  obtain ⟨ks, hks⟩ := RO.cond.ks
  have c_lo := RO.cond.lo
  have c_hi := RO.cond.hi
  rw [L4] at hks c_lo c_hi
  have CV := Lib.hid (fun W (b : Below w.heap.size w W) => l2Last_any A4 n4 c4 A3 n3 c3 R.cond st ks W (rd_tms.1 (Mem.rd_on r1 b)).2 (rd_ints.1 (Mem.rd_on h3 b)).2 c_hi c_lo nums hks)
  have BX := Lib.hid (rule_box (w := w) (v1 := .slice A1 n1 c1) (v2 := .slice (some ad) n2 c2) (u1 := .slice A4 n4 c4) (u2 := .slice A5 n5 c5) (u3 := .slice A6 n6 c6))
  have hblk : (ad.add (r * 3)).block < w.heap.size := by rw [add_block]; exact hbl
  have hD := fun o => cell_below (below_alloc w o) hblk d0
  have hD1 := fun o => cell_below (p := ⟨(ad.add (r * 3)).block, (ad.add (r * 3)).off + 1, none⟩) (below_alloc w o) hblk d1
  have hD2 := fun o => cell_below (p := ⟨(ad.add (r * 3)).block, (ad.add (r * 3)).off + 2, none⟩) (below_alloc w o) hblk d2
  clear hks c_lo c_hi
  by_cases z : valB R.cond st = 0
  · have E2 : Hid (useL s st r = []) := Lib.hid (by rw [E.out]; exact use_zero z)
    rw [E2.out]
    rw [z] at CV
    clear E E2 RO
    go_enter Try.func57, Try.ntmps57
    go_wp2_with fail
    refine (CV.out _ ((below_alloc _ _).trans ((below_alloc _ _).mono (by simp)))).mono ?_
    rintro e w2 ⟨rfl, b2⟩
    obtain ⟨B2, _⟩ := BX.out _ b2
    go_wp2
    go_ret
    exact ⟨_, rfl, World.ownsRow_nil _ _ _ _, B2⟩
  · have hz : (valB R.cond st == 0) = false := by simp [z]
    have HN := Lib.hid h3
    have h3' := (rd_ints.1 h3).2
    have HT := Lib.hid (fun k (hk : k < n5) => RO.terms k (by omega))
    have HS := Lib.hid (fun k (hk : k < n5) => RO.sets k (by omega))
    go_enter Try.func57, Try.ntmps57
    go_wp2_with fail
    refine (CV.out _ ((below_alloc _ _).trans ((below_alloc _ _).mono (by simp)))).mono ?_
    rintro e w2 ⟨rfl, b2⟩
    have hsz := (BX.out _ b2).2.2.2.2.2.2
    have hown0 := World.ownsRow_lit (base := w.heap.size + 2) (e := 3) (size := 1) w2 #[] 0 hsz (by unfold maxLen; omega) rfl
    go_wp2
    go_loopg [8, 9] n3 (fun m v i wr => ∃ k : Nat, k + m = n3 ∧ i = .int .i64 k ∧ wr.ownsRow (w.heap.size + 2) 3 1 v k (ints (st.take k)) ∧ Below ((w.alloc (.cells #[.slice A1 n1 c1, .slice (some ad) n2 c2] 31)).alloc (.cells #[.slice A4 n4 c4, .slice A5 n5 c5, .slice A6 n6 c6] 70)).heap.size ((w.alloc (.cells #[.slice A1 n1 c1, .slice (some ad) n2 c2] 31)).alloc (.cells #[.slice A4 n4 c4, .slice A5 n5 c5, .slice A6 n6 c6] 70)) wr)
    case atStart => exact ⟨0, by omega, rfl, hown0, b2.trans ((below_alloc _ _).mono b2.size)⟩
    case round =>
      clear hown0
      obtain ⟨k, hk, rfl, ho, hb⟩ := hrel
      obtain ⟨B, x0, x1, x2, x3, x4, lx⟩ := BX.out _ hb
      by_cases hlt : k < n3
      · obtain ⟨ad3, rfl, hbl3, d3⟩ := (h3'.below B).int hlt
        have HO := Lib.hid ho
        go_wp2_with (first
          | (at_builtin; refine app_int_at rfl _ _ rfl (w.heap.size + 2) _ k _ _ _ rfl (HO.out.alloc _) rfl (World.cell?_alloc_at _ _ _ _ (by simp)) (by omega) (by simp; omega) ?_; intro v' w4 ho4 hb4))
        go_roundg (n3 - (k + 1))
        case measure => omega
        case rel => exact ⟨k + 1, by omega, by go_num, by rw [take_el (by omega), ← ix_el]; exact ho4, (hb.alloc hb.size _).trans (hb4.mono (by simp))⟩
      · obtain rfl : k = n3 := by omega
        go_wp2
        rw [List.take_of_length_le (by omega)] at ho
        obtain ⟨g, cap, rfl⟩ := row_form ho (by omega)
        have hg := ho.lt g rfl
        obtain ⟨wo, rfl⟩ : ∃ wo : World, wo = wr := ⟨_, rfl⟩
        go_loopg [10] n5 (fun m i wr => ∃ k' : Nat, k' + m = n5 ∧ i = .int .i64 k' ∧ wr.ownsRow (w.heap.size + 2) 3 1 (.slice (some ⟨g, 0, none⟩) k cap) k (ints (madeTo R st k')) ∧ Below ((w.alloc (.cells #[.slice A1 n1 c1, .slice (some ad) n2 c2] 31)).alloc (.cells #[.slice A4 n4 c4, .slice A5 n5 c5, .slice A6 n6 c6] 70)).heap.size ((w.alloc (.cells #[.slice A1 n1 c1, .slice (some ad) n2 c2] 31)).alloc (.cells #[.slice A4 n4 c4, .slice A5 n5 c5, .slice A6 n6 c6] 70)) wr)
        case atStart => exact ⟨0, by omega, rfl, ho, hb⟩
        case round =>
          clear ho hb B x0 x1 x2 x3 x4 lx hg hk
          obtain ⟨k', hk', rfl, ho, hb⟩ := hrel
          obtain ⟨B, x0, x1, x2, x3, x4, lx⟩ := BX.out _ hb
          by_cases hlt' : k' < n5
          · obtain ⟨ad5, rfl, hbl5, d5⟩ := ((rd_ints.1 (Mem.rd_below r2 B)).2).int hlt'
            have hlt6 : k' < n6 := by have := RO.lens; omega
            obtain ⟨ad6, A7, n7, c7, rfl, hbl6, d6, r7⟩ := ll_at (Mem.rd_below r3 B) hlt6
            obtain ⟨v, hv⟩ : ∃ v : Nat, ix R.sets k' = v := ⟨(ix R.sets k').toNat, by have := HS.out k' hlt'; omega⟩
            have hv3 : v < k := by have := HS.out k' hlt'; omega
            rw [hv] at d5
            obtain ⟨ks2, hks2⟩ := (HT.out k' hlt').ks
            have t_lo := (HT.out k' hlt').lo
            have t_hi := (HT.out k' hlt').hi
            have L7 := rd_len r7
            rw [L7] at hks2 t_lo t_hi
            have CV2 := Lib.hid (l2Last_any A7 n7 c7 A3 k c3 (el R.terms k') st ks2 wr.drew (rd_tms.1 (Mem.rd_drew (Mem.rd_more r7 B.size))).2 (rd_ints.1 (Mem.rd_drew (Mem.rd_on HN.out B))).2 t_hi t_lo nums hks2)
            have hblA : (ad5.add k').block < wr.heap.size := by rw [add_block]; exact Nat.lt_of_lt_of_le hbl5 B.size
            have hblB : (ad6.add k').block < wr.heap.size := by rw [add_block]; exact Nat.lt_of_lt_of_le hbl6 B.size
            have hg2 := (ho.lt g rfl).1
            have hfA : (ad5.add k').block ≠ g := by rw [add_block]; omega
            have hfB : (ad6.add k').block ≠ g := by rw [add_block]; omega
            have HO := Lib.hid ho
            have MS := Lib.hid (made_succ R st hv)
            have hlm := len_made R st k'
            clear hks2 t_lo t_hi hv ho
            go_wp2
            go_region_held3 (fun w' => w'.cell? ⟨w.heap.size + 1, 1, none⟩ = some (.slice (some ad5) n5 c5) ∧ w'.cell? ⟨w.heap.size + 1, 2, none⟩ = some (.slice (some ad6) n6 c6) ∧ w'.cell? (ad5.add k') = some (.int .i64 v) ∧ w'.cell? (ad6.add k') = some (.slice A7 n7 c7)) (first | go_keep | exact ⟨set_far (by show w.heap.size + 1 ≠ g; omega) y3, set_far (by show w.heap.size + 1 ≠ g; omega) y4, set_far hfA y5, set_far hfB y6⟩)
              ((go_at_call 84; refine (CV2.out).mono ?_; rintro e w3 ⟨rfl, b3⟩
                have y3 := cell_below b3 (p := ⟨w.heap.size + 1, 1, none⟩) (by show w.heap.size + 1 < wr.heap.size; omega) x3
                have y4 := cell_below b3 (p := ⟨w.heap.size + 1, 2, none⟩) (by show w.heap.size + 1 < wr.heap.size; omega) x4
                have y5 := cell_below b3 (p := ad5.add k') hblA d5
                have y6 := cell_below b3 (p := ad6.add k') hblB d6
                have b3' : Below wr.heap.size wr w3 := ⟨b3.os, b3.tape, b3.output, b3.size, b3.block⟩
                have H3 := Lib.hid (own_below HO.out b3')
                have f0 := H3.out.frozenAt v
                have c0 : w3.cell? ⟨g, v, none⟩ = some (.int .i64 (ix (madeTo R st k') v)) := by
                  rw [H3.out.cellAt v (by omega)]
                  unfold ints
                  rw [List.getElem?_map, List.getElem?_eq_getElem (by omega), ix_lt (by omega)]; rfl))
            have H4 := Lib.hid (H3.out.stored v (.int .i64 (valB (el R.terms k') st)))
            go_wp2
            go_roundg (n5 - (k' + 1))
            case measure => omega
            case rel =>
              refine ⟨k' + 1, by omega, by go_num, ?_, (hb.trans (b3'.mono hb.size)).grown H4.out.2 (Nat.le_trans hb.size b3.size) (fun q hq => by have hq : some g = some q := hq; injection hq with hq; subst hq; simp only [World.size_alloc]; omega)⟩
              rw [MS.out, ← ints_set]
              exact H4.out.1
          · obtain rfl : k' = n5 := by omega
            have M : Hid (useL s st r = if hasB s.vars (madeTo R st k') then madeTo R st k' else []) := Lib.hid (by rw [E.out]; unfold useR; rw [if_neg z, L5])
            have hlm := len_made R st k'
            generalize madeTo R st k' = F at ho M hlm
            have hFk : F.length = k := by omega
            have CI := Lib.hid (l2In_any s F A1 n1 c1 (some ad) n2 c2 (some ⟨g, 0, none⟩) k cap wr (Mem.rd_on h1 B) (rd_ints.2 ⟨by unfold maxLen; omega, Rd.of_own ho⟩))
            have HO := Lib.hid ho
            clear ho
            cases hz2 : hasB s.vars F
            · have E2 : Hid (useL s st r = []) := Lib.hid (by rw [M.out, hz2]; rfl)
              have HZ := Lib.hid hz2; clear hz2 M
              go_wp2_with fail
              refine CI.out.mono ?_
              rintro e w4 ⟨rfl, b4⟩
              rw [HZ.out]
              go_wp2
              go_ret
              rw [E2.out]
              exact ⟨.slice none 0 0, rfl, World.ownsRow_nil _ _ _ _, B.trans (b4.mono B.size)⟩
            · have E2 : Hid (useL s st r = F) := Lib.hid (by rw [M.out, hz2]; rfl)
              have HZ := Lib.hid hz2; clear hz2 M
              go_wp2_with fail
              refine CI.out.mono ?_
              rintro e w4 ⟨rfl, b4⟩
              rw [HZ.out]
              go_wp2
              go_ret
              rw [E2.out]
              refine ⟨.slice (some ⟨g, 0, none⟩) k cap, rfl, ?_, B.trans (b4.mono B.size)⟩
              rw [hFk]
              exact own_lower (own_below HO.out b4) (by omega)
end Go.Proofs.Ytpaagplopefklaa
