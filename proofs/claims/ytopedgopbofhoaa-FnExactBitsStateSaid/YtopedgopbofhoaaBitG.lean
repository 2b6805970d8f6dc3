/- The state that bits are: BitsState of the model. -/
import Derived.Test.YtopedgopbofhoaaBitT
import Derived.Deep.RegionLaw
namespace Go.Proofs.Ytopedgopbofhoaa
open Go.RowKit

theorem numN_congr {a b : List Int} {k : Nat} (h : ∀ i, i < k → ix a i = ix b i) : numN a k = numN b k := by
  induction k with
  | zero => rfl
  | succ k ih =>
    show numN a k * 2 + (ix a k).toNat = numN b k * 2 + (ix b k).toNat
    rw [ih fun i hi => h i (by omega), h k (by omega)]
/-- A part of a row of numbers. -/
theorem rd_part {w : World} {B n c : Nat} {ad : Addr} {l : List Int} (h : Mem.rd w B [.slice (some ad) n c] l) {p j c' : Nat} (hp : p + j ≤ n) : Mem.rd w B [.slice (some (ad.add p)) j c'] ((l.drop p).take j) := by
  have hl := rd_len h
  obtain ⟨hm, h'⟩ := rd_ints.1 h
  refine rd_ints.2 ⟨by unfold maxLen at hm ⊢; omega, ?_⟩
  have e : ints ((l.drop p).take j) = ((ints l).drop p).take j := by unfold ints; rw [List.map_take, List.map_drop]
  rw [e]
  have h1 := h'.1
  have hll := len_ints l
  refine ⟨by rw [List.length_take, List.length_drop]; omega, fun hj => ?_⟩
  obtain ⟨ad', e1, hb, hc⟩ := h'.2 (by omega)
  injection e1 with e1
  subst e1
  refine ⟨_, rfl, by rw [add_block]; exact hb, fun i u hu => ?_⟩
  have hi : i < j := by
    have := (List.getElem?_eq_some_iff.1 hu).1
    rw [List.length_take] at this
    omega
  rw [List.getElem?_take, if_pos hi, List.getElem?_drop] at hu
  have := hc (p + i) u hu
  rw [← this, add_add']
theorem numN_part {l : List Int} {p j : Nat} : numN ((l.drop p).take j) j = numN (l.drop p) j := by
  apply numN_congr
  intro i hi
  unfold ix
  rw [List.getElem?_take, if_pos hi]
theorem are_part {l : List Int} {n p j : Nat} (h : allTo (bitAt l) n = true) (hp : p + j ≤ n) : allTo (bitAt ((l.drop p).take j)) j = true := by
  rw [allTo_true]
  intro i hi
  have := allTo_true.1 h (p + i) (by omega)
  unfold bitAt at this ⊢
  have e : ix ((l.drop p).take j) i = ix l (p + i) := by
    unfold ix
    rw [List.getElem?_take, if_pos hi, List.getElem?_drop]
  rw [e]; exact this
theorem Mem.own_cap {α : Type} [Mem α] {w : World} {fp : List Nat} {A : Option Addr} {n c : Nat} {l : List α} (h : Mem.own w fp [.slice A n c] l) : n ≤ c := by
  obtain ⟨A', n', c', e, _, _, h⟩ := h
  injection e with e _
  injection e with _ e2 e3
  subst e2; subst e3
  rcases h with ⟨h0, _⟩ | ⟨g, t, ecs, fps, rfl, ho, _⟩
  · omega
  · rcases ho.2 with ⟨e, _⟩ | ⟨g', cap, cur, e, _, _, h1, _⟩
    · injection e with e; injection e
    · injection e with _ _ e3
      omega
/-- A part of a row of numbers, by its text. -/
theorem run_part {A : Option Addr} {n c B : Nat} {l : List Int} {w : World} (h : Mem.rd w B [.slice A n c] l) (hc : n ≤ c) {p j : Nat} {q : Int} (hp : p + j ≤ n) (hq : q = ((p + j : Nat) : Int)) :
    ∃ A' c', (∀ W, (Instr.sliceAt 26 (.slice A n c) (some (.int .i64 (p : Int))) (some (.int .i64 q)) none).run Try.prog W = .ok (.slice A' j c') W) ∧ Mem.rd w B [.slice A' j c'] ((l.drop p).take j) := by
  subst hq
  have hu : Try.prog.underlying 26 = some (.slice (Try.prog.elem 26)) := by kernel_rfl
  have hs : ∀ W, (Go.sizeOf (Try.prog.elem 26)).run Try.prog W = .ok 1 W := fun W => by kernel_rfl
  have hr : ∀ W, (Instr.sliceAt 26 (.slice A n c) (some (.int .i64 (p : Int))) (some (.int .i64 ((p + j : Nat) : Int))) none).run Try.prog W = .ok (.slice (if c = p then A else A.map (·.add (p * 1))) j (c - p)) W := fun W => by
    rw [run_sliceAt_slice W _ _ _ _ _ hu, run_slice_lh W _ _ _ _ hu _ _ _ _ (by omega) (by omega) (by omega), hs W]
    simp [Result.andThen, sliced]
    omega
  refine ⟨_, _, hr, ?_⟩
  by_cases hj : j = 0
  · subst hj
    rw [List.take_zero]
    exact ⟨_, _, _, rfl, by unfold maxLen; omega, rfl, fun k hk => absurd hk (by omega)⟩
  · obtain ⟨hm, h'⟩ := rd_ints.1 h
    obtain ⟨ad, rfl, _, _⟩ := h'.2 (by omega)
    rw [if_neg (by omega), Nat.mul_one]
    exact rd_part h hp
theorem ne_nat {x y : Nat} (h : x = y) : ((x : Int) != (y : Int)) = false := by subst h; simp
theorem ne_nat' {x y : Nat} (h : x ≠ y) : ((x : Int) != (y : Int)) = true := by simp; omega

set_option maxRecDepth 100000 in
set_option maxHeartbeats 4000000 in
theorem bitsState_spec (s : Sy) (L : List Int) (A1 : Option Addr) (n1 c1 : Nat) (A2 : Option Addr) (n2 c2 : Nat) (A3 : Option Addr) (n3 c3 : Nat) (w : World) (h1 : Mem.rd w w.heap.size [.slice A1 n1 c1] s.vars) (h2 : Mem.rd w w.heap.size [.slice A2 n2 c2] s.rules) (h3 : Mem.rd w w.heap.size [.slice A3 n3 c3] L) (hc : n3 ≤ c3) :
    Calls Try.prog 6 #[.agg #[.slice A1 n1 c1, .slice A2 n2 c2], .slice A3 n3 c3] w (GivesL w (bitsStateB s L)) := by
  have L3 := rd_len h3
  have L1 := rd_len h1
  have BX := Lib.hid (sy_box (w := w) (v1 := .slice A1 n1 c1) (v2 := .slice A2 n2 c2))
  have SV := Lib.hid (fun o => sysValid_spec s A1 n1 c1 A2 n2 c2 (w.alloc o) (Mem.rd_on_alloc h1 o) (Mem.rd_on_alloc h2 o))
  have AR := Lib.hid (fun W (B : Below w.heap.size w W) => l6Are_any A3 n3 c3 L W (Mem.rd_on h3 B))
  obtain ⟨F, hF⟩ : ∃ F, F = bitsStateB s L := ⟨_, rfl⟩
  rw [← hF]
  unfold bitsStateB at hF
  cases hz : sysB s
  · have E : Hid (F = []) := Lib.hid (by rw [hF, hz]; rfl)
    have HZ := Lib.hid hz; clear hz hF L1 L3
    go_enter Try.func6, Try.ntmps6
    go_wp2_with fail
    refine (SV.out _).mono ?_
    rintro e w2 ⟨rfl, b2⟩
    rw [HZ.out]
    go_wp2
    go_ret
    rw [E.out]
    exact ⟨none, 0, 0, [], rfl, own_none _, List.nodup_nil, by simp, below_call b2⟩
  · have ok := sysOk_of hz
    cases ha : areB L
    · have E : Hid (F = []) := Lib.hid (by rw [hF, hz, ha]; rfl)
      have HZ := Lib.hid hz; have HA := Lib.hid ha; clear hz ha hF L1 L3 ok
      go_enter Try.func6, Try.ntmps6
      go_wp2_with fail
      refine (SV.out _).mono ?_
      rintro e w2 ⟨rfl, b2⟩
      rw [HZ.out]
      obtain ⟨B2, x0, x1⟩ := BX.out _ b2
      go_wp2_with fail
      refine (AR.out _ B2).mono ?_
      rintro e w3 ⟨rfl, b3⟩
      rw [HA.out]
      go_wp2
      go_ret
      rw [E.out]
      exact ⟨none, 0, 0, [], rfl, own_none _, List.nodup_nil, by simp, B2.trans (b3.mono B2.size)⟩
    · have WC := Lib.hid (fun W (B : Below w.heap.size w W) => l6Widths_any s A1 n1 c1 A2 n2 c2 W (Mem.rd_on h1 B) ok)
      have h5 : n1 ≤ 5 := by have := ok.hi; omega
      have WL : Hid ((widL s.vars).length = n1) := Lib.hid (by rw [widL_len, L1])
      have SC := Lib.hid (fun W A c (h : Mem.rd W W.heap.size [.slice A n1 c] (widL s.vars)) => l6Sum_any A n1 c s.vars W h h5)
      have wl := wid_le ok (Nat.le_refl s.vars.length)
      by_cases hw : n3 = widTo s.vars s.vars.length
      · have hL : allTo (bitAt L) n3 = true := by
          unfold areB at ha
          rw [L3] at ha
          exact ha
        have RB := Lib.hid (fun j (hj : j ≤ n1) => (⟨by have := wid_mono s.vars (show j ≤ s.vars.length by omega); omega, wid_le ok (k := j) (by omega)⟩ : widTo s.vars j ≤ n3 ∧ widTo s.vars j ≤ 11))
        have VB := Lib.hid (fun j (hj : j < n1) => (⟨ok.vars j (by omega), widL_ix (l := s.vars) (k := j) (by omega), numN_drop_lt (l := L) (k := widTo s.vars j) (j := wdv (el s.vars j)) hL (by have := wid_mono s.vars (show j + 1 ≤ s.vars.length by omega); rw [hw]; exact this), are_part (l := L) (p := widTo s.vars j) (j := wdv (el s.vars j)) hL (by have := wid_mono s.vars (show j + 1 ≤ s.vars.length by omega); rw [hw]; exact this), unpL_take (l := s.vars) (B := L) (k := j) (by omega)⟩ :
          varB (el s.vars j) = true ∧ ix (widL s.vars) j = (wdv (el s.vars j) : Nat) ∧ numN (L.drop (widTo s.vars j)) (wdv (el s.vars j)) < 2 ^ wdv (el s.vars j) ∧ allTo (bitAt ((L.drop (widTo s.vars j)).take (wdv (el s.vars j)))) (wdv (el s.vars j)) = true ∧ (unpL s.vars L).take (j + 1) = (unpL s.vars L).take j ++ [unpAt s.vars L j]))
        have HC := Lib.hid (fun W A n c (B : Below w.heap.size w W) (h : Mem.rd W W.heap.size [.slice A n c] (unpL s.vars L)) => l2In_any s (unpL s.vars L) A1 n1 c1 A2 n2 c2 A n c W (Mem.rd_on h1 B) h)
        have E : Hid (F = if hasB s.vars (unpL s.vars L) then unpL s.vars L else []) := Lib.hid (by rw [hF, hz, ha, decide_eq_true (show L.length = widTo s.vars s.vars.length by omega)]; rfl)
        have UL : Hid ((unpL s.vars L).length = n1) := Lib.hid (by rw [unpL_len, L1])
        have NE := Lib.hid (ne_nat hw)
        have HZ := Lib.hid hz; have HA := Lib.hid ha
        have I0 := Lib.hid (fun W => IL.lit W 3 (base := w.heap.size + 1))
        have HC3 := Lib.hid hc
        clear hz ha hF hw hL ok wl L1 L3 hc
        generalize widTo s.vars s.vars.length = M at SC NE
        go_enter Try.func6, Try.ntmps6
        go_wp2_with fail
        refine (SV.out _).mono ?_
        rintro e w2 ⟨rfl, b2⟩
        rw [HZ.out]
        obtain ⟨B2, x0, x1⟩ := BX.out _ b2
        go_wp2_with fail
        refine (AR.out _ B2).mono ?_
        rintro e w3 ⟨rfl, b3⟩
        rw [HA.out]
        have b3 := b2.trans (b3.mono b2.size)
        obtain ⟨B3, y0, y1⟩ := BX.out _ b3
        clear x0 x1
        go_wp2_with fail
        refine (WC.out _ B3).mono ?_
        rintro e w4 ⟨v4, rfl, o4, b4⟩
        rw [WL.out] at o4
        obtain ⟨A6, c6, rfl, _, _⟩ := own_form o4
        obtain ⟨f6, om6, _, lo6⟩ := mem_ints (l := widL s.vars) (by rw [WL.out]; exact o4) (by rw [WL.out]; unfold maxLen; omega)
        rw [WL.out] at om6
        have hi6 := Mem.own_lt om6
        have b4 := b3.trans (b4.mono b3.size)
        obtain ⟨B4, z0, z1⟩ := BX.out _ b4
        have hs3 := b3.size
        simp only [World.size_alloc] at hs3
        clear y0 y1 o4
        go_wp2_with fail
        refine (SC.out _ _ _ (Mem.own_rd om6)).mono ?_
        rintro e w5 ⟨rfl, b5⟩
        have om5 := Mem.own_below om6 b5
        have b5' := b4.trans (b5.mono b4.size)
        obtain ⟨B5, u0, u1⟩ := BX.out _ b5'
        have ne := NE.out
        have hs5 := b5'.size
        simp only [World.size_alloc] at hs5
        have I5 := Lib.hid (I0.out w5 (by omega))
        have HB5 := Lib.hid (b5'.alloc b5'.size (.cells #[] 3))
        have HM5 := Lib.hid (Mem.own_below om5 (below_alloc w5 (.cells #[] 3)))
        have LD : Hid (∀ b ∈ f6, w.heap.size + 1 ≤ b ∧ b < w5.heap.size) := Lib.hid fun b hb => ⟨by have := lo6 b hb; omega, by have := hi6 b hb; have := b5.size; omega⟩
        clear om6 lo6 hi6 z0 z1 om5 b5 b5' b4 b3 b2
        go_wp2
        go_loopg [6, 7, 8] n1 (fun m v a i wr => ∃ (k : Nat) (fr : List Nat), k + m = n1 ∧ i = .int .i64 k ∧ a = .int .i64 (widTo s.vars k) ∧ Hid (IL wr (w.heap.size + 1) 3 v k ((unpL s.vars L).take k) fr) ∧ Hid (∀ b ∈ fr, w5.heap.size ≤ b) ∧ Hid (Mem.own wr f6 [.slice A6 n1 c6] (widL s.vars)) ∧
          Hid (Below (w.alloc (.cells #[.slice A1 n1 c1, .slice A2 n2 c2] 32)).heap.size (w.alloc (.cells #[.slice A1 n1 c1, .slice A2 n2 c2] 32)) wr) ∧ Hid (w5.heap.size ≤ wr.heap.size))
        case atStart => exact ⟨0, _, by omega, rfl, rfl, I5, Lib.hid fun b hb => by simp at hb; omega, HM5, HB5, Lib.hid (by rw [World.size_alloc]; omega)⟩
        case round =>
          clear I5 HB5 HM5
          obtain ⟨k, fr, hk, rfl, rfl, hI, hF, ho, hb, hs⟩ := hrel
          by_cases hlt : k < n1
          · have kn : (k : Int) < n1 := by omega
            obtain ⟨B, x0, x1⟩ := BX.out _ hb.out
            obtain ⟨ad, rfl, hbl, d0, d1, d2⟩ := vr_at (Mem.rd_below h1 B) (k := k) hlt
            obtain ⟨ad6, rfl, hbl6, d6⟩ := (rd_ints.1 (Mem.own_rd ho.out)).2.int hlt
            obtain ⟨vb, vwid, vlt, vare, vtk⟩ := VB.out k hlt
            rw [vwid] at d6
            have vq := varB_iff.1 vb
            have hj5 : wdv (el s.vars k) ≤ 5 := wdt_le _
            have hp5 : 2 ^ wdv (el s.vars k) ≤ 2 ^ 5 := Nat.pow_le_pow_right (by omega) hj5
            have rb := RB.out k (by omega)
            have rb1 := RB.out (k + 1) (by omega)
            have hsum : widTo s.vars (k + 1) = widTo s.vars k + wdv (el s.vars k) := rfl
            obtain ⟨A7, c7, hrun, hrd⟩ := run_part (Mem.rd_below h3 B) HC3.out (p := widTo s.vars k) (j := wdv (el s.vars k)) (q := ((widTo s.vars (k + 1) : Nat) : Int)) (by omega) (by rw [hsum])
            have NC := l6Number_any A7 _ c7 _ wr.drew (show Mem.rd wr.drew wr.drew.heap.size _ _ from Mem.rd_more (Mem.rd_drew hrd) B.size) (by omega) vare
            rw [numN_part] at NC
            have NC := Lib.hid NC
            have wv1 : IntKind.i64.wrap (((widTo s.vars k : Nat) : Int) + (wdv (el s.vars k) : Nat)) = ((widTo s.vars (k + 1) : Nat) : Int) := by rw [hsum, IntWalk.i64_in _ (by omega)]; omega
            have wv2 : IntKind.i64.wrap ((el s.vars k).low + (numN (L.drop (widTo s.vars k)) (wdv (el s.vars k)) : Nat)) = unpAt s.vars L k := IntWalk.i64_in _ (by omega)
            have VT := Lib.hid vtk
            have VW := Lib.hid vwid
            have HP : Hid (w.heap.size < wr.heap.size ∧ ad.block < wr.heap.size) := Lib.hid ⟨by have := hb.out.size; rw [World.size_alloc] at this; exact this, Nat.lt_of_lt_of_le hbl B.size⟩
            generalize numN (L.drop (widTo s.vars k)) (wdv (el s.vars k)) = xx at *
            generalize wdv (el s.vars k) = jj at *
            generalize unpAt s.vars L k = yy at *
            obtain ⟨NP, hNP⟩ : ∃ z, z = widTo s.vars (k + 1) := ⟨_, rfl⟩
            have HNP := Lib.hid hNP
            rw [← hNP] at hrun wv1
            generalize widTo s.vars k = MP at *
            clear vb vwid vlt vare vtk vq hj5 hp5 rb rb1 hsum hNP hrd
            go_wp2
            go_region_law (first
              | (go_simp; go_at_call 23; refine (NC.out).mono ?_; rintro e w8 ⟨rfl, b8⟩
                 have b8' : Below wr.heap.size wr w8 := ⟨b8.os, b8.tape, b8.output, b8.size, b8.block⟩
                 have z0 := cell_below b8' (p := ⟨w.heap.size, 0, none⟩) HP.out.1 x0
                 have z1 := cell_below b8' (p := ad.add (k * 3)) (by rw [add_block]; exact HP.out.2) d0
                 have I8 := Lib.hid (fun o => (hI.out.below b8').below (below_alloc w8 o)))
              | (refine step_il rfl _ _ rfl rfl (I8.out _) rfl (World.cell?_alloc_at _ _ _ _ rfl) (by omega) (by rw [World.size_alloc]; have := HP.out.1; have := b8'.size; omega) ?_; intro A9 c9 w9 f9 l9 on9 in9))
            all_goals
              have lo9 := (I8.out (.cells #[.int .i64 yy] 3)).lt
              have z9 := on9.size
              rw [World.size_alloc] at z9
              have s8 := b8'.size
              have O9 := Lib.hid (Mem.own_only (Mem.own_below (Mem.own_below ho.out b8') (below_alloc w8 _)) on9 fun b h6 hc => by have := (LD.out b h6).2; have := hF.out b hc; omega)
              obtain ⟨ad7, e7, _, d7⟩ := (rd_ints.1 (Mem.own_rd O9.out)).2.int hlt
              injection e7 with e7
              subst e7
              rw [VW.out] at d7
              have F9 : Hid (∀ b ∈ f9, w5.heap.size ≤ b) := Lib.hid fun b hb9 => by
                rcases in9 b hb9 with h | h
                · exact hF.out b h
                · rw [World.size_alloc] at h
                  have := hs.out
                  omega
              have B9 := Lib.hid (((hb.out.trans (b8'.mono hb.out.size)).alloc (Nat.le_trans hb.out.size s8) (.cells #[.int .i64 yy] 3)).trans (on9.below (by rw [World.size_alloc, World.size_alloc]; have := HP.out.1; omega) fun b hb => by rw [World.size_alloc]; exact (lo9 b hb).1))
              have S9 : Hid (w5.heap.size ≤ w9.heap.size) := Lib.hid (by have := hs.out; omega)
              clear lo9 z9 s8
              go_wp2
              go_roundg (n1 - (k + 1))
              case measure => omega
              case rel => exact ⟨k + 1, f9, by omega, by go_num, by rw [HNP.out], by rw [VT.out]; exact Lib.hid l9, F9, O9, B9, S9⟩
          · obtain rfl : k = n1 := by omega
            obtain ⟨B, x0, x1⟩ := BX.out _ hb.out
            have I := hI.out
            rw [List.take_of_length_le (by rw [UL.out]; exact Nat.le_refl _)] at I
            obtain ⟨om, nd⟩ := I.out (by unfold maxLen; omega)
            have lo := I.lt
            obtain ⟨A8, c8, rfl⟩ := row_slice I.1
            have HK := Lib.hid (HC.out wr A8 k c8 B (Mem.own_rd om))
            have HOM := Lib.hid om
            have HND := Lib.hid nd
            have HLO := Lib.hid fun b hb => (lo b hb).1
            clear I om nd lo
            cases hh : hasB s.vars (unpL s.vars L)
            · have E1 : Hid (F = []) := Lib.hid (by rw [E.out, hh]; rfl)
              have HH := Lib.hid hh
              clear hh
              go_wp2_with fail
              refine (HK.out).mono ?_
              rintro e w9 ⟨rfl, b9⟩
              rw [HH.out]
              go_wp2
              go_ret
              rw [E1.out]
              exact ⟨none, 0, 0, [], rfl, own_none _, List.nodup_nil, by simp, B.trans (b9.mono B.size)⟩
            · have E1 : Hid (F = unpL s.vars L) := Lib.hid (by rw [E.out, hh]; rfl)
              have HH := Lib.hid hh
              clear hh
              go_wp2_with fail
              refine (HK.out).mono ?_
              rintro e w9 ⟨rfl, b9⟩
              rw [HH.out]
              go_wp2
              go_ret
              rw [E1.out]
              exact ⟨A8, k, c8, _, rfl, Mem.own_below HOM.out b9, HND.out, fun b hb => by have := HLO.out b hb; omega, B.trans (b9.mono B.size)⟩
      · have E : Hid (F = []) := Lib.hid (by rw [hF, decide_eq_false (show ¬ L.length = widTo s.vars s.vars.length by omega)]; simp)
        have NE := Lib.hid (ne_nat' hw)
        have HZ := Lib.hid hz; have HA := Lib.hid ha
        clear hz ha hF hw ok wl L1 L3
        generalize widTo s.vars s.vars.length = M at SC NE
        go_enter Try.func6, Try.ntmps6
        go_wp2_with fail
        refine (SV.out _).mono ?_
        rintro e w2 ⟨rfl, b2⟩
        rw [HZ.out]
        obtain ⟨B2, x0, x1⟩ := BX.out _ b2
        go_wp2_with fail
        refine (AR.out _ B2).mono ?_
        rintro e w3 ⟨rfl, b3⟩
        rw [HA.out]
        have b3 := b2.trans (b3.mono b2.size)
        obtain ⟨B3, y0, y1⟩ := BX.out _ b3
        clear x0 x1
        go_wp2_with fail
        refine (WC.out _ B3).mono ?_
        rintro e w4 ⟨v4, rfl, o4, b4⟩
        rw [WL.out] at o4
        obtain ⟨A6, c6, rfl, _, _⟩ := own_form o4
        obtain ⟨f6, om6, _, lo6⟩ := mem_ints (l := widL s.vars) (by rw [WL.out]; exact o4) (by rw [WL.out]; unfold maxLen; omega)
        rw [WL.out] at om6
        go_wp2_with fail
        refine (SC.out _ _ _ (Mem.own_rd om6)).mono ?_
        rintro e w5 ⟨rfl, b5⟩
        have ne := NE.out
        go_wp2
        go_ret
        rw [E.out]
        exact ⟨none, 0, 0, [], rfl, own_none _, List.nodup_nil, by simp, (B3.trans (b4.mono B3.size)).trans (b5.mono (Nat.le_trans B3.size b4.size))⟩
end Go.Proofs.Ytopedgopbofhoaa
