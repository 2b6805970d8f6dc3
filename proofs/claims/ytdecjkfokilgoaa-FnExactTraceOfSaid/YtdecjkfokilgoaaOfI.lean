/- TraceOf of the program. -/
import Derived.Test.YtdecjkfokilgoaaOfP
import Derived.Test.YtdecjkfokilgoaaBtw3
namespace Go.Proofs.Ytdecjkfokilgoaa
open Go.RowKit

theorem el_drop {α : Type} [Inhabited α] {l : List α} (i k : Nat) : el (l.drop i) k = el l (i + k) := by unfold el; rw [List.getElem?_drop]
/-- A row of rows without its first one, by its text. -/
theorem run_tail {ad : Addr} {n c B : Nat} {L : List (List Int)} {w : World} (h : Mem.rd w B [.slice (some ad) n c] L) (hc : n ≤ c) (hn : 1 ≤ n) :
    ∃ A' c', (∀ W, (Instr.sliceAt 34 (.slice (some ad) n c) (some (.int .i64 1)) none none).run Try.prog W = .ok (.slice A' (n - 1) c') W) ∧ Mem.rd w B [.slice A' (n - 1) c'] (L.drop 1) := by
  have hu : Try.prog.underlying 34 = some (.slice (Try.prog.elem 34)) := by kernel_rfl
  have hs : ∀ W, (Go.sizeOf (Try.prog.elem 34)).run Try.prog W = .ok 1 W := fun W => by kernel_rfl
  have hr : ∀ W, (Instr.sliceAt 34 (.slice (some ad) n c) (some (.int .i64 1)) none none).run Try.prog W = .ok (.slice (if c = 1 then some ad else some (ad.add 1)) (n - 1) (c - 1)) W := fun W => by
    rw [run_sliceAt_slice W _ _ _ _ _ hu, run_slice_l W _ _ _ _ hu _ _ (by omega) (by omega), hs W]
    simp [Result.andThen, sliced]
  refine ⟨_, _, hr, ?_⟩
  have hl := rd_len h
  have hm := rd_max h
  refine ⟨_, _, _, rfl, by omega, by rw [List.length_drop]; omega, fun k hk => ?_⟩
  rw [if_neg (by omega)]
  obtain ⟨A0, n0, c0, e, _, _, hh⟩ := h
  injection e with e _
  injection e with e1 e2 e3
  subst e1; subst e2; subst e3
  obtain ⟨ad', ecs, ha, hb, hcs, hd⟩ := hh (k + 1) (by omega)
  injection ha with ha
  subst ha
  refine ⟨_, ecs, rfl, by rw [add_block]; exact hb, fun j u hj => ?_, by rw [el_drop, Nat.add_comm]; exact hd⟩
  have := hcs j u hj
  rw [add_add']
  have e : 1 + (k * Mem.size (List Int) + j) = (k + 1) * Mem.size (List Int) + j := by
    show 1 + (k * 1 + j) = (k + 1) * 1 + j
    omega
  rw [e]; exact this

set_option maxRecDepth 100000 in
set_option maxHeartbeats 16000000 in
theorem traceOf_impl (s : Sy) (L : List (List Int)) (A1 : Option Addr) (n1 c1 : Nat) (A2 : Option Addr) (n2 c2 : Nat) (A3 : Option Addr) (n3 c3 : Nat) (w : World) (h1 : Mem.rd w w.heap.size [.slice A1 n1 c1] s.vars) (h2 : Mem.rd w w.heap.size [.slice A2 n2 c2] s.rules) (h3 : Mem.rd w w.heap.size [.slice A3 n3 c3] L) (hcap : n3 ≤ c3) :
    Calls Try.prog 22 #[.agg #[.slice A1 n1 c1, .slice A2 n2 c2], .slice A3 n3 c3] w (GivesTrB w (ofS s L) (ofRs s L) (ofB s L)) := by
  have BX := Lib.hid (fun W hW => repW_box (w := w) (v1 := .slice A1 n1 c1) (v2 := .slice A2 n2 c2) (W := W) hW)
  have bW := repW_below w (.slice A1 n1 c1) (.slice A2 n2 c2)
  have SV := Lib.hid (sysValid_impl s A1 n1 c1 A2 n2 c2 (repW w (.slice A1 n1 c1) (.slice A2 n2 c2)) (Mem.rd_on h1 bW) (Mem.rd_on h2 bW))
  obtain ⟨B0, ⟨x0, x1⟩, kZ, lx0⟩ := BX.out _ (Below.refl _ _)
  have L3 := rd_len h3
  have m3 := rd_max h3
  unfold maxLen at m3
  obtain ⟨F, hF⟩ : ∃ F, F = ofS s L := ⟨_, rfl⟩
  obtain ⟨G, hG⟩ : ∃ G, G = ofRs s L := ⟨_, rfl⟩
  obtain ⟨N, hN⟩ : ∃ N, N = ofB s L := ⟨_, rfl⟩
  rw [← hF, ← hG, ← hN]
  have NO := Lib.hid (fun (h : ofB s L = false) => (⟨hF.trans (of_no h).1, hG.trans (of_no h).2, hN.trans h⟩ : F = [] ∧ G = [] ∧ N = false))
  by_cases hn : 1 ≤ n3 ∧ n3 ≤ 500
  · have hn1 : ¬ (n3 < 1) := by omega
    have hn2 : ¬ (500 < n3) := by omega
    have hn1i : ¬ ((n3 : Int) < 1) := by omega
    have hn2i : ¬ (500 < (n3 : Int)) := by omega
    cases hz : sysB s
    · have E : Hid (F = [] ∧ G = [] ∧ N = false) := Lib.hid (NO.out (by unfold ofB; rw [hz]; rfl))
      have HZ := Lib.hid hz; clear hz hF hG hN NO kZ x0 x1 B0 lx0
      unfold repW at SV
      go_enter Try.func22, Try.ntmps22
      go_wp2_with fail
      refine (SV.out).mono ?_
      rintro e w2 ⟨rfl, b2⟩
      rw [HZ.out]
      have b2 := rep_b (w := w) (v1 := .slice A1 n1 c1) (v2 := .slice A2 n2 c2) b2
      obtain ⟨B2, ⟨x0, x1⟩, kZ, lx⟩ := BX.out _ b2
      have z0 := kZ.cell 0
      have z1 := kZ.cell 1
      have f0 := kZ.frozen 0
      have f1 := kZ.frozen 1
      simp only [List.getElem?_cons_zero, List.getElem?_cons_succ] at z0 z1
      go_wp2_with fail
      refine bodyPost_ret (v := .tuple #[.agg #[.slice none 0 0, .slice none 0 0], .bool false]) (by simp [results, Try.results22, go_sem, z0, z1]) rfl ?_
      rw [E.out.1, E.out.2.1, E.out.2.2]
      refine ⟨none, 0, 0, none, 0, 0, [], [], rfl, own_none2 _, own_none _, List.nodup_nil, by simp, ?_⟩
      exact (B2.setCell (by show w.heap.size ≤ w.heap.size + 1; omega) _).setCell (by show w.heap.size ≤ w.heap.size + 1; omega) _
    · have ok := sysOk_of hz
      have hn0 : 0 < n3 := by omega
      have hn0i : (0 : Int) < n3 := by omega
      obtain ⟨ad, A4, n4, c4, rfl, hbl, ec, hrd⟩ := ll_at h3 (k := 0) (by omega)
      rw [add_zero'] at ec
      obtain ⟨A', c', hrun, htl⟩ := run_tail h3 hcap hn.1
      have FC := Lib.hid (fun W (B : Below w.heap.size w W) => first_impl s A1 n1 c1 A2 n2 c2 W (Mem.rd_on h1 B) (Mem.rd_on h2 B))
      have hFB : firstB s = firsts s.vars := by unfold firstB; rw [hz]; rfl
      rw [hFB] at FC
      obtain ⟨nv, hnv⟩ : ∃ nv, nv = (firsts s.vars).length := ⟨_, rfl⟩
      have HNV := Lib.hid hnv
      have HN5 : Hid (1 ≤ nv ∧ nv ≤ 5) := Lib.hid (by rw [hnv, firsts_len]; exact ⟨ok.lo, ok.hi⟩)
      have HZ := Lib.hid hz
      have OK := Lib.hid ok
      have HL3 := Lib.hid L3
      have YES := Lib.hid (fun (he0 : el L 0 = firsts s.vars) (h : ofGo s L (n3 - 1) = true) => (⟨hF.trans (by unfold ofS; rw [if_pos (of_yes HZ.out L3 hn he0 h)]), hG.trans (by unfold ofRs; rw [if_pos (of_yes HZ.out L3 hn he0 h), L3]), hN.trans (of_yes HZ.out L3 hn he0 h), by have := of_rep (of_yes HZ.out L3 hn he0 h); rw [L3] at this; exact this⟩ : F = L ∧ G = ofR s L (n3 - 1) ∧ N = true ∧ repS s (ofR s L (n3 - 1)) = L ∧ repR s (ofR s L (n3 - 1)) = ofR s L (n3 - 1)))
      have VP : Hid (∀ st : List Int, hasB s.vars st = true → 1 ≤ st.length ∧ st.length ≤ 5) := Lib.hid (fun st h => by rw [has_len h]; exact ⟨ok.lo, ok.hi⟩)
      have H0 : Hid (hasB s.vars (firsts s.vars) = true) := Lib.hid (firsts_has ok)
      obtain ⟨FS, hFS⟩ : ∃ FS, FS = firsts s.vars := ⟨_, rfl⟩
      have HFS := Lib.hid hFS
      rw [← hFS] at FC HNV H0
      have PB : Hid (∀ W : World, Blk (W.alloc (.cells #[.int .i64 (ix FS 0), .int .i64 (ix FS 1), .int .i64 (ix FS 2), .int .i64 (ix FS 3), .int .i64 (ix FS 4), .int .i64 nv] 83)) W.heap.size 83 (ptC FS)) := Lib.hid (fun W => by
        rw [HNV.out]; exact Blk.new W (ptC FS).toArray _)
      clear hz hF hG hN hnv hFB ok L3 hFS kZ x0 x1 B0 lx0
      unfold repW at SV
      go_enter Try.func22, Try.ntmps22
      go_wp2_with fail
      refine (SV.out).mono ?_
      rintro e w2 ⟨rfl, b2⟩
      rw [HZ.out]
      have b2 := rep_b (w := w) (v1 := .slice A1 n1 c1) (v2 := .slice A2 n2 c2) b2
      obtain ⟨B2, ⟨x0, x1⟩, kZ, lx⟩ := BX.out _ b2
      clear kZ
      go_wp2_with fail
      refine (FC.out _ B2).mono ?_
      rintro e w3 ⟨v3, rfl, o3, b3⟩
      rw [← HNV.out] at o3
      obtain ⟨A5, c5, rfl, _, _⟩ := own_form o3
      obtain ⟨f5, om5, _, _⟩ := mem_ints (l := FS) (by rw [← HNV.out]; exact o3) (by rw [← HNV.out]; have := HN5.out; unfold maxLen; omega)
      rw [← HNV.out] at om5
      have b3 := b2.trans (b3.mono lx)
      have lx3 : w.heap.size + 2 ≤ w3.heap.size := (BX.out _ b3).2.2.2
      have PC := pointOf_any A5 nv c5 FS w3 (rd_ints.1 (Mem.own_rd om5)).2 HN5.out.1 HN5.out.2
      unfold ptV at PC
      rw [← HNV.out] at PC
      have PC := Lib.hid PC
      clear o3 om5 x0 x1
      go_wp2_with fail
      refine (PC.out).mono ?_
      rintro e w4 ⟨rfl, b4⟩
      have b4 := b3.trans (b4.mono lx3)
      have kP := PB.out w4
      obtain ⟨wP, hwP⟩ : ∃ wP, wP = w4.alloc (.cells #[.int .i64 (ix FS 0), .int .i64 (ix FS 1), .int .i64 (ix FS 2), .int .i64 (ix FS 3), .int .i64 (ix FS 4), .int .i64 nv] 83) := ⟨_, rfl⟩
      have lx4 : w.heap.size + 2 ≤ w4.heap.size := (BX.out _ b4).2.2.2
      have bP := b4.alloc lx4 (.cells #[.int .i64 (ix FS 0), .int .i64 (ix FS 1), .int .i64 (ix FS 2), .int .i64 (ix FS 3), .int .i64 (ix FS 4), .int .i64 nv] 83)
      rw [← hwP] at kP bP
      obtain ⟨BP, ⟨y0, y1⟩, kZ, lxP⟩ := BX.out _ bP
      have eP := cell_below BP (p := ad) hbl ec
      obtain ⟨p0, p1, p2, p3, p4, p5⟩ := pt_cells kP
      rw [← HNV.out] at p5
      have IC := isPt_any FS A4 n4 c4 (el L 0) wP.drew (by rw [← HNV.out]; exact HN5.out.1) (by rw [← HNV.out]; exact HN5.out.2) (Mem.rd_drew (Mem.rd_on hrd BP))
      unfold ptV at IC
      rw [← HNV.out] at IC
      have IC := Lib.hid IC
      have lP := Lib.hid kP.lt
      have LAD := Lib.hid (Nat.lt_of_lt_of_le hbl BP.size)
      clear kZ
      go_wp2
      rw [← hwP]
      clear hwP
      go_region_held3 (fun w' => w'.cell? ⟨w4.heap.size, 0, none⟩ = some (.int .i64 (ix FS 0)) ∧ w'.cell? ⟨w4.heap.size, 1, none⟩ = some (.int .i64 (ix FS 1)) ∧ w'.cell? ⟨w4.heap.size, 2, none⟩ = some (.int .i64 (ix FS 2)) ∧ w'.cell? ⟨w4.heap.size, 3, none⟩ = some (.int .i64 (ix FS 3)) ∧ w'.cell? ⟨w4.heap.size, 4, none⟩ = some (.int .i64 (ix FS 4)) ∧ w'.cell? ⟨w4.heap.size, 5, none⟩ = some (.int .i64 nv) ∧ w'.cell? ad = some (.slice A4 n4 c4)) (go_keep)
        ((go_at_call 68; refine (IC.out).mono ?_; rintro e w5 ⟨rfl, b5'⟩
          have b5 : Below wP.heap.size wP w5 := ⟨b5'.os, b5'.tape, b5'.output, b5'.size, b5'.block⟩
          have q0 := cell_below b5 (p := ⟨w4.heap.size, 0, none⟩) lP.out p0
          have q1 := cell_below b5 (p := ⟨w4.heap.size, 1, none⟩) lP.out p1
          have q2 := cell_below b5 (p := ⟨w4.heap.size, 2, none⟩) lP.out p2
          have q3 := cell_below b5 (p := ⟨w4.heap.size, 3, none⟩) lP.out p3
          have q4 := cell_below b5 (p := ⟨w4.heap.size, 4, none⟩) lP.out p4
          have q5 := cell_below b5 (p := ⟨w4.heap.size, 5, none⟩) lP.out p5
          have q6 := cell_below b5 (p := ad) LAD.out eP))
      have kP5 := kP.below b5 lP.out
      have b5w := bP.trans (b5.mono lxP)
      obtain ⟨B5, ⟨y0', y1'⟩, kZ5, lx5⟩ := BX.out _ b5w
      clear p0 p1 p2 p3 p4 p5 q0 q1 q2 q3 q4 q5 q6 eP kP bP b5 b5' y0 y1 IC PC
      cases hd : decide (FS = el L 0)
      · have E : Hid (F = [] ∧ G = [] ∧ N = false) := Lib.hid (NO.out (by
          have : decide (el L 0 = firsts s.vars) = false := by
            rw [decide_eq_false_iff_not] at hd ⊢
            intro e
            exact hd (by rw [HFS.out, e])
          unfold ofB; rw [this]; simp))
        clear hd
        have z0 := kZ5.cell 0
        have z1 := kZ5.cell 1
        have f0 := kZ5.frozen 0
        have f1 := kZ5.frozen 1
        simp only [List.getElem?_cons_zero, List.getElem?_cons_succ] at z0 z1
        go_wp2_with fail
        refine bodyPost_ret (v := .tuple #[.agg #[.slice none 0 0, .slice none 0 0], .bool false]) (by simp [results, Try.results22, go_sem, z0, z1]) rfl ?_
        rw [E.out.1, E.out.2.1, E.out.2.2]
        refine ⟨none, 0, 0, none, 0, 0, [], [], rfl, own_none2 _, own_none _, List.nodup_nil, by simp, ?_⟩
        exact (B5.setCell (by show w.heap.size ≤ w.heap.size + 1; omega) _).setCell (by show w.heap.size ≤ w.heap.size + 1; omega) _
      · have he0 : el L 0 = firsts s.vars := by rw [← HFS.out]; exact (of_decide_eq_true hd).symm
        have HE0 := Lib.hid he0
        have kP5 : Blk w5 w4.heap.size 83 (ptC (el L 0)) := by rw [← of_decide_eq_true hd]; exact kP5
        have H1 : Hid (hasB s.vars (el L 0) = true) := Lib.hid (by rw [← of_decide_eq_true hd]; exact H0.out)
        have HCAP := Lib.hid hcap
        clear hd he0 hcap H0 PB kZ5 y0' y1'
        go_wp2
        go_loopg [7, 9, 10, 40] (n3 - 1) (fun m v i9 i10 i wr => ∃ (k : Nat) (fR : List Nat), k + m = n3 - 1 ∧ i = .int .i64 k ∧ Hid (ofGo s L k = true ∧ hasB s.vars (el L k) = true) ∧ Hid (IL wr (w.heap.size + 2) 3 v k (ofR s L k) fR) ∧ Blk wr w4.heap.size 83 (ptC (el L k)) ∧ Hid (w4.heap.size ∉ fR) ∧ Below (w.heap.size + 2) (repW w (.slice A1 n1 c1) (.slice A2 n2 c2)) wr)
        case atStart => exact ⟨0, [], by omega, rfl, Lib.hid ⟨rfl, H1.out⟩, Lib.hid (IL.nil _ _ _), kP5, Lib.hid (by simp), b5w⟩
        case round =>
          clear kP5 b5w B5 lx5
          obtain ⟨k, fR, hk, rfl, RO, HJ, kP, HD, hb⟩ := hrel
          obtain ⟨B, ⟨x0, x1⟩, kZ, lx⟩ := BX.out _ hb
          obtain ⟨AR, cR, rfl⟩ := row_slice HJ.out.1
          by_cases hlt : k < n3 - 1
          · have kn : (k : Int) < ((n3 - 1 : Nat) : Int) := by omega
            obtain ⟨ad7, A7, n7, c7, rfl, hbl7, d7, r7⟩ := ll_at (Mem.rd_below htl B) (k := k) hlt
            rw [el_drop, Nat.add_comm 1 k] at r7
            have kP' := kP
            obtain ⟨p0, p1, p2, p3, p4, p5⟩ := pt_cells kP
            obtain ⟨ff0, ff1, ff2, ff3, ff4, ff5⟩ := six_frozen kP
            have R7 := Mem.rd_more r7 B.size
            have BK := btw_impl' s (el L k) (el L (k + 1)) A1 n1 c1 A2 n2 c2 A7 n7 c7 wr (Mem.rd_on h1 B) (Mem.rd_on h2 B) R7 OK.out RO.out.2
            unfold ptV at BK
            have BK := Lib.hid BK
            obtain ⟨r, hr⟩ : ∃ r, r = firstHit (hitB s (el L k) (el L (k + 1))) s.rules.length := ⟨_, rfl⟩
            rw [← hr] at BK
            have HR := Lib.hid (show r = btwR s (el L k) (el L (k + 1)) from hr)
            have HLX := Lib.hid lx
            have HLTN : Hid (k + 1 < n3) := Lib.hid (by omega)
            have HR7 := Lib.hid r7
            clear hr r7 R7 kZ
            go_wp2_with fail
            refine (BK.out).mono ?_
            rintro e w8 ⟨rfl, b8⟩
            have hb8 := hb.trans (b8.mono HLX.out)
            obtain ⟨B8, ⟨z0', z1'⟩, kZ8, lx8⟩ := BX.out _ hb8
            have kP8 := kP.below b8 kP.lt
            have I8 := HJ.out.below b8
            have R8 := Lib.hid (Mem.rd_below HR7.out (b8.mono B.size))
            clear x0 x1 p0 p1 p2 p3 p4 p5 ff0 ff1 ff2 ff3 ff4 ff5 d7 kP kP' BK HR7 z0' z1'
            by_cases hneg : r < 0
            · have E : Hid (F = [] ∧ G = [] ∧ N = false) := Lib.hid (NO.out (of_stop (by rw [← HR.out]; exact hneg) (by rw [HL3.out]; exact HLTN.out)))
              have z0 := kZ8.cell 0
              have z1 := kZ8.cell 1
              have f0 := kZ8.frozen 0
              have f1 := kZ8.frozen 1
              simp only [List.getElem?_cons_zero, List.getElem?_cons_succ] at z0 z1
              go_wp2_with fail
              refine bodyPost_ret (v := .tuple #[.agg #[.slice none 0 0, .slice none 0 0], .bool false]) (by simp [results, Try.results22, go_sem, z0, z1]) rfl ?_
              rw [E.out.1, E.out.2.1, E.out.2.2]
              refine ⟨none, 0, 0, none, 0, 0, [], [], rfl, own_none2 _, own_none _, List.nodup_nil, by simp, ?_⟩
              exact (B8.setCell (by show w.heap.size ≤ w.heap.size + 1; omega) _).setCell (by show w.heap.size ≤ w.heap.size + 1; omega) _
            · have hv : hasB s.vars (el L (k + 1)) = true := btw_has (a := el L k) (by rw [← HR.out]; omega)
              have hv5 := VP.out _ hv
              have hl7 := rd_len R8.out
              rw [hl7] at hv5
              have HL7 := Lib.hid hl7
              have OGN : Hid (ofGo s L (k + 1) = true ∧ hasB s.vars (el L (k + 1)) = true) := Lib.hid ⟨by
                show (ofGo s L k && decide (0 ≤ btwR s (el L k) (el L (k + 1)))) = true
                rw [RO.out.1, ← HR.out, decide_eq_true (by omega)]; rfl, hv⟩
              have RN : Hid (ofR s L (k + 1) = ofR s L k ++ [r]) := Lib.hid (by rw [ofR_succ, HR.out])
              have I8a := Lib.hid (fun o => I8.below (below_alloc w8 o))
              have kP8a := Lib.hid (fun o => kP8.alloc o)
              have lo8 := I8.lt
              have HLO8 := Lib.hid lo8
              have HLX8 := Lib.hid lx8
              have hv5' := Lib.hid hv5
              have L4P := Lib.hid kP8.lt
              clear hv hl7 kZ8 I8 lo8 hv5 HR kP8
              go_wp2_with (first
                | (at_builtin; refine app_il rfl _ _ rfl rfl (I8a.out _) rfl (World.cell?_alloc_at _ _ _ _ rfl) (by omega) (by rw [World.size_alloc]; have := HLX8.out; omega) ?_; intro v9 w9 f9 l9 on9 in9; obtain ⟨A9, c9, rfl⟩ := row_slice l9.1)
                | fail)
              have b9 := ((below_alloc w8 (.cells #[.int .i64 r] 3)).mono HLX8.out).trans (on9.below (B := w.heap.size + 2) (by rw [World.size_alloc]; have := HLX8.out; omega) fun b hb' => (HLO8.out b hb').1)
              have z9 := on9.size
              rw [World.size_alloc] at z9
              have kP9 := Blk.only (kP8a.out _) on9 HD.out
              have R9 := Mem.rd_more (Mem.rd_below R8.out (b9.mono (by omega))) (show w.heap.size ≤ w9.heap.size by have := HLX8.out; omega)
              have PK := Lib.hid (pointOf_any A7 n7 c7 (el L (k + 1)) w9 (rd_ints.1 R9).2 hv5'.out.1 hv5'.out.2)
              have F9 : Hid (∀ b ∈ f9, b ∈ fR ∨ b = w8.heap.size + 1) := Lib.hid fun b hb' => by
                rcases in9 b hb' with h | h
                · exact .inl h
                · rw [World.size_alloc] at h; exact .inr h
              have I9 := Lib.hid l9
              have hb9 := hb8.trans b9
              have lx9 : w.heap.size + 2 ≤ w9.heap.size := (BX.out _ hb9).2.2.2
              unfold ptV at PK
              clear l9 on9 in9 R9 b9
              go_wp2_with fail
              refine (PK.out).mono ?_
              rintro e w10 ⟨rfl, b10⟩
              have kP10 := kP9.below b10 kP9.lt
              have I10 := Lib.hid (I9.out.below b10)
              have hb10 := hb9.trans (b10.mono lx9)
              obtain ⟨p0, p1, p2, p3, p4, p5⟩ := pt_cells kP10
              obtain ⟨ff0, ff1, ff2, ff3, ff4, ff5⟩ := six_frozen kP10
              have on14 := six_only w4.heap.size w10 (.int .i64 (ix (el L (k + 1)) 0)) (.int .i64 (ix (el L (k + 1)) 1)) (.int .i64 (ix (el L (k + 1)) 2)) (.int .i64 (ix (el L (k + 1)) 3)) (.int .i64 (ix (el L (k + 1)) 4)) (.int .i64 (el L (k + 1)).length)
              have n4f : w4.heap.size ∉ f9 := fun hm => by
                rcases F9.out _ hm with h | h
                · exact HD.out h
                · have := L4P.out; omega
              have I14 := Lib.hid (I10.out.only on14 fun b hb' hm => n4f (by simp at hm; rw [← hm]; exact hb'))
              have k14 := six_below6 (g := w4.heap.size) (a := .int .i64 (ix (el L (k + 1)) 0)) (b := .int .i64 (ix (el L (k + 1)) 1)) (c := .int .i64 (ix (el L (k + 1)) 2)) (d := .int .i64 (ix (el L (k + 1)) 3)) (e := .int .i64 (ix (el L (k + 1)) 4)) (f := .int .i64 (el L (k + 1)).length) lx4 hb10
              go_wp2
              go_roundg (n3 - 1 - (k + 1))
              case measure => omega
              case rel => exact ⟨k + 1, f9, by omega, by go_num, OGN, by rw [RN.out]; exact I14, (((((kP10.set 0 _).set 1 _).set 2 _).set 3 _).set 4 _).set 5 _, Lib.hid n4f, k14⟩
          · obtain rfl : k = n3 - 1 := by omega
            obtain ⟨E1, E2, E3, E4, E5⟩ := YES.out HE0.out RO.out.1
            have E := Lib.hid (⟨E1, E2, E3⟩ : F = L ∧ G = ofR s L (n3 - 1) ∧ N = true)
            have om := (HJ.out.out (by unfold maxLen; omega)).1
            have RC := replay_impl s (ofR s L (n3 - 1)) A1 n1 c1 A2 n2 c2 AR (n3 - 1) cR wr (Mem.rd_on h1 B) (Mem.rd_on h2 B) (Mem.own_rd om)
            rw [E4, E5] at RC
            have RC := Lib.hid RC
            have HLX := Lib.hid lx
            clear E1 E2 E3 E4 E5 om kP
            go_wp2_with fail
            refine (RC.out).mono ?_
            rintro e w8 ⟨Aa, na, ca, Ab, nb, cb, f1, f2, rfl, oa, ob, nd, lo, b8⟩
            have kZ8 := kZ.below b8 (by have := HLX.out; omega)
            have z0 := fun o => (kZ8.alloc o).cell 0
            have z1 := fun o => (kZ8.alloc o).cell 1
            have g0 := fun o => (kZ8.alloc o).frozen 0
            have g1 := fun o => (kZ8.alloc o).frozen 1
            simp only [List.getElem?_cons_zero, List.getElem?_cons_succ] at z0 z1
            have B8 := B.trans (b8.mono B.size)
            have HOA := Lib.hid oa
            have HOB := Lib.hid ob
            have HLO := Lib.hid lo
            clear oa ob lo kZ kZ8 x0 x1
            go_wp2_with fail
            refine bodyPost_ret (v := .tuple #[.agg #[.slice Aa na ca, .slice Ab nb cb], .bool true]) (by simp [results, Try.results22, go_sem, z0, z1]) rfl ?_
            rw [E.out.1, E.out.2.1, E.out.2.2]
            have ba := below_alloc w8 (.cells #[.slice Aa na ca, .slice Ab nb cb] 38)
            have hne : ∀ b ∈ f1 ++ f2, b ∉ [w.heap.size + 1] := fun b hb' hm => by
              have := HLO.out b hb'
              have := HLX.out
              simp at hm
              omega
            have o2 := (set_only (w8.alloc (.cells #[.slice Aa na ca, .slice Ab nb cb] 38)) (w.heap.size + 1) 0 (.slice Aa na ca)).trans (set_only _ (w.heap.size + 1) 1 (.slice Ab nb cb))
            refine ⟨Aa, na, ca, Ab, nb, cb, f1, f2, rfl, Mem.own_only (Mem.own_below HOA.out ba) o2 (fun b hb' => hne b (List.mem_append_left _ hb')), Mem.own_only (Mem.own_below HOB.out ba) o2 (fun b hb' => hne b (List.mem_append_right _ hb')), nd, fun x hx => by have := HLO.out x hx; have := HLX.out; omega, ?_⟩
            exact ((B8.alloc B8.size _).setCell (by show w.heap.size ≤ w.heap.size + 1; omega) _).setCell (by show w.heap.size ≤ w.heap.size + 1; omega) _
  · have E : Hid (F = [] ∧ G = [] ∧ N = false) := Lib.hid (NO.out (by
      have : (decide (1 ≤ L.length) && decide (L.length ≤ 500)) = false := by
        rw [L3]
        by_cases q : 1 ≤ n3
        · rw [decide_eq_false (show ¬ n3 ≤ 500 by omega)]; simp
        · rw [decide_eq_false q]; rfl
      unfold ofB; rw [this]; simp))
    clear hF hG hN NO SV x0 x1
    by_cases q : n3 < 1
    · have qi : (n3 : Int) < 1 := by omega
      have z0 := kZ.cell 0
      have z1 := kZ.cell 1
      have f0 := kZ.frozen 0
      have f1 := kZ.frozen 1
      simp only [List.getElem?_cons_zero, List.getElem?_cons_succ] at z0 z1
      clear kZ
      unfold repW at z0 z1 f0 f1 B0
      go_enter Try.func22, Try.ntmps22
      go_wp2_with fail
      refine bodyPost_ret (v := .tuple #[.agg #[.slice none 0 0, .slice none 0 0], .bool false]) (by simp [results, Try.results22, go_sem, z0, z1]) rfl ?_
      rw [E.out.1, E.out.2.1, E.out.2.2]
      refine ⟨none, 0, 0, none, 0, 0, [], [], rfl, own_none2 _, own_none _, List.nodup_nil, by simp, ?_⟩
      first
        | exact B0
        | exact (B0.setCell (by show w.heap.size ≤ w.heap.size + 1; omega) _).setCell (by show w.heap.size ≤ w.heap.size + 1; omega) _
    · have qi : ¬ ((n3 : Int) < 1) := by omega
      have q2 : 500 < n3 := by omega
      have q2i : (500 : Int) < n3 := by omega
      have z0 := kZ.cell 0
      have z1 := kZ.cell 1
      have f0 := kZ.frozen 0
      have f1 := kZ.frozen 1
      simp only [List.getElem?_cons_zero, List.getElem?_cons_succ] at z0 z1
      clear kZ
      unfold repW at z0 z1 f0 f1 B0
      go_enter Try.func22, Try.ntmps22
      go_wp2_with fail
      refine bodyPost_ret (v := .tuple #[.agg #[.slice none 0 0, .slice none 0 0], .bool false]) (by simp [results, Try.results22, go_sem, z0, z1]) rfl ?_
      rw [E.out.1, E.out.2.1, E.out.2.2]
      refine ⟨none, 0, 0, none, 0, 0, [], [], rfl, own_none2 _, own_none _, List.nodup_nil, by simp, ?_⟩
      first
        | exact B0
        | exact (B0.setCell (by show w.heap.size ≤ w.heap.size + 1; omega) _).setCell (by show w.heap.size ≤ w.heap.size + 1; omega) _
end Go.Proofs.Ytdecjkfokilgoaa
