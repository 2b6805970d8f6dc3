/- The numbers behind, and ahead of, those of a set, of the program. -/
import Derived.Test.YtfgjogmgcamfdaaGreatDoorNxP
import Derived.Test.YtfgjogmgcamfdaaGreatDoorWh
import Derived.Deep.RegionLaw
import Derived.RegionTactic
import Derived.BigRegion
import Derived.Test.YtfgjogmgcamfdaaGreatDoorMixS
import Derived.DeepKeys
namespace Go.Proofs.YtfgjogmgcamfdaaGreatDoor
open Go.RowKit

set_option maxRecDepth 100000 in
set_option maxHeartbeats 8000000 in
theorem next_any (s : Sy) (n : Nat) (A1 : Option Addr) (n1 c1 : Nat) (A2 : Option Addr) (n2 c2 : Nat) (w : World) (h1 : Mem.rd w w.heap.size [.slice A1 n1 c1] s.vars) (h2 : Mem.rd w w.heap.size [.slice A2 n2 c2] s.rules)
    (ok : SysOk s) (hn : n < 400) :
    Calls Tryz.prog 98 #[.agg #[.slice A1 n1 c1, .slice A2 n2 c2], .int .i64 n] w (GivesV w (wsV (nxP s (stL s.vars n) s.rules.length))) := by
  have L1 := rd_len h1
  have L2 := rd_len h2
  have h5 : 1 ≤ n1 ∧ n1 ≤ 5 := by have := ok.hi; have := ok.lo; omega
  have h8 : n2 ≤ 8 := by have := ok.most; omega
  obtain ⟨st, hst⟩ : ∃ st, st = stL s.vars n := ⟨_, rfl⟩
  have SL := Lib.hid (show st.length = n1 by rw [hst, stL_len]; exact L1)
  have hin : hasB s.vars st = true := by rw [hst]; exact stL_has _ ok.vars
  have AC := Lib.hid (fun W (B : Below w.heap.size w W) => show Calls Tryz.prog 90 #[.agg #[.slice A1 n1 c1, .slice A2 n2 c2], .int .i64 (n : Int)] W (GivesV W (.agg #[.int .i64 (ix st 0), .int .i64 (ix st 1), .int .i64 (ix st 2), .int .i64 (ix st 3), .int .i64 (ix st 4), .int .i64 n1])) from by
    have := at_any s n A1 n1 c1 A2 n2 c2 W (Mem.rd_on h1 B) ok (by omega) (by omega)
    rw [← hst] at this
    unfold ptV at this
    rw [SL.out] at this
    exact this)
  have UC := Lib.hid (fun k (hk : k < n2) W (B : Below w.heap.size w W) => show Calls Tryz.prog 119 #[.agg #[.slice A1 n1 c1, .slice A2 n2 c2], .agg #[.int .i64 (ix st 0), .int .i64 (ix st 1), .int .i64 (ix st 2), .int .i64 (ix st 3), .int .i64 (ix st 4), .int .i64 n1], .int .i64 (k : Int)] W (GivesV W (.tuple #[ptV (useL s st k), .bool (useB s st k)])) from by
    have := useP_any s st k A1 n1 c1 A2 n2 c2 W (Mem.rd_on h1 B) (Mem.rd_on h2 B) ok hin (by omega)
    rw [show ptV st = .agg #[.int .i64 (ix st 0), .int .i64 (ix st 1), .int .i64 (ix st 2), .int .i64 (ix st 3), .int .i64 (ix st 4), .int .i64 n1] by unfold ptV; rw [SL.out]] at this
    exact this)
  have HL := Lib.hid (fun k (h : useB s st k = true) => show (useL s st k).length = n1 by rw [has_len (use_has' h)]; exact L1)
  have NC := Lib.hid (fun k (h : useB s st k = true) W g T (B : Below w.heap.size w W) (kO : Blk W g T (ptC (useL s st k))) => show Calls Tryz.prog 103 #[.agg #[.slice A1 n1 c1, .slice A2 n2 c2], .slice (some ⟨g, 0, none⟩) n1 5] W (GivesInt W (numL s (useL s st k))) from
    number_any s (useL s st k) A1 n1 c1 A2 n2 c2 (some ⟨g, 0, none⟩) n1 5 W (Mem.rd_on h1 B) (rd_ints.2 ⟨by unfold maxLen; omega, by have := kO.pt (by rw [HL.out k h]; exact h5.2); rw [HL.out k h] at this; exact this⟩) ok (use_has' h))
  have NB := Lib.hid (fun k (h : useB s st k = true) => num_lt ok (use_has' h))
  have hsz := ok.size
  obtain ⟨F, hF⟩ : ∃ F, F = nxP s st s.rules.length := ⟨_, rfl⟩
  have E : Hid (F = nxP s st n2) := Lib.hid (by rw [hF, L2])
  rw [← hst, ← hF]
  have HSZ := Lib.hid hsz
  have H5 := Lib.hid h5
  have H8 := Lib.hid h8
  clear hst hF L1 L2 hin hsz h5 h8 hn
  have BX := Lib.hid (fun W hW => whW_box (w := w) (a := .slice A1 n1 c1) (b := .slice A2 n2 c2) (W := W) hW)
  have M0 : Blk ((whW w (.slice A1 n1 c1) (.slice A2 n2 c2)).alloc (.cells #[.int .u64 0, .int .u64 0, .int .u64 0, .int .u64 0, .int .u64 0, .int .u64 0, .int .u64 0] 61)) (w.heap.size + 2) 61 (wsC (nxP s st 0)) := by
    have := Blk.new (whW w (.slice A1 n1 c1) (.slice A2 n2 c2)) #[.int .u64 0, .int .u64 0, .int .u64 0, .int .u64 0, .int .u64 0, .int .u64 0, .int .u64 0] 61
    rw [whW_size] at this
    show Blk _ _ _ (wsC fun _ => false)
    rw [wsC_zero]
    exact this
  have W0 : Below (w.heap.size + 2) (whW w (.slice A1 n1 c1) (.slice A2 n2 c2)) ((whW w (.slice A1 n1 c1) (.slice A2 n2 c2)).alloc (.cells #[.int .u64 0, .int .u64 0, .int .u64 0, .int .u64 0, .int .u64 0, .int .u64 0, .int .u64 0] 61)) := by
    have := below_alloc (whW w (.slice A1 n1 c1) (.slice A2 n2 c2)) (.cells #[.int .u64 0, .int .u64 0, .int .u64 0, .int .u64 0, .int .u64 0, .int .u64 0, .int .u64 0] 61)
    rw [whW_size] at this
    exact this
  have M0 := Lib.hid M0
  have W0 := Lib.hid W0
  unfold whW at M0 W0
  go_enter Tryz.func98, Tryz.ntmps98
  go_wp2_with fail
  have B0 := (BX.out _ W0.out).1
  refine (AC.out _ B0).mono ?_
  rintro e w2 ⟨rfl, b2⟩
  have hM2 := M0.out.below b2 M0.out.lt
  have hW2 := W0.out.trans (b2.mono (Nat.le_of_lt M0.out.lt))
  obtain ⟨B2, ⟨x0, x1⟩, kZ2, lx2⟩ := BX.out _ hW2
  have M2 := Lib.hid (fun o => hM2.alloc (o := o))
  have W2 := Lib.hid (fun o => hW2.alloc lx2 o)
  have K2 : Hid (Blk (w2.alloc (.cells #[.int .i64 (ix st 0), .int .i64 (ix st 1), .int .i64 (ix st 2), .int .i64 (ix st 3), .int .i64 (ix st 4), .int .i64 n1] 127)) w2.heap.size 127 (ptC st)) := Lib.hid (by
    have := Blk.new w2 (ptC st).toArray 127
    unfold ptC at this
    rw [SL.out] at this
    unfold ptC
    rw [SL.out]
    exact this)
  have L23 : Hid (w.heap.size + 2 < w2.heap.size) := Lib.hid hM2.lt
  have xa0 := fun o => cell_below (below_alloc w2 o) (p := ⟨w.heap.size, 0, none⟩) (show w.heap.size < w2.heap.size by omega) x0
  have xa1 := fun o => cell_below (below_alloc w2 o) (p := ⟨w.heap.size, 1, none⟩) (show w.heap.size < w2.heap.size by omega) x1
  clear B0 hM2 hW2 kZ2
  go_wp2
  go_loopg [7, 8, 9, 16] n2 (fun m i7 i8 i9 i wr => ∃ k : Nat, k + m = n2 ∧ i = .int .i64 k ∧ Hid (Blk wr (w.heap.size + 2) 61 (wsC (nxP s st k))) ∧ Hid (Blk wr w2.heap.size 127 (ptC st)) ∧ Below (w.heap.size + 2) (whW w (.slice A1 n1 c1) (.slice A2 n2 c2)) wr)
  case atStart => exact ⟨0, by omega, rfl, Lib.hid (M2.out _), K2, W2.out _⟩
  case round =>
    clear M0 W0 M2 W2 K2 x0 x1 xa0 xa1
    obtain ⟨k, hk, rfl, hm, hp, hb⟩ := hrel
    obtain ⟨B, ⟨x0, x1⟩, kZ, lx⟩ := BX.out _ hb
    have hn8 : n2 ≤ 8 := H8.out
    by_cases hlt : k < n2
    · obtain ⟨p0, p1, p2, p3, p4, p5⟩ := pt_cells hp.out
      rw [SL.out] at p5
      have NY := nxP_yes (s := s) (st := st) (k := k)
      have NN := nxP_no (s := s) (st := st) (k := k)
      have UK := Lib.hid (UC.out k hlt wr B)
      have HLk := HL.out k
      have NCk := NC.out k
      have NBk := NB.out k
      clear kZ
      obtain ⟨U, hU⟩ : ∃ U, U = useL s st k := ⟨_, rfl⟩
      rw [← hU] at UK HLk NCk NBk NY
      cases hu : useB s st k
      · have NX := Lib.hid (NN hu)
        rw [hu] at UK
        clear hU hu NY NN HLk NCk NBk
        have HUL := Lib.hid (rfl : ptV U = .agg #[.int .i64 (ix U 0), .int .i64 (ix U 1), .int .i64 (ix U 2), .int .i64 (ix U 3), .int .i64 (ix U 4), .int .i64 U.length])
        unfold ptV at UK
        go_wp2_with fail
        refine (UK.out).mono ?_
        rintro e w4 ⟨rfl, b4⟩
        have M4 := Lib.hid (fun o => (hm.out.below b4 hm.out.lt).alloc (o := o))
        have P4 := Lib.hid (fun o => (hp.out.below b4 hp.out.lt).alloc (o := o))
        have hb4 := hb.trans (b4.mono lx)
        have HB4 := Lib.hid (fun o => hb4.alloc (Nat.le_trans lx b4.size) o)
        clear hb4
        go_wp2
        go_roundg (n2 - (k + 1))
        case measure => omega
        case rel => exact ⟨k + 1, by omega, by go_num, by rw [NX.out]; exact Lib.hid (M4.out _), Lib.hid (P4.out _), HB4.out _⟩
      · have hul := HLk hu
        have NCU := Lib.hid (NCk hu)
        have hnb := NBk hu
        obtain ⟨x, hx⟩ : ∃ x : Nat, (x : Int) = numL s U := ⟨(numL s U).toNat, by omega⟩
        have hx4 : x < 448 := by have := HSZ.out; omega
        have NX : Hid (nxP s st (k + 1) = addP (nxP s st k) x) := Lib.hid (by rw [NY hu, ← hx]; rfl)
        rw [← hx] at NCU
        rw [hu] at UK
        have WA := Lib.hid (with_any (nxP s st k) x hx4)
        generalize nxP s st k = Q at hm NX WA
        have WA := Lib.hid WA.out
        have HUL := Lib.hid hul
        rw [show ptV U = .agg #[.int .i64 (ix U 0), .int .i64 (ix U 1), .int .i64 (ix U 2), .int .i64 (ix U 3), .int .i64 (ix U 4), .int .i64 n1] by unfold ptV; rw [hul]] at UK
        unfold wsV at WA
        clear hU hu NY NN HLk NCk NBk hnb hx hx4 hul
        go_wp2_with fail
        refine (UK.out).mono ?_
        rintro e w4 ⟨rfl, b4⟩
        have hb4 := hb.trans (b4.mono lx)
        obtain ⟨B4, ⟨y0, y1⟩, kZ, lx4⟩ := BX.out _ hb4
        have lm4 : w.heap.size + 2 < w4.heap.size := Nat.lt_of_lt_of_le hm.out.lt b4.size
        obtain ⟨wv, hwv⟩ : ∃ wv, wv = w4.alloc (.cells #[.int .i64 (ix U 0), .int .i64 (ix U 1), .int .i64 (ix U 2), .int .i64 (ix U 3), .int .i64 (ix U 4), .int .i64 n1] 127) := ⟨_, rfl⟩
        have bwv : Below w4.heap.size w4 wv := by rw [hwv]; exact below_alloc _ _
        have Kv : Hid (Blk wv w4.heap.size 127 (ptC U)) := Lib.hid (by
          rw [hwv]
          have := Blk.new w4 (ptC U).toArray 127
          unfold ptC at this
          rw [HUL.out] at this
          unfold ptC
          rw [HUL.out]
          exact this)
        have hbv := hb4.trans (bwv.mono lx4)
        obtain ⟨Bv, ⟨v0, v1⟩, _, lxv⟩ := BX.out _ hbv
        have Mv := Lib.hid ((hm.out.below b4 hm.out.lt).below bwv lm4)
        have Pv := Lib.hid ((hp.out.below b4 hp.out.lt).below bwv (Nat.lt_of_lt_of_le hp.out.lt b4.size))
        obtain ⟨q0, q1, q2, q3, q4, q5, q6⟩ := ws_cells Mv.out
        obtain ⟨f0, f1, f2, f3, f4, f5, f6⟩ := seven_frozen Mv.out
        have u5 : wv.cell? ⟨w4.heap.size, 5, none⟩ = some (.int .i64 n1) := by rw [Kv.out.cell 5]; show some (Value.int .i64 (U.length : Int)) = _; rw [HUL.out]
        have HSL := fun W => run_pt_slice ⟨w4.heap.size, 0, none⟩ n1 H5.out.2 W
        have lxw : Hid (w.heap.size + 2 < wv.heap.size ∧ w4.heap.size < wv.heap.size) := Lib.hid ⟨Mv.out.lt, Kv.out.lt⟩
        clear kZ y0 y1 p0 p1 p2 p3 p4 p5 x0 x1
        go_wp2
        first | rw [← hwv] | skip
        clear hwv
        have NV := Lib.hid (NCU.out wv.drew w4.heap.size 127 ⟨Bv.os, Bv.tape, Bv.output, Bv.size, Bv.block⟩ Kv.out)
        have HBV := Lib.hid hbv
        clear hbv Bv b4 hb4 bwv B4
        go_region_law (first
          | (go_simp; go_at_call 103; refine (NV.out).mono ?_; rintro e w8 ⟨rfl, b8⟩
             have b8' : Below wv.heap.size wv w8 := ⟨b8.os, b8.tape, b8.output, b8.size, b8.block⟩
             have M8 := Lib.hid (Mv.out.below b8' lxw.out.1)
             obtain ⟨s0, s1, s2, s3, s4, s5, s6⟩ := ws_cells M8.out
             have P8 := Lib.hid (Pv.out.below b8' Pv.out.lt)
             have B8 := Lib.hid (HBV.out.trans (b8'.mono lxv)))
          | (go_simp; go_at_call 70; refine (WA.out _).mono ?_; rintro e w9 ⟨rfl, b9⟩
             have M9 := Lib.hid (M8.out.below b9 M8.out.lt)
             obtain ⟨c0, c1, c2, c3, c4, c5, c6⟩ := ws_cells M9.out
             obtain ⟨g0, g1, g2, g3, g4, g5, g6⟩ := seven_frozen M9.out
             have P9 := Lib.hid (P8.out.below b9 P8.out.lt)
             have B9 := Lib.hid (B8.out.trans (b9.mono (Nat.le_of_lt M8.out.lt)))))
        all_goals
          go_wp2
          go_roundg (n2 - (k + 1))
          case measure => omega
          case rel =>
            refine ⟨k + 1, by omega, by go_num, Lib.hid ?_, Lib.hid ((seven_far (by have := L23.out; omega)).trans P9.out), ?_⟩
            · rw [NX.out]
              exact seven_set M9.out
            · exact ((((((B9.out.setCell (by show w.heap.size + 2 ≤ w.heap.size + 1 + 1; omega) _).setCell (by show w.heap.size + 2 ≤ w.heap.size + 1 + 1; omega) _).setCell (by show w.heap.size + 2 ≤ w.heap.size + 1 + 1; omega) _).setCell (by show w.heap.size + 2 ≤ w.heap.size + 1 + 1; omega) _).setCell (by show w.heap.size + 2 ≤ w.heap.size + 1 + 1; omega) _).setCell (by show w.heap.size + 2 ≤ w.heap.size + 1 + 1; omega) _).setCell (by show w.heap.size + 2 ≤ w.heap.size + 1 + 1; omega) _
    · obtain rfl : k = n2 := by omega
      have Z := hm.out
      rw [← E.out] at Z
      obtain ⟨q0, q1, q2, q3, q4, q5, q6⟩ := ws_cells Z
      obtain ⟨y0, y1, y2, y3, y4, y5, y6⟩ := seven_cells kZ
      obtain ⟨f0, f1, f2, f3, f4, f5, f6⟩ := seven_frozen kZ
      clear kZ Z
      go_wp2_with fail
      refine bodyPost_ret (v := wsV F) (by simp [results, Tryz.results98, go_sem, y0, y1, y2, y3, y4, y5, y6, wsV]) rfl ⟨rfl, ?_⟩
      exact ((((((B.setCell (by show w.heap.size ≤ w.heap.size + 1; omega) _).setCell (by show w.heap.size ≤ w.heap.size + 1; omega) _).setCell (by show w.heap.size ≤ w.heap.size + 1; omega) _).setCell (by show w.heap.size ≤ w.heap.size + 1; omega) _).setCell (by show w.heap.size ≤ w.heap.size + 1; omega) _).setCell (by show w.heap.size ≤ w.heap.size + 1; omega) _).setCell (by show w.heap.size ≤ w.heap.size + 1; omega) _
end Go.Proofs.YtfgjogmgcamfdaaGreatDoor
namespace Go.Proofs.YtfgjogmgcamfdaaGreatDoor
open Go.RowKit

/-- The numbers behind the first k numbers of a list. -/
def unP (s : Sy) (l : List Int) : Nat → Nat → Bool
  | 0 => fun _ => false
  | k + 1 => gEither (unP s l k) (nxP s (stL s.vars (ix l k)) s.rules.length)
theorem unP_iff {s : Sy} {l : List Int} {x : Nat} : ∀ {k : Nat}, unP s l k x = true ↔ ∃ i, i < k ∧ nxP s (stL s.vars (ix l i)) s.rules.length x = true
  | 0 => by simp [unP]
  | k + 1 => by
    show (unP s l k x || _) = true ↔ _
    rw [Bool.or_eq_true, unP_iff]
    constructor
    · rintro (⟨i, a, b⟩ | h)
      · exact ⟨i, by omega, b⟩
      · exact ⟨k, by omega, h⟩
    · rintro ⟨i, a, b⟩
      by_cases e : i = k
      · subst e; exact .inr b
      · exact .inl ⟨i, by omega, b⟩
theorem mem_ix {l : List Int} {x : Nat} : memP l x = true ↔ ∃ i, i < l.length ∧ ix l i = x := by
  unfold memP
  rw [decide_eq_true_eq]
  constructor
  · intro h
    obtain ⟨i, hi, e⟩ := List.getElem_of_mem h
    exact ⟨i, hi, by rw [ix_lt hi, e]⟩
  · rintro ⟨i, hi, e⟩
    rw [← e, ix_lt hi]
    exact List.getElem_mem hi
theorem nxP_lt {s : Sy} {st : List Int} {k x : Nat} (ok : SysOk s) (h : nxP s st k x = true) : (x : Int) < sizeB s := by
  obtain ⟨r, _, b, c⟩ := nxP_iff.1 h
  have := num_lt ok (use_has' b)
  omega
theorem un_beh {s : Sy} {l : List Int} {z : Nat} (h : setB s l = true) (hz : (z : Int) = sizeB s) (x : Nat) : unP s l l.length x = behP s (memP l) z x := by
  unfold setB at h
  rw [Bool.and_eq_true] at h
  apply bool_iff
  unfold behP
  rw [unP_iff, some_iff]
  constructor
  · rintro ⟨i, hi, hx⟩
    have hr := sets_range h.2 i hi
    obtain ⟨n, hn⟩ : ∃ n : Nat, ix l i = n := ⟨(ix l i).toNat, by omega⟩
    refine ⟨n, by omega, ?_⟩
    rw [Bool.and_eq_true]
    exact ⟨mem_ix.2 ⟨i, hi, hn⟩, by rw [← hn]; exact hx⟩
  · rintro ⟨n, hn, hx⟩
    rw [Bool.and_eq_true] at hx
    obtain ⟨i, hi, e⟩ := mem_ix.1 hx.1
    exact ⟨i, hi, by rw [e]; exact hx.2⟩
theorem un_pick {s : Sy} {l : List Int} {z : Nat} (h : setB s l = true) (hz : (z : Int) = sizeB s) (hz4 : z ≤ 400) : pick (unP s l l.length) 448 = pick (behP s (memP l) z) z := by
  have h' := h
  unfold setB at h'
  rw [Bool.and_eq_true] at h'
  have ok := sysOk_of h'.1
  rw [pick_gap (n := z) (m := 448) (by omega) fun x a b => ?_]
  · exact pick_congr fun x _ => un_beh h hz x
  · cases q : unP s l l.length x
    · rfl
    · obtain ⟨i, _, hx⟩ := unP_iff.1 q
      have := nxP_lt ok hx
      omega

/-- Whether seven words are 0. -/
def emptyB (R : Nat → Bool) : Bool := wd R 0 == 0 && (wd R 1 == 0 && (wd R 2 == 0 && (wd R 3 == 0 && (wd R 4 == 0 && (wd R 5 == 0 && wd R 6 == 0)))))
theorem u64_under : Tryz.prog.underlying 59 = some (.int .u64) := by kernel_rfl
theorem int_beq (a : Nat) : ((a : Int) == 0) = (a == 0) := by
  cases h : (a == 0)
  · simp at h ⊢; omega
  · simp at h ⊢; omega
theorem eq_step {xs ys : Array Value} {i n : Nat} {is : List Nat} {a b : Int} {r : Bool} {W : World} (p1 : (part 59 xs (i * n)).run Tryz.prog W = .ok (.int .u64 a) W) (p2 : (part 59 ys (i * n)).run Tryz.prog W = .ok (.int .u64 b) W)
    (h : (Op.eqItems 9999 59 n xs ys is).run Tryz.prog W = .ok r W) : (Op.eqItems 9999 59 n xs ys (i :: is)).run Tryz.prog W = .ok ((a == b) && r) W := by
  have hd : (Op.equalIn 9999 59 (.int .u64 a) (.int .u64 b)).run Tryz.prog W = .ok (a == b) W := run_equalIn_int W 9998 _ .u64 .u64 a b u64_under
  simp only [Op.eqItems, Sem.run_bind, p1, p2, hd, Result.andThen_ok]
  cases (a == b)
  · simp
  · simpa using h
theorem run_ws_empty (R : Nat → Bool) (W : World) : (Op.equalIn 10000 61 (.agg #[.int .u64 (wd R 0), .int .u64 (wd R 1), .int .u64 (wd R 2), .int .u64 (wd R 3), .int .u64 (wd R 4), .int .u64 (wd R 5), .int .u64 (wd R 6)])
    (.agg #[.int .u64 0, .int .u64 0, .int .u64 0, .int .u64 0, .int .u64 0, .int .u64 0, .int .u64 0])).run Tryz.prog W = .ok (emptyB R) W := by
  have e4 : Tryz.prog.cellsOf 59 = 1 := by kernel_rfl
  rw [show (10000 : Nat) = 9999 + 1 from rfl, run_equalIn_array W 9999 _ _ ws_arr u64_row.1, e4]
  rw [show List.range 7 = [0, 1, 2, 3, 4, 5, 6] from rfl]
  have e : emptyB R = (((wd R 0 : Int) == 0) && (((wd R 1 : Int) == 0) && (((wd R 2 : Int) == 0) && (((wd R 3 : Int) == 0) && (((wd R 4 : Int) == 0) && (((wd R 5 : Int) == 0) && (((wd R 6 : Int) == 0) && true))))))) := by
    unfold emptyB
    rw [int_beq, int_beq, int_beq, int_beq, int_beq, int_beq, int_beq, Bool.and_true]
  rw [e]
  refine eq_step ?_ ?_ (eq_step ?_ ?_ (eq_step ?_ ?_ (eq_step ?_ ?_ (eq_step ?_ ?_ (eq_step ?_ ?_ (eq_step ?_ ?_ ?_))))))
  all_goals simp [part, go_sem, Op.eqItems]

set_option maxRecDepth 100000 in
theorem isEmpty_any (R : Nat → Bool) (w : World) : Calls Tryz.prog 52 #[wsV R] w (GivesBool w (emptyB R)) := by
  have HE := fun W => run_ws_empty R W
  unfold wsV
  go_enter Tryz.func52, Tryz.ntmps52
  go_wp2_with (rw [HE])
  go_ret
  exact ⟨rfl, below_alloc _ _⟩
end Go.Proofs.YtfgjogmgcamfdaaGreatDoor
