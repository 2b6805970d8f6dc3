/- In which states a system can be stuck, of the program. -/
import Derived.Test.YtfgjogmgcamfdaaGreatDoorSer
namespace Go.Proofs.YtfgjogmgcamfdaaGreatDoor
open Go.RowKit

/-- The states among the first k of the queue behind which none comes. -/
def stkP (T : Nat → Nat → Bool) (Q : List Int) (k : Nat) : Nat → Bool := fun x => memP (Q.take k) x && emptyB (T x)
theorem stk_zero (T : Nat → Nat → Bool) (Q : List Int) : stkP T Q 0 = fun _ => false := by funext x; simp [stkP, memP]
theorem stk_yes {T : Nat → Nat → Bool} {Q : List Int} {k q : Nat} (hk : k < Q.length) (hq : ix Q k = q) (h : emptyB (T q) = true) : addP (stkP T Q k) q = stkP T Q (k + 1) := by
  funext x
  unfold stkP
  rw [take_el hk, show [el Q k] = [(q : Int)] by rw [← hq]; rfl, mem_snoc]
  unfold addP
  by_cases e : x = q
  · subst e; rw [decide_eq_true rfl, h]; simp
  · rw [decide_eq_false e]; simp
theorem stk_no {T : Nat → Nat → Bool} {Q : List Int} {k q : Nat} (hk : k < Q.length) (hq : ix Q k = q) (h : emptyB (T q) = false) : stkP T Q k = stkP T Q (k + 1) := by
  funext x
  unfold stkP
  rw [take_el hk, show [el Q k] = [(q : Int)] by rw [← hq]; rfl, mem_snoc]
  unfold addP
  by_cases e : x = q
  · subst e; rw [h]; simp
  · rw [decide_eq_false e]; simp
theorem empty_next {s : Sy} (ok : SysOk s) (st : List Int) (m : Nat) : emptyB (nxP s st m) = decide ((nextL s st m).length = 0) := by
  apply bool_iff
  rw [empty_iff, decide_eq_true_eq, List.length_eq_zero_iff, List.eq_nil_iff_forall_not_mem]
  constructor
  · intro h y hy
    obtain ⟨r, hr, hu, _⟩ := nextL_mem.1 hy
    have hn : nxP s st m (numL s (useL s st r)).toNat = true := nxP_iff.2 ⟨r, hr, hu, rfl⟩
    have hb := nxP_lt ok hn
    have b2 := ok.size
    rw [h _ (by omega)] at hn
    cases hn
  · intro h x _
    cases q : nxP s st m x
    · rfl
    · obtain ⟨r, hr, hu, _⟩ := nxP_iff.1 q
      exact absurd (nextL_mem.2 ⟨r, hr, hu, rfl⟩) (h _)
theorem stuck_eq {s : Sy} {z : Nat} {x : Sst} (hz : sysB s = true) (hzz : (z : Int) = sizeB s) (iv : Inv (stepT s z) (oneP (firstN s)) z x x.Q.length) : pick (stkP (stepT s z) x.Q x.Q.length) 448 = stuckB s := by
  have ok := sysOk_of hz
  have hb := sizeB_bd hz
  have e : ∀ n, stkP (stepT s z) x.Q x.Q.length n = ((decide (n < z) && decide (0 ≤ dst (stepT s z) (oneP (firstN s)) z z n)) && emptyB (stepT s z n)) := fun n => by
    unfold stkP
    rw [List.take_of_length_le (Nat.le_refl _), queue_mem iv]
  rw [pick_gap (n := z) (by omega) fun n a _ => by rw [e, decide_eq_false (by omega), Bool.false_and, Bool.false_and]]
  unfold stuckB
  rw [hz, if_pos rfl, show (sizeB s).toNat = z by omega]
  refine pick_congr fun n hn => ?_
  rw [e, decide_eq_true hn, Bool.true_and, dst_tab s _ z hn]
  unfold stepT
  rw [if_pos hn, empty_next ok]
  rfl

set_option maxRecDepth 100000 in
set_option maxHeartbeats 8000000 in
theorem stuckStates_impl (s : Sy) (A1 : Option Addr) (n1 c1 : Nat) (A2 : Option Addr) (n2 c2 : Nat) (w : World) (h1 : Mem.rd w w.heap.size [.slice A1 n1 c1] s.vars) (h2 : Mem.rd w w.heap.size [.slice A2 n2 c2] s.rules) (hT : DoorAt w) :
    Calls Tryz.prog 28 #[.agg #[.slice A1 n1 c1, .slice A2 n2 c2]] w (GivesL w (stuckB s)) := by
  have BX := Lib.hid (sy_box (w := w) (v1 := .slice A1 n1 c1) (v2 := .slice A2 n2 c2))
  have SV := Lib.hid (fun o => sysValid_impl s A1 n1 c1 A2 n2 c2 (w.alloc o) (Mem.rd_on_alloc h1 o) (Mem.rd_on_alloc h2 o))
  have HL := Lib.hid (stuckB_len s)
  cases hz : sysB s
  · have E : Hid (stuckB s = []) := Lib.hid (by unfold stuckB; rw [hz]; rfl)
    have HZ := Lib.hid hz; clear hz
    go_enter Tryz.func28, Tryz.ntmps28
    go_wp2_with fail
    refine (SV.out _).mono ?_
    rintro e w2 ⟨rfl, b2⟩
    rw [HZ.out]
    go_wp2
    go_ret
    rw [E.out]
    exact ⟨none, 0, 0, [], rfl, own_none _, List.nodup_nil, by simp, below_call b2⟩
  · have ok := sysOk_of hz
    have hbd := sizeB_bd hz
    obtain ⟨z, hzz⟩ : ∃ z : Nat, (z : Int) = sizeB s := ⟨(sizeB s).toNat, by omega⟩
    have hz4 : z ≤ 400 := by omega
    have TC := Lib.hid (fun W (B : Below w.heap.size w W) => steps_any s z A1 n1 c1 A2 n2 c2 W (Mem.rd_on h1 B) (Mem.rd_on h2 B) ok hzz hz4)
    have FC := Lib.hid (fun W (B : Below w.heap.size w W) => firstAlone_any s A1 n1 c1 A2 n2 c2 W (Mem.rd_on h1 B) (Mem.rd_on h2 B) hz)
    have SC := Lib.hid (fun g W hg hT => searchFrom_any (stepT s z) (oneP (firstN s)) z g W hg hz4 (stepT_lt ok hzz) (fun n h => by rw [oneP_iff] at h; have := (firstN_eq ok).2; omega) hT)
    have QE := Lib.hid (fun x (iv : Inv (stepT s z) (oneP (firstN s)) z x x.Q.length) => stuck_eq hz hzz iv)
    have QI := Lib.hid (fun x (iv : Inv (stepT s z) (oneP (firstN s)) z x x.Q.length) => iv.rng)
    have QS := Lib.hid (fun x (iv : Inv (stepT s z) (oneP (firstN s)) z x x.Q.length) => iv.short)
    have HZ := Lib.hid hz; have HT := Lib.hid hT; have H4 := Lib.hid hz4; clear hz hzz hbd hz4 hT ok
    generalize stuckB s = F at *
    generalize stepT s z = T at *
    generalize oneP (firstN s) = M at *
    unfold wsV at FC SC
    go_enter Tryz.func28, Tryz.ntmps28
    go_wp2_with fail
    refine (SV.out _).mono ?_
    rintro e w2 ⟨rfl, b2⟩
    rw [HZ.out]
    obtain ⟨B2, x0, x1⟩ := BX.out _ b2
    have TK := Lib.hid (TC.out w2 B2)
    have HB2 := Lib.hid b2
    clear B2 b2
    go_wp2_with fail
    refine (TK.out).mono ?_
    rintro e w3 ⟨g3, rfl, m3, l3, b3⟩
    have HB3 := Lib.hid (HB2.out.trans (b3.mono HB2.out.size))
    have HB3a := Lib.hid (HB3.out.trans ((below_alloc w3 (.cells #[.int .u64 0, .int .u64 0, .int .u64 0, .int .u64 0, .int .u64 0, .int .u64 0, .int .u64 0] 61)).mono HB3.out.size))
    obtain ⟨B3, y0, y1⟩ := BX.out _ HB3a.out
    have FK := Lib.hid (FC.out _ B3)
    have M3 := Lib.hid (m3.alloc (.cells #[.int .u64 0, .int .u64 0, .int .u64 0, .int .u64 0, .int .u64 0, .int .u64 0, .int .u64 0] 61))
    have G3 := Lib.hid m3.lt
    have K3 : Hid (Blk (w3.alloc (.cells #[.int .u64 0, .int .u64 0, .int .u64 0, .int .u64 0, .int .u64 0, .int .u64 0, .int .u64 0] 61)) w3.heap.size 61 (wsC (fun _ => false))) := Lib.hid (by
      rw [wsC_zero]
      exact Blk.new w3 #[.int .u64 0, .int .u64 0, .int .u64 0, .int .u64 0, .int .u64 0, .int .u64 0, .int .u64 0] 61)
    clear m3 l3 b3 x0 x1 B3
    go_wp2_with fail
    refine (FK.out).mono ?_
    rintro e w5 ⟨rfl, b5⟩
    have HB5 := Lib.hid (HB3a.out.trans (b5.mono HB3a.out.size))
    have M5 := Lib.hid (M3.out.below b5 M3.out.lt)
    have K5 := Lib.hid (K3.out.below b5 K3.out.lt)
    have SK := Lib.hid (SC.out g3 w5 M5.out (HT.out.on (BX.out _ HB5.out).1))
    have B35 := Lib.hid ((below_alloc w3 (.cells #[.int .u64 0, .int .u64 0, .int .u64 0, .int .u64 0, .int .u64 0, .int .u64 0, .int .u64 0] 61)).trans (b5.mono (by rw [World.size_alloc]; omega)))
    have L35 : Hid (w3.heap.size < w5.heap.size) := Lib.hid (K5.out.lt)
    clear b5 y0 y1
    go_wp2_with fail
    refine (SK.out).mono ?_
    rintro e w6 ⟨x, iv, h6, A6, c6, f6, rfl, k6, r6, l6, b6⟩
    have HB6 := Lib.hid (HB5.out.trans (b6.mono HB5.out.size))
    have M6 := Lib.hid (M5.out.below b6 M5.out.lt)
    have K6 : Hid (Blk w6 w3.heap.size 61 (wsC (stkP T x.Q 0))) := Lib.hid (by rw [stk_zero]; exact K5.out.below b6 K5.out.lt)
    have E := Lib.hid (QE.out x iv)
    have RG := Lib.hid (QI.out x iv)
    have hs := QS.out x iv
    obtain ⟨Q, hQ⟩ : ∃ Q, Q = x.Q := ⟨_, rfl⟩
    obtain ⟨n, hn⟩ : ∃ n, n = x.Q.length := ⟨_, rfl⟩
    have c800 := (k6.cell 800).trans (srcC_q _ _ _)
    rw [← hn] at hs c800 r6
    rw [← hn, ← hQ] at E
    rw [← hQ] at RG hn r6 K6
    have HN := Lib.hid hn
    have R6 := Lib.hid r6
    have HF6 : Hid (∀ b ∈ f6, b ≠ w3.heap.size) := Lib.hid fun b hb => by have := (R6.out.lt b hb).1; have := L35.out; omega
    have n4 : n ≤ 400 := by have := H4.out; omega
    have B36 := Lib.hid (B35.out.trans (b6.mono B35.out.size))
    have O6 := Lib.hid (Only.refl [w3.heap.size] w6)
    clear hn hQ k6 r6 l6 b6 iv QE QI QS hs
    go_wp2
    go_loopg [6, 20] n (fun m i6 i wr => ∃ k : Nat, k + m = n ∧ i = .int .i64 k ∧ Hid (Blk wr w3.heap.size 61 (wsC (stkP T Q k))) ∧ Hid (Only [w3.heap.size] w6 wr))
    case atStart => exact ⟨0, by omega, rfl, K6, O6⟩
    case round =>
      clear K6 O6 c800
      obtain ⟨k, hk, rfl, hm, ho⟩ := hrel
      have hI := R6.out.only ho.out (fun b hb hc => by simp at hc; exact HF6.out b hb hc)
      have hM := M6.out.only ho.out (by simp; have := G3.out; omega)
      by_cases hlt : k < n
      · have hkn : (k : Int) < (n : Int) := by omega
        obtain ⟨ad, rfl, hbl, e0⟩ := hI.int hlt
        have r := RG.out k (by rw [← HN.out]; exact hlt)
        obtain ⟨q, hq⟩ : ∃ q : Nat, ix Q k = q := ⟨(ix Q k).toNat, by omega⟩
        have q4 : q < 400 := by have := H4.out; omega
        have q4i : (q : Int) < 400 := by omega
        rw [hq] at e0
        obtain ⟨t0, t1, t2, t3, t4, t5, t6⟩ := tab_cells hM q4
        have SY := Lib.hid (fun (h : emptyB (T q) = true) => stk_yes (T := T) (by rw [← HN.out]; exact hlt : k < Q.length) hq h)
        have SN := Lib.hid (fun (h : emptyB (T q) = false) => stk_no (T := T) (by rw [← HN.out]; exact hlt : k < Q.length) hq h)
        have EK := isEmpty_any (T q) wr
        unfold wsV at EK
        have EK := Lib.hid EK
        obtain ⟨v0, v1, v2, v3, v4, v5, v6⟩ := ws_cells hm.out
        clear r hq hI hM
        go_wp2_with fail
        refine (EK.out).mono ?_
        rintro e w8 ⟨rfl, b8⟩
        have hm8 := hm.out.below b8 hm.out.lt
        have ho8 : Only [w3.heap.size] w6 w8 := ho.out.trans (Only.of_below b8 _)
        cases hb : emptyB (T q)
        · have NX := Lib.hid (SN.out hb)
          have HM8 := Lib.hid hm8
          have HO8 := Lib.hid ho8
          clear hb SY SN hm8 ho8 b8
          go_wp2
          go_roundg (n - (k + 1))
          case measure => omega
          case rel => exact ⟨k + 1, by omega, by go_num, by rw [← NX.out]; exact HM8, HO8⟩
        · have NX := Lib.hid (SY.out hb)
          have WA := with_any (stkP T Q k) q (by omega) w8
          rw [NX.out] at WA
          obtain ⟨P1, hP1⟩ : ∃ P1, P1 = stkP T Q (k + 1) := ⟨_, rfl⟩
          rw [← hP1] at WA
          have HP1 := Lib.hid hP1
          clear hP1
          generalize stkP T Q k = P0 at *
          unfold wsV at WA
          have WA := Lib.hid WA
          obtain ⟨u0, u1, u2, u3, u4, u5, u6⟩ := ws_cells hm8
          have HM8 := Lib.hid hm8
          have HO8 := Lib.hid ho8
          clear hb SY SN hm8 ho8 b8 v0 v1 v2 v3 v4 v5 v6 t0 t1 t2 t3 t4 t5 t6
          go_wp2_with fail
          refine (WA.out).mono ?_
          rintro e w9 ⟨rfl, b9⟩
          have M9 := HM8.out.below b9 HM8.out.lt
          obtain ⟨p0, p1, p2, p3, p4, p5, p6⟩ := ws_cells M9
          obtain ⟨g0, g1, g2, g3', g4, g5, g6⟩ := seven_frozen M9
          have O9 := Lib.hid (HO8.out.trans (Only.of_below b9 _))
          have HM9 := Lib.hid M9
          clear M9 b9
          go_wp2
          go_roundg (n - (k + 1))
          case measure => omega
          case rel =>
            refine ⟨k + 1, by omega, by go_num, Lib.hid ?_, Lib.hid (O9.out.trans seven_only)⟩
            rw [← HP1.out]
            exact seven_ws HM9.out
      · have ek : k = n := by omega
        have nk : ¬ (k : Int) < (n : Int) := by omega
        have E9 : Hid (Blk wr w3.heap.size 61 (wsC (stkP T Q Q.length))) := Lib.hid (by rw [← HN.out, ← ek]; exact hm.out)
        obtain ⟨v0, v1, v2, v3, v4, v5, v6⟩ := ws_cells E9.out
        have bl9 : Below w3.heap.size w3 wr := B36.out.trans (ho.out.below B36.out.size fun b hb => by simp at hb; omega)
        have hb9 := HB3.out.trans (bl9.mono HB3.out.size)
        have LK := setList_any (stkP T Q Q.length) wr (HT.out.on (BX.out _ hb9).1)
        rw [HN.out] at E
        rw [E.out] at LK
        unfold wsV at LK
        have LK := Lib.hid LK
        have HB9 := Lib.hid hb9
        clear hm ek bl9 hb9 hI hM
        go_wp2_with fail
        refine (LK.out).mono ?_
        rintro e wz ⟨vz, rfl, oz, bz⟩
        have HBz := Lib.hid (HB9.out.trans (bz.mono HB9.out.size))
        have Oz := Lib.hid oz
        clear oz bz
        go_wp2
        go_ret
        exact givesL_of ⟨vz, rfl, own_lower Oz.out (BX.out _ HB9.out).1.size, (BX.out _ HBz.out).1⟩ (by have := HL.out; unfold maxLen; omega)
end Go.Proofs.YtfgjogmgcamfdaaGreatDoor
