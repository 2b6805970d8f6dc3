/- The numbers ahead of those of a set, of the program. -/
import Derived.Test.YtmlhnnkdecabpaaDoorNnI
namespace Go.Proofs.YtmlhnnkdecabpaaDoor
open Go.RowKit

theorem empty_iff {R : Nat → Bool} : emptyB R = true ↔ ∀ x, x < 448 → R x = false := by
  have hw : emptyB R = true ↔ ∀ i, i < 7 → wd R i = 0 := by
    unfold emptyB
    simp only [Bool.and_eq_true, beq_iff_eq]
    constructor
    · rintro ⟨a, b, c, d, e, f, g⟩ i hi
      match i, hi with
      | 0, _ => exact a
      | 1, _ => exact b
      | 2, _ => exact c
      | 3, _ => exact d
      | 4, _ => exact e
      | 5, _ => exact f
      | 6, _ => exact g
    · intro h
      exact ⟨h 0 (by omega), h 1 (by omega), h 2 (by omega), h 3 (by omega), h 4 (by omega), h 5 (by omega), h 6 (by omega)⟩
  rw [hw]
  constructor
  · intro h x hx
    have := wd_zero (h (x / 64) (by omega)) (j := x % 64) (Nat.mod_lt _ (by omega))
    rwa [show 64 * (x / 64) + x % 64 = x by omega] at this
  · intro h i hi
    rw [← wd_none i]
    exact wd_congr fun j hj => h _ (by omega)
/-- Whether a state comes ahead of one of a list. -/
def paP (s : Sy) (l : List Int) : Nat → Bool := fun n => !emptyB (gBoth (nxP s (stL s.vars n) s.rules.length) (memP l))
theorem pa_ahe {s : Sy} {l : List Int} {z n : Nat} (h : setB s l = true) (hz : (z : Int) = sizeB s) (hz4 : z ≤ 400) : paP s l n = aheP s (memP l) z n := by
  unfold setB at h
  rw [Bool.and_eq_true] at h
  have ok := sysOk_of h.1
  apply bool_iff
  unfold paP aheP
  rw [some_iff]
  cases q : emptyB (gBoth (nxP s (stL s.vars n) s.rules.length) (memP l))
  · simp only [Bool.not_false, true_iff]
    by_cases hex : ∃ x, x < 448 ∧ gBoth (nxP s (stL s.vars n) s.rules.length) (memP l) x = true
    · obtain ⟨x, _, hx⟩ := hex
      unfold gBoth at hx
      rw [Bool.and_eq_true] at hx
      have := nxP_lt ok hx.1
      exact ⟨x, by omega, by rw [hx.1, hx.2]; rfl⟩
    · have : emptyB (gBoth (nxP s (stL s.vars n) s.rules.length) (memP l)) = true := empty_iff.2 fun x hx => by
        cases hg : gBoth (nxP s (stL s.vars n) s.rules.length) (memP l) x
        · rfl
        · exact absurd ⟨x, hx, hg⟩ hex
      rw [q] at this; cases this
  · simp only [Bool.not_true, Bool.false_eq_true, false_iff]
    rintro ⟨x, hx, hx2⟩
    rw [Bool.and_eq_true] at hx2
    have := empty_iff.1 q x (by omega)
    unfold gBoth at this
    rw [hx2.1, hx2.2] at this
    cases this

set_option maxRecDepth 100000 in
set_option maxHeartbeats 8000000 in
theorem pastNumbers_impl (s : Sy) (l : List Int) (A1 : Option Addr) (n1 c1 : Nat) (A2 : Option Addr) (n2 c2 : Nat) (A3 : Option Addr) (n3 c3 : Nat) (w : World) (h1 : Mem.rd w w.heap.size [.slice A1 n1 c1] s.vars) (h2 : Mem.rd w w.heap.size [.slice A2 n2 c2] s.rules) (h3 : Mem.rd w w.heap.size [.slice A3 n3 c3] l) (hT : DoorAt w) :
    Calls Tryd.prog 26 #[.agg #[.slice A1 n1 c1, .slice A2 n2 c2], .slice A3 n3 c3] w (GivesL w (pastNumB s l)) := by
  have BX := Lib.hid (sy_box (w := w) (v1 := .slice A1 n1 c1) (v2 := .slice A2 n2 c2))
  have SV := Lib.hid (fun o => setValid_impl s l A1 n1 c1 A2 n2 c2 A3 n3 c3 (w.alloc o) (Mem.rd_on_alloc h1 o) (Mem.rd_on_alloc h2 o) (Mem.rd_on_alloc h3 o))
  obtain ⟨F, hF⟩ : ∃ F, F = pastNumB s l := ⟨_, rfl⟩
  rw [← hF]
  cases hz : setB s l
  · have E : Hid (F = []) := Lib.hid (by rw [hF]; unfold pastNumB; rw [hz]; rfl)
    have HZ := Lib.hid hz; clear hz hF
    go_enter Tryd.func26, Tryd.ntmps26
    go_wp2_with fail
    refine (SV.out _).mono ?_
    rintro e w2 ⟨rfl, b2⟩
    rw [HZ.out]
    go_wp2
    go_ret
    rw [E.out]
    exact ⟨none, 0, 0, [], rfl, own_none _, List.nodup_nil, by simp, below_call b2⟩
  · have hz' := hz
    unfold setB at hz'
    rw [Bool.and_eq_true] at hz'
    have ok := sysOk_of hz'.1
    have hbd := sizeB_bd hz'.1
    obtain ⟨z, hzz⟩ : ∃ z : Nat, (z : Int) = sizeB s := ⟨(sizeB s).toNat, by omega⟩
    have hz4 : z ≤ 400 := by omega
    have E : Hid (F = pick (cutP (paP s l) z) 448) := Lib.hid (by
      rw [hF, cut_pick (by omega)]; unfold pastNumB; rw [hz, ← hzz]
      exact (pick_congr fun x _ => pa_ahe hz hzz hz4).symm)
    have SO := Lib.hid (fun W (B : Below w.heap.size w W) => setOf_any l A3 n3 c3 W (Mem.rd_on h3 B) fun k hk => by have := sets_range hz'.2 k hk; omega)
    have SC := Lib.hid (fun W (B : Below w.heap.size w W) => size_any s A1 n1 c1 A2 n2 c2 W (Mem.rd_on h1 B) (by have := rd_len h1; have := ok.hi; omega) (allTo_true.2 fun k hk => ok.vars k (by have := rd_len h1; omega)))
    rw [← hzz] at SC
    have NC := Lib.hid (fun (k : Nat) (hk : k < z) W (B : Below w.heap.size w W) => next_any s k A1 n1 c1 A2 n2 c2 W (Mem.rd_on h1 B) (Mem.rd_on h2 B) ok (by omega))
    have HP := Lib.hid (fun k => show paP s l k = !emptyB (gBoth (nxP s (stL s.vars k) s.rules.length) (memP l)) from rfl)
    generalize paP s l = Q at E HP
    generalize memP l = M at SO HP
    have WC := Lib.hid (fun k (hk : k < z) W => with_any (cutP Q k) k (by omega) W)
    have U0 : Hid (wsC (cutP Q 0) = [.int .u64 0, .int .u64 0, .int .u64 0, .int .u64 0, .int .u64 0, .int .u64 0, .int .u64 0]) := Lib.hid (by rw [cut_zero]; exact wsC_zero)
    have HZ := Lib.hid hz; have HT := Lib.hid hT; have HZ4 := Lib.hid hz4; clear hz hF hz' ok hbd hzz hT hz4
    unfold wsV at SO
    go_enter Tryd.func26, Tryd.ntmps26
    go_wp2_with fail
    refine (SV.out _).mono ?_
    rintro e w2 ⟨rfl, b2⟩
    rw [HZ.out]
    have lw2 : w.heap.size < w2.heap.size := by have := b2.size; rw [World.size_alloc] at this; exact this
    have Z2 := Blk.new w2 #[.int .u64 0, .int .u64 0, .int .u64 0, .int .u64 0, .int .u64 0, .int .u64 0, .int .u64 0] 64
    have b2a := below_alloc w2 (.cells #[.int .u64 0, .int .u64 0, .int .u64 0, .int .u64 0, .int .u64 0, .int .u64 0, .int .u64 0] 64)
    have hb2 := b2.trans (b2a.mono b2.size)
    obtain ⟨B2, _, _⟩ := BX.out _ hb2
    have HZ2 := Lib.hid Z2
    have HB2 := Lib.hid b2
    have HB2a := Lib.hid b2a
    have LW2 := Lib.hid lw2
    clear Z2 b2a hb2 lw2
    go_wp2_with fail
    refine (SO.out _ B2).mono ?_
    rintro e w4 ⟨rfl, b4⟩
    have M4 := Lib.hid (HZ2.out.below b4 HZ2.out.lt)
    have b24 := HB2a.out.trans (b4.mono HB2a.out.size)
    have l24 : w2.heap.size < w4.heap.size := M4.out.lt
    have S4 := Lib.hid (Blk.new w4 (wsC M).toArray 64)
    have b24a := b24.trans ((below_alloc w4 (.cells (wsC M).toArray 64)).mono b24.size)
    have M4a := Lib.hid (M4.out.alloc (.cells (wsC M).toArray 64))
    have hb4a := HB2.out.trans (b24a.mono HB2.out.size)
    obtain ⟨B4a, x0, x1⟩ := BX.out _ hb4a
    have HB24 := Lib.hid b24a
    have LW4 := Lib.hid l24
    have SCK := Lib.hid (SC.out _ B4a)
    unfold wsC at SCK S4 HB24 M4a x0 x1
    clear b24 b24a hb4a B4a B2 b4 l24
    go_wp2_with fail
    refine (SCK.out).mono ?_
    rintro e w5 ⟨rfl, b5⟩
    have M5 : Hid (Blk w5 w2.heap.size 64 (wsC (cutP Q 0))) := Lib.hid (by rw [U0.out]; exact M4a.out.below b5 M4a.out.lt)
    have S5 : Hid (Blk w5 w4.heap.size 64 (wsC M)) := Lib.hid (S4.out.below b5 S4.out.lt)
    have B5 := Lib.hid (HB24.out.trans (b5.mono HB24.out.size))
    clear x0 x1 b5
    go_wp2
    go_loopg [7, 16] z (fun m i7 i wr => ∃ k : Nat, k + m = z ∧ i = .int .i64 k ∧ Hid (Blk wr w2.heap.size 64 (wsC (cutP Q k))) ∧ Hid (Blk wr w4.heap.size 64 (wsC M)) ∧ Below w2.heap.size w2 wr)
    case atStart => exact ⟨0, by omega, rfl, M5, S5, B5.out⟩
    case round =>
      clear M5 S5 B5 HB24 S4 M4a M4 HZ2 HB2a SCK
      obtain ⟨k, hk, rfl, hm, hs, hq⟩ := hrel
      have hb := HB2.out.trans (hq.mono HB2.out.size)
      obtain ⟨B, x0, x1⟩ := BX.out _ hb
      have hz4 : z ≤ 400 := HZ4.out
      by_cases hlt : k < z
      · have NK := Lib.hid (NC.out k hlt wr.drew ⟨B.os, B.tape, B.output, B.size, B.block⟩)
        have HPk := HP.out k
        have WA := Lib.hid (WC.out k hlt)
        generalize nxP s (stL s.vars (k : Int)) s.rules.length = R at NK HPk
        have BA := Lib.hid (fun W => show Calls Tryd.prog 63 #[wsV R, wsV M] W (GivesV W (wsV (gBoth R M))) from both_any R M W)
        have EA := Lib.hid (fun W => isEmpty_any (gBoth R M) W)
        have hcy := cut_yes (P := Q) (k := k)
        have hcn := cut_no (P := Q) (k := k)
        generalize gBoth R M = G at HPk BA EA
        obtain ⟨t0, t1, t2, t3, t4, t5, t6⟩ := ws_cells hs.out
        have HQ := Lib.hid hq
        have LM : Hid (w2.heap.size < wr.heap.size ∧ w4.heap.size < wr.heap.size) := Lib.hid ⟨hm.out.lt, hs.out.lt⟩
        unfold wsV at NK BA EA WA
        cases he : emptyB G
        · have NX := Lib.hid (hcy (by rw [HPk, he]; rfl))
          rw [he] at EA
          generalize cutP Q k = C at hm WA NX
          clear hcy hcn HPk he hb hq B
          go_wp2
          go_region_law (first
            | (go_simp; go_at_call 59; refine (NK.out).mono ?_; rintro e w8 ⟨rfl, b8⟩
               have b8' : Below wr.heap.size wr w8 := ⟨b8.os, b8.tape, b8.output, b8.size, b8.block⟩
               have S8 := Lib.hid (hs.out.below b8' LM.out.2)
               obtain ⟨s0, s1, s2, s3, s4, s5, s6⟩ := ws_cells S8.out)
            | (go_simp; go_at_call 63; refine (BA.out _).mono ?_; rintro e w9 ⟨rfl, b9⟩
               have b9' := b8'.trans (b9.mono b8'.size))
            | (go_simp; go_at_call 64; refine (EA.out _).mono ?_; rintro e wa ⟨rfl, ba⟩
               have ba' := b9'.trans (ba.mono b9'.size)))
          all_goals
            have Ma := Lib.hid (hm.out.below ba' LM.out.1)
            have Sa := Lib.hid (hs.out.below ba' LM.out.2)
            have Ba := Lib.hid (HQ.out.trans (ba'.mono (Nat.le_of_lt LM.out.1)))
            obtain ⟨q0, q1, q2, q3, q4, q5, q6⟩ := ws_cells Ma.out
            go_wp2_with fail
            refine (WA.out _).mono ?_
            rintro e wb ⟨rfl, bb⟩
            have Mb := Lib.hid (Ma.out.below bb Ma.out.lt)
            have Sb := Lib.hid (Sa.out.below bb Sa.out.lt)
            have Bb := Lib.hid (Ba.out.trans (bb.mono (Nat.le_of_lt Ma.out.lt)))
            obtain ⟨c0, c1, c2, c3, c4, c5, c6⟩ := ws_cells Mb.out
            obtain ⟨g0, g1, g2, g3, g4, g5, g6⟩ := seven_frozen Mb.out
            clear q0 q1 q2 q3 q4 q5 q6
            go_wp2
            go_roundg (z - (k + 1))
            case measure => omega
            case rel =>
              refine ⟨k + 1, by omega, by go_num, Lib.hid ?_, Lib.hid ((seven_far (by have := LW4.out; omega)).trans Sb.out), ?_⟩
              · rw [← NX.out]
                exact seven_set Mb.out
              · exact ((((((Bb.out.setCell (Nat.le_refl _) _).setCell (Nat.le_refl _) _).setCell (Nat.le_refl _) _).setCell (Nat.le_refl _) _).setCell (Nat.le_refl _) _).setCell (Nat.le_refl _) _).setCell (Nat.le_refl _) _
        · have NX := Lib.hid (hcn (by rw [HPk, he]; rfl))
          rw [he] at EA
          clear hcy hcn HPk he hb hq B WA
          go_wp2
          go_region_law (first
            | (go_simp; go_at_call 59; refine (NK.out).mono ?_; rintro e w8 ⟨rfl, b8⟩
               have b8' : Below wr.heap.size wr w8 := ⟨b8.os, b8.tape, b8.output, b8.size, b8.block⟩
               have S8 := Lib.hid (hs.out.below b8' LM.out.2)
               obtain ⟨s0, s1, s2, s3, s4, s5, s6⟩ := ws_cells S8.out)
            | (go_simp; go_at_call 63; refine (BA.out _).mono ?_; rintro e w9 ⟨rfl, b9⟩
               have b9' := b8'.trans (b9.mono b8'.size))
            | (go_simp; go_at_call 64; refine (EA.out _).mono ?_; rintro e wa ⟨rfl, ba⟩
               have ba' := b9'.trans (ba.mono b9'.size)))
          all_goals
            have Ma := Lib.hid (hm.out.below ba' LM.out.1)
            have Sa := Lib.hid (hs.out.below ba' LM.out.2)
            have Ba := Lib.hid (HQ.out.trans (ba'.mono (Nat.le_of_lt LM.out.1)))
            go_wp2
            go_roundg (z - (k + 1))
            case measure => omega
            case rel => exact ⟨k + 1, by omega, by go_num, by rw [NX.out]; exact Ma, Sa, Ba.out⟩
      · obtain rfl : k = z := by omega
        obtain ⟨q0, q1, q2, q3, q4, q5, q6⟩ := ws_cells hm.out
        have SL := Lib.hid (setList_any (cutP Q k) wr (HT.out.on B))
        have HL := Lib.hid (pick_len (cutP Q k) 448)
        generalize cutP Q k = R at *
        unfold wsV at SL
        have HBB := Lib.hid B
        clear hb hq
        go_wp2_with fail
        refine (SL.out).mono ?_
        rintro e w5 g5
        obtain ⟨v5, rfl, o5, b5⟩ := g5
        go_wp2
        go_ret
        rw [E.out]
        exact givesL_of ⟨v5, rfl, own_lower o5 HBB.out.size, HBB.out.trans (b5.mono HBB.out.size)⟩ (by have := HL.out; unfold maxLen; omega)
end Go.Proofs.YtmlhnnkdecabpaaDoor
