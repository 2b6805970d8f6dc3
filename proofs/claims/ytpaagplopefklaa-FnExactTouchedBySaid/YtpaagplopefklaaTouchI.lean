/- TouchedBy of the program. -/
import Derived.Test.YtpaagplopefklaaUses
import Derived.Test.YtpaagplopefklaaIl
import Derived.Deep.RegionHeld3
namespace Go.Proofs.Ytpaagplopefklaa
open Go.RowKit

theorem touch_sizes {s : Sy} (h : sysB s = true) {k : Nat} (hk : k < s.rules.length) : s.vars.length ≤ 5 ∧ s.rules.length ≤ 8 ∧ (el s.rules k).sets.length ≤ 5 ∧ (el s.rules k).terms.length ≤ 5 := by
  obtain ⟨⟨_, h5, h8⟩, _, hr, _⟩ := sys_ok h
  have := allTo_true.1 hr k hk
  unfold ruleB setsB at this
  simp only [Bool.and_eq_true, decide_eq_true_eq] at this
  obtain ⟨_, h2, h3, _⟩ := this
  have hs : (el s.rules k).sets.length ≤ 5 := by
    rcases Nat.eq_zero_or_pos (el s.rules k).sets.length with e | e
    · omega
    · have := asc_at h2 ((el s.rules k).sets.length - 1) (by omega); omega
  exact ⟨h5, h8, hs, by omega⟩
theorem touchA_len (s : Sy) (r : Int) : (touchA s r).length ≤ 1000000 := by
  unfold touchA
  cases h : sysB s && ruleIn s r
  · simp
  · simp only [Bool.and_eq_true] at h
    obtain ⟨k, rfl, hk⟩ := ruleIn_at h.2
    have := touch_sizes h.1 hk
    rw [if_pos rfl]
    show (el s.rules k).sets.length ≤ 1000000
    omega
theorem touchB_len (s : Sy) (r : Int) : (touchB s r).length ≤ 1000000 := by
  unfold touchB
  cases h : sysB s && ruleIn s r
  · simp
  · simp only [Bool.and_eq_true] at h
    obtain ⟨k, rfl, hk⟩ := ruleIn_at h.2
    have h5 := (touch_sizes h.1 hk).1
    have := touchTo_len (el s.rules k) s.vars.length (el s.rules k).terms.length s.vars.length
    rw [if_pos rfl]
    show (touchTo (el s.rules k) s.vars.length (el s.rules k).terms.length s.vars.length).length ≤ 1000000
    omega

set_option maxRecDepth 100000 in
set_option maxHeartbeats 8000000 in
theorem touched_impl (s : Sy) (r : Int) (A1 : Option Addr) (n1 c1 : Nat) (A2 : Option Addr) (n2 c2 : Nat) (w : World) (h1 : Mem.rd w w.heap.size [.slice A1 n1 c1] s.vars) (h2 : Mem.rd w w.heap.size [.slice A2 n2 c2] s.rules) :
    Calls Try.prog 33 #[.agg #[.slice A1 n1 c1, .slice A2 n2 c2], .int .i64 r] w (GivesLL w (touchA s r) (touchB s r)) := by
  have BX := Lib.hid (sy_box (w := w) (v1 := .slice A1 n1 c1) (v2 := .slice A2 n2 c2))
  have SV := Lib.hid (fun o => sysValid_impl s A1 n1 c1 A2 n2 c2 (w.alloc o) (Mem.rd_on_alloc h1 o) (Mem.rd_on_alloc h2 o))
  have L1 := rd_len h1
  have L2 := rd_len h2
  obtain ⟨F, hF⟩ : ∃ F, F = touchA s r := ⟨_, rfl⟩
  obtain ⟨G, hG⟩ : ∃ G, G = touchB s r := ⟨_, rfl⟩
  rw [← hF, ← hG]
  have HF := Lib.hid hF
  have HG := Lib.hid hG
  clear hF hG
  cases hz : sysB s
  · have E1 : Hid (F = []) := Lib.hid (by rw [HF.out]; unfold touchA; rw [hz]; rfl)
    have E2 : Hid (G = []) := Lib.hid (by rw [HG.out]; unfold touchB; rw [hz]; rfl)
    have HZ := Lib.hid hz; clear hz L1 L2
    go_enter Try.func33, Try.ntmps33
    go_wp2_with fail
    refine (SV.out _).mono ?_
    rintro e w2 ⟨rfl, b2⟩
    rw [HZ.out]
    go_wp2
    refine bodyPost_ret (v := .tuple #[.slice none 0 0, .slice none 0 0]) (by simp [results, Try.results33, go_sem]) rfl ?_
    rw [E1.out, E2.out]
    exact ⟨none, 0, 0, none, 0, 0, [], [], rfl, own_none _, own_none _, List.nodup_nil, by simp, below_call b2⟩
  · cases hr : ruleIn s r
    · have E1 : Hid (F = []) := Lib.hid (by rw [HF.out]; unfold touchA; rw [hz, hr]; rfl)
      have E2 : Hid (G = []) := Lib.hid (by rw [HG.out]; unfold touchB; rw [hz, hr]; rfl)
      have HZ := Lib.hid hz; clear hz L1 L2
      have HR := Lib.hid hr; clear hr
      go_enter Try.func33, Try.ntmps33
      go_wp2_with fail
      refine (SV.out _).mono ?_
      rintro e w2 ⟨rfl, b2⟩
      rw [HZ.out]
      obtain ⟨B2, x0, x1⟩ := BX.out _ b2
      go_wp2_with fail
      refine (hasRule_any s _ A1 n1 c1 A2 n2 c2 w2 (Mem.rd_on h2 B2)).mono ?_
      rintro e w3 ⟨rfl, b3⟩
      rw [HR.out]
      have b23 := b2.trans (b3.mono b2.size)
      obtain ⟨B3, x0, x1⟩ := BX.out _ b23
      go_wp2
      refine bodyPost_ret (v := .tuple #[.slice none 0 0, .slice none 0 0]) (by simp [results, Try.results33, go_sem]) rfl ?_
      rw [E1.out, E2.out]
      exact ⟨none, 0, 0, none, 0, 0, [], [], rfl, own_none _, own_none _, List.nodup_nil, by simp, B3⟩
    · obtain ⟨kr, rfl, hk⟩ := ruleIn_at hr
      obtain ⟨z1, z2, z3, z4⟩ := touch_sizes hz hk
      rw [L2] at hk z2
      obtain ⟨ad, A4, n4, c4, A5, n5, c5, A6, n6, c6, rfl, hbl, d0, d1, d2, r1, r2, r3⟩ := rl_at h2 hk
      have E1 : Hid (F = (el s.rules kr).sets) := Lib.hid (by rw [HF.out]; unfold touchA; rw [hz, hr]; rfl)
      have E2 : Hid (G = touchTo (el s.rules kr) n1 (el s.rules kr).terms.length n1) := Lib.hid (by rw [HG.out]; unfold touchB; rw [hz, hr, L1]; rfl)
      generalize el s.rules kr = R at E1 E2 r1 r2 r3 z3 z4
      have hn5 : n5 ≤ 5 := by have := rd_len r2; omega
      have hn6 : n6 ≤ 5 := by have := rd_len r3; omega
      have hblk : (ad.add (kr * 3)).block < w.heap.size := by rw [add_block]; exact hbl
      have CL := Lib.hid (fun W (B : Below w.heap.size w W) => clone_int A5 n5 c5 R.sets W (rd_ints.1 (Mem.rd_on r2 B)).2 (by omega))
      have UL := Lib.hid (fun W (B : Below w.heap.size w W) => ruleUses_any R n1 A4 n4 c4 A5 n5 c5 A6 n6 c6 W (Mem.rd_on r1 B) (Mem.rd_on r3 B) hn6)
      rw [← E1.out] at CL
      rw [← E2.out] at UL
      have hn1 : n1 ≤ 5 := by omega
      have HF5 : F.length ≤ 5 := by rw [E1.out]; exact z3
      have HG5 : G.length ≤ 5 := by rw [E2.out]; have := touchTo_len R n1 R.terms.length n1; omega
      have HZ := Lib.hid hz; clear hz L1 z1 z2 z3 z4 r1 r2 r3
      have HR := Lib.hid hr; clear hr L2
      go_enter Try.func33, Try.ntmps33
      go_wp2_with fail
      refine (SV.out _).mono ?_
      rintro e w2 ⟨rfl, b2⟩
      rw [HZ.out]
      obtain ⟨B2, x0, x1⟩ := BX.out _ b2
      go_wp2_with fail
      refine (hasRule_any s _ A1 n1 c1 (some ad) n2 c2 w2 (Mem.rd_on h2 B2)).mono ?_
      rintro e w3 ⟨rfl, b3⟩
      rw [HR.out]
      have b23 := b2.trans (b3.mono b2.size)
      clear x0 x1
      obtain ⟨B3, x0, x1⟩ := BX.out _ b23
      have l3 : w.heap.size < w3.heap.size := by have := b23.size; rw [World.size_alloc] at this; exact this
      have d0 := cell_below B3 hblk d0
      have d1 := cell_below (p := ⟨(ad.add (kr * 3)).block, (ad.add (kr * 3)).off + 1, none⟩) B3 hblk d1
      have d2 := cell_below (p := ⟨(ad.add (kr * 3)).block, (ad.add (kr * 3)).off + 2, none⟩) B3 hblk d2
      go_wp2
      have kR := Blk.new w3 #[.slice A4 n4 c4, .slice A5 n5 c5, .slice A6 n6 c6] 70
      have lR : w3.heap.size < (w3.alloc (.cells #[.slice A4 n4 c4, .slice A5 n5 c5, .slice A6 n6 c6] 70)).heap.size := by rw [World.size_alloc]; exact Nat.lt_succ_self _
      have lS : w.heap.size < (w3.alloc (.cells #[.slice A4 n4 c4, .slice A5 n5 c5, .slice A6 n6 c6] 70)).heap.size := Nat.lt_trans l3 lR
      have p0 : (w3.alloc (.cells #[.slice A4 n4 c4, .slice A5 n5 c5, .slice A6 n6 c6] 70)).drew.cell? ⟨w3.heap.size, 0, none⟩ = some (.slice A4 n4 c4) := kR.cell 0
      have p1 : (w3.alloc (.cells #[.slice A4 n4 c4, .slice A5 n5 c5, .slice A6 n6 c6] 70)).drew.cell? ⟨w3.heap.size, 1, none⟩ = some (.slice A5 n5 c5) := kR.cell 1
      have p2 : (w3.alloc (.cells #[.slice A4 n4 c4, .slice A5 n5 c5, .slice A6 n6 c6] 70)).drew.cell? ⟨w3.heap.size, 2, none⟩ = some (.slice A6 n6 c6) := kR.cell 2
      have s0 : (w3.alloc (.cells #[.slice A4 n4 c4, .slice A5 n5 c5, .slice A6 n6 c6] 70)).drew.cell? ⟨w.heap.size, 0, none⟩ = some (.slice A1 n1 c1) := show (w3.alloc _).cell? _ = _ from cell_below (below_alloc w3 _) l3 x0
      have BD : Below w.heap.size w (w3.alloc (.cells #[.slice A4 n4 c4, .slice A5 n5 c5, .slice A6 n6 c6] 70)).drew := (B3.alloc B3.size _).trans ⟨rfl, rfl, rfl, Nat.le_refl _, fun _ _ => rfl⟩
      clear d0 d1 d2 x0 x1 kR
      go_region_held3 (fun w' => w'.cell? ⟨w3.heap.size, 0, none⟩ = some (.slice A4 n4 c4) ∧ w'.cell? ⟨w3.heap.size, 1, none⟩ = some (.slice A5 n5 c5) ∧ w'.cell? ⟨w3.heap.size, 2, none⟩ = some (.slice A6 n6 c6) ∧ w'.cell? ⟨w.heap.size, 0, none⟩ = some (.slice A1 n1 c1))
        (first | with_reducible exact ⟨p0, p1, p2, s0⟩ | with_reducible exact ⟨q0, q1, q2, t0⟩ | with_reducible exact ⟨v0, v1, v2, u0⟩ | fail)
        (first
          | (go_at_call 64; refine (CL.out _ BD).mono ?_; rintro e w4 ⟨vc, rfl, oc, b4⟩
             have q0 := cell_below b4 (p := ⟨w3.heap.size, 0, none⟩) lR p0
             have q1 := cell_below b4 (p := ⟨w3.heap.size, 1, none⟩) lR p1
             have q2 := cell_below b4 (p := ⟨w3.heap.size, 2, none⟩) lR p2
             have t0 := cell_below b4 (p := ⟨w.heap.size, 0, none⟩) lS s0
             have lR4 := Nat.lt_of_lt_of_le lR b4.size
             have lS4 := Nat.lt_of_lt_of_le lS b4.size
             have BC4 := BD.trans (b4.mono BD.size))
          | (go_at_call 65; refine (UL.out _ BD).mono ?_; rintro e w4 ⟨vu, rfl, ou, b4⟩
             have q0 := cell_below b4 (p := ⟨w3.heap.size, 0, none⟩) lR p0
             have q1 := cell_below b4 (p := ⟨w3.heap.size, 1, none⟩) lR p1
             have q2 := cell_below b4 (p := ⟨w3.heap.size, 2, none⟩) lR p2
             have t0 := cell_below b4 (p := ⟨w.heap.size, 0, none⟩) lS s0
             have lR4 := Nat.lt_of_lt_of_le lR b4.size
             have lS4 := Nat.lt_of_lt_of_le lS b4.size
             have BU4 := BD.trans (b4.mono BD.size))
          | (go_at_call 65; refine (UL.out _ BC4).mono ?_; rintro e w5 ⟨vu, rfl, ou, b5⟩
             have v0 := cell_below b5 (p := ⟨w3.heap.size, 0, none⟩) lR4 q0
             have v1 := cell_below b5 (p := ⟨w3.heap.size, 1, none⟩) lR4 q1
             have v2 := cell_below b5 (p := ⟨w3.heap.size, 2, none⟩) lR4 q2
             have u0 := cell_below b5 (p := ⟨w.heap.size, 0, none⟩) lS4 t0
             have oc4 := oc
             have oc := own_below oc b5
             have BB := BC4.trans (b5.mono BC4.size))
          | (go_at_call 64; refine (CL.out _ BU4).mono ?_; rintro e w5 ⟨vc, rfl, oc, b5⟩
             have v0 := cell_below b5 (p := ⟨w3.heap.size, 0, none⟩) lR4 q0
             have v1 := cell_below b5 (p := ⟨w3.heap.size, 1, none⟩) lR4 q1
             have v2 := cell_below b5 (p := ⟨w3.heap.size, 2, none⟩) lR4 q2
             have u0 := cell_below b5 (p := ⟨w.heap.size, 0, none⟩) lS4 t0
             have ou := own_below ou b5
             have BB := BU4.trans (b5.mono BU4.size)))
      clear oc
      obtain ⟨Ac, cc, rfl, _, _⟩ := own_form oc4
      obtain ⟨Au, cu, rfl, _, _⟩ := own_form ou
      obtain ⟨f2, om2, nd2, lo2⟩ := mem_ints ou (by unfold maxLen; omega)
      obtain ⟨f1, om1', nd1, lo1⟩ := mem_ints oc4 (by unfold maxLen; omega)
      have hi1 := Mem.own_lt om1'
      have om1 := Mem.own_below om1' b5
      have s4 := b4.size
      have sD := BD.size
      go_wp2_with fail
      refine bodyPost_ret (v := .tuple #[.slice Ac F.length cc, .slice Au G.length cu]) (by simp [results, Try.results33, go_sem]) rfl ?_
      refine ⟨Ac, _, cc, Au, _, cu, f1, f2, rfl, om1, om2, nodup_two nd1 nd2 hi1 lo2, fun x hx => ?_, BB⟩
      rcases List.mem_append.1 hx with hx | hx
      · exact Nat.le_trans sD (lo1 x hx)
      · exact Nat.le_trans (Nat.le_trans sD s4) (lo2 x hx)
end Go.Proofs.Ytpaagplopefklaa
