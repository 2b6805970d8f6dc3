/- Bits: of the model. -/
import Derived.Test.YtnhjcokmajejcaaBit
import Derived.Test.YtnhjcokmajejcaaBitL
import Derived.Test.YtnhjcokmajejcaaInR
import Derived.Deep.RegionHeld3
namespace Go.Proofs.Ytnhjcokmajejcaa
open Go.RowKit

theorem widL_len (l : List Vr) : (widL l).length = l.length := by simp [widL]
theorem widL_ix {l : List Vr} {k : Nat} (h : k < l.length) : ix (widL l) k = (wdv (el l k) : Nat) := by
  unfold ix widL
  rw [List.getElem?_map, el_lt h, List.getElem?_eq_getElem h]; rfl
theorem widL_take {l : List Vr} {k : Nat} (h : k < l.length) : (widL l).take (k + 1) = (widL l).take k ++ [((wdv (el l k) : Nat) : Int)] := by
  have e : (widL l)[k]? = some ((wdv (el l k) : Nat) : Int) := by
    unfold widL
    rw [List.getElem?_map, el_lt h, List.getElem?_eq_getElem h]; rfl
  rw [List.take_add_one, e]; rfl

set_option maxRecDepth 100000 in
set_option maxHeartbeats 2000000 in
theorem l6Widths_any (s : Sy) (A1 : Option Addr) (n1 c1 : Nat) (A2 : Option Addr) (n2 c2 : Nat) (w : World) (h1 : Mem.rd w w.heap.size [.slice A1 n1 c1] s.vars) (ok : SysOk s) :
    Calls Try.prog 78 #[.agg #[.slice A1 n1 c1, .slice A2 n2 c2]] w (GivesInts w (widL s.vars)) := by
  have l1 := rd_len h1
  have L1 := Lib.hid l1
  have h5 : n1 ≤ 5 := by have := ok.hi; omega
  have VB := Lib.hid (fun k (hk : k < n1) => varB_iff.1 (ok.vars k (by omega)))
  have BX := Lib.hid (sy_box (w := w) (v1 := .slice A1 n1 c1) (v2 := .slice A2 n2 c2))
  clear l1 ok
  go_enter Try.func78, Try.ntmps78
  go_wp2
  have hown0 := World.ownsRow_lit (base := w.heap.size + 1) (e := 3) (size := 1) (w.alloc (.cells #[.slice A1 n1 c1, .slice A2 n2 c2] 33)) #[] 0 (by simp) (by unfold maxLen; omega) rfl
  rw [World.size_alloc] at hown0
  go_loopg [3, 4] n1 (fun m v i wr => ∃ k : Nat, k + m = n1 ∧ i = .int .i64 k ∧ wr.ownsRow (w.heap.size + 1) 3 1 v k (ints ((widL s.vars).take k)) ∧ Below (w.alloc (.cells #[.slice A1 n1 c1, .slice A2 n2 c2] 33)).heap.size (w.alloc (.cells #[.slice A1 n1 c1, .slice A2 n2 c2] 33)) wr)
  case atStart => exact ⟨0, by omega, rfl, hown0, below_alloc _ _⟩
  case round =>
    clear hown0
    obtain ⟨k, hk, rfl, ho, hb⟩ := hrel
    obtain ⟨B, x0, x1⟩ := BX.out _ hb
    by_cases hlt : k < n1
    · obtain ⟨ad, rfl, hbl, d0, d1, d2⟩ := vr_at (Mem.rd_below h1 B) hlt
      have HF := Lib.hid (widL_take (l := s.vars) (k := k) (by rw [L1.out]; exact hlt))
      have HV := VB.out k hlt
      have HM := Lib.hid (fun W => l6Many_any ((el s.vars k).high - (el s.vars k).low + 1) W (by omega) (by omega))
      change Hid (∀ W, Calls _ _ _ W (GivesInt W (wdv (el s.vars k) : Nat))) at HM
      have w1 : IntKind.i64.wrap ((el s.vars k).high - (el s.vars k).low) = (el s.vars k).high - (el s.vars k).low := IntWalk.i64_in _ (by omega)
      have w2 : IntKind.i64.wrap ((el s.vars k).high - (el s.vars k).low + 1) = (el s.vars k).high - (el s.vars k).low + 1 := IntWalk.i64_in _ (by omega)
      have HO := Lib.hid ho
      have kn : (k : Int) < n1 := by omega
      generalize wdv (el s.vars k) = z at *
      generalize el s.vars k = V at *
      obtain ⟨a, b, c⟩ := V
      dsimp only at *
      have hs1 : w.heap.size + 1 ≤ wr.heap.size := by have := hb.size; rw [World.size_alloc] at this; exact this
      clear HV
      go_wp2
      go_region_law (first
        | (go_simp; go_at_call 111; refine (HM.out _).mono ?_; rintro e w3 ⟨rfl, b3⟩
           have O3 := Lib.hid (own_below (HO.out) (show Below wr.heap.size wr w3 from ⟨b3.os, b3.tape, b3.output, b3.size, b3.block⟩))
           have b3' : Below wr.heap.size wr w3 := ⟨b3.os, b3.tape, b3.output, b3.size, b3.block⟩)
        | (refine step_app_int (by rfl) _ _ (by rfl) (w.heap.size + 1) _ k _ _ _ (by rfl) (by first | exact (O3.out).alloc _ | exact ((O3.out).alloc _).drew | exact ((O3.out).drew).alloc _) (by rfl) (by first | exact World.cell?_alloc_at _ _ _ _ (by simp) | (simp [go_sem]; done)) (by omega) (by have := b3'.size; simp at *; omega) ?_; intro v' w4 ho4 hg4 hk4))
      all_goals
        go_wp2
        go_roundg (n1 - (k + 1))
        case measure => omega
        case rel =>
          refine ⟨k + 1, by omega, by go_num, by rw [HF.out]; exact ho4, ?_⟩
          have z3 := b3'.size
          first
            | exact ((hb.trans (b3'.mono hb.size)).alloc (by simp; omega) _).grown hg4 (by simp; omega) (fun g hg => by rw [World.size_alloc]; exact (O3.out.lt g hg).1)
            | exact (((hb.trans (b3'.mono hb.size)).alloc (by simp; omega) _).drew).grown hg4 (by simp; omega) (fun g hg => by rw [World.size_alloc]; exact (O3.out.lt g hg).1)
            | exact (((hb.trans (b3'.mono hb.size)).drew).alloc (by simp; omega) _).grown hg4 (by simp; omega) (fun g hg => by rw [World.size_alloc]; exact (O3.out.lt g hg).1)
    · obtain rfl : k = n1 := by omega
      go_wp2
      go_ret
      rw [List.take_of_length_le (by rw [widL_len, L1.out]; exact Nat.le_refl _)] at ho
      refine ⟨_, rfl, ?_, B⟩
      rw [widL_len, L1.out]
      exact own_lower ho (by omega)

set_option maxRecDepth 100000 in
set_option maxHeartbeats 4000000 in
theorem l6State_any (s : Sy) (st : List Int) (A1 : Option Addr) (n1 c1 : Nat) (A2 : Option Addr) (n2 c2 : Nat) (A3 : Option Addr) (n3 c3 : Nat) (w : World) (h1 : Mem.rd w w.heap.size [.slice A1 n1 c1] s.vars) (h3 : Mem.rd w w.heap.size [.slice A3 n3 c3] st) (ok : SysOk s) (hin : hasB s.vars st = true) :
    Calls Try.prog 35 #[.agg #[.slice A1 n1 c1, .slice A2 n2 c2], .slice A3 n3 c3] w (GivesInts w (stBits s.vars st)) := by
  have L1 := rd_len h1
  have L3 := rd_len h3
  have L0 := has_len hin
  have h5 : n1 ≤ 5 := by have := ok.hi; omega
  have h31 : n3 = n1 := by omega
  subst h31
  have RB := Lib.hid (fun k (hk : k ≤ n3) => wid_le ok (k := k) (by omega))
  have VB := Lib.hid (fun j (hj : j < n3) => (⟨ok.vars j (by omega), val_lt ok.vars hin (k := j) (by omega), has_at hin j (by omega), widL_ix (l := s.vars) (k := j) (by omega), stBits_succ ok.vars hin (k := j) (by omega)⟩ : varB (el s.vars j) = true ∧ (ix st j - (el s.vars j).low).toNat < 2 ^ wdv (el s.vars j) ∧ ((el s.vars j).low ≤ ix st j ∧ ix st j ≤ (el s.vars j).high) ∧ ix (widL s.vars) j = (wdv (el s.vars j) : Nat) ∧
    bitsN (rowTo s.vars st (j + 1)) (widTo s.vars (j + 1)) = bitsN (rowTo s.vars st j) (widTo s.vars j) ++ bitsN (ix st j - (el s.vars j).low).toNat (wdv (el s.vars j))))
  have WC := Lib.hid (fun W (B : Below w.heap.size w W) => l6Widths_any s A1 n3 c1 A2 n2 c2 W (Mem.rd_on h1 B) ok)
  obtain ⟨V, hV⟩ : ∃ V : List Int, V = stBits s.vars st := ⟨_, rfl⟩
  have E : Hid (V = bitsN (rowTo s.vars st n3) (widTo s.vars n3)) := Lib.hid (by rw [hV, stBits, L1])
  rw [← hV]
  have WL : Hid ((widL s.vars).length = n3) := Lib.hid (by rw [widL_len, L1])
  clear hV L1 L3 L0 ok hin
  have h3' := (rd_ints.1 h3).2
  have BX := Lib.hid (sy_box (w := w) (v1 := .slice A1 n3 c1) (v2 := .slice A2 n2 c2))
  have I0 := Lib.hid (IL.lit (w.alloc (.cells #[.slice A1 n3 c1, .slice A2 n2 c2] 33)) 3 (base := w.heap.size + 1) (by simp))
  have b1 := Lib.hid (below_alloc (w.alloc (.cells #[.slice A1 n3 c1, .slice A2 n2 c2] 33)) (.cells #[] 3))
  have WK := Lib.hid (WC.out ((w.alloc (.cells #[.slice A1 n3 c1, .slice A2 n2 c2] 33)).alloc (.cells #[] 3)) ((below_alloc _ _).trans ((below_alloc _ _).mono (by simp))))
  rw [World.size_alloc] at I0
  go_enter Try.func35, Try.ntmps35
  go_wp2_with fail
  refine (WK.out).mono ?_
  rintro e w2 ⟨v6, rfl, o6, b2⟩
  rw [WL.out] at o6
  obtain ⟨A6, c6, rfl, _, _⟩ := own_form o6
  obtain ⟨f6, om6, _, lo6⟩ := mem_ints (l := widL s.vars) (by rw [WL.out]; exact o6) (by rw [WL.out]; unfold maxLen; omega)
  rw [WL.out] at om6
  have I2 := Lib.hid (I0.out.below b2)
  have HB2 := Lib.hid (b1.out.trans (b2.mono b1.out.size))
  have hi6 := Mem.own_lt om6
  have LD : Hid (∀ b ∈ f6, w.heap.size + 2 ≤ b ∧ b < w2.heap.size) := Lib.hid fun b hb => ⟨by have := lo6 b hb; simp only [World.size_alloc] at this; omega, hi6 b hb⟩
  have HM2 := Lib.hid om6
  have hs2 := b2.size
  simp only [World.size_alloc] at hs2
  clear o6 om6 lo6 hi6 I0 b1 b2 WK WC
  go_wp2
  go_loopg [5, 7] n3 (fun m v i wr => ∃ (k : Nat) (fr : List Nat), k + m = n3 ∧ i = .int .i64 k ∧ Hid (IL wr (w.heap.size + 1) 3 v (widTo s.vars k) (bitsN (rowTo s.vars st k) (widTo s.vars k)) fr) ∧ Hid (∀ b ∈ fr, b = w.heap.size + 1 ∨ w2.heap.size ≤ b) ∧ Hid (Mem.own wr f6 [.slice A6 n3 c6] (widL s.vars)) ∧
    Hid (Below (w.alloc (.cells #[.slice A1 n3 c1, .slice A2 n2 c2] 33)).heap.size (w.alloc (.cells #[.slice A1 n3 c1, .slice A2 n2 c2] 33)) wr) ∧ Hid (w2.heap.size ≤ wr.heap.size))
  case atStart => exact ⟨0, _, by omega, rfl, I2, Lib.hid fun b hb => .inl (by simpa using hb), HM2, HB2, Lib.hid (Nat.le_refl _)⟩
  case round =>
    clear I2 HB2 HM2
    obtain ⟨k, fr, hk, rfl, hI, hF, ho, hb, hs⟩ := hrel
    by_cases hlt : k < n3
    · have kn : (k : Int) < n3 := by omega
      obtain ⟨B, x0, x1⟩ := BX.out _ hb.out
      obtain ⟨ad, rfl, hbl, d0, d1, d2⟩ := vr_at (Mem.rd_below h1 B) (k := k) hlt
      obtain ⟨ad', rfl, hbl', d3⟩ := (h3'.below B).int hlt
      obtain ⟨ad6, rfl, hbl6, d6⟩ := (rd_ints.1 (Mem.own_rd ho.out)).2.int hlt
      obtain ⟨vb, vlt, vhas, vwid, vapp⟩ := VB.out k hlt
      rw [vwid] at d6
      have rb := RB.out (k + 1) (by omega)
      have vq := varB_iff.1 vb
      have hj5 : wdv (el s.vars k) ≤ 5 := wdt_le _
      have wv : IntKind.i64.wrap (ix st k - (el s.vars k).low) = (((ix st k - (el s.vars k).low).toNat : Nat) : Int) := by
        rw [IntWalk.i64_in _ (by omega)]; omega
      have hp : 2 ^ wdv (el s.vars k) ≤ 2 ^ 5 := Nat.pow_le_pow_right (by omega) hj5
      have LV := Lib.hid (l6Value_any ((ix st k - (el s.vars k).low).toNat) (wdv (el s.vars k)) wr.drew (by omega) (by omega))
      have VA := Lib.hid vapp
      have HJ := Lib.hid hj5
      have HRB := Lib.hid rb
      have NX : Hid (widTo s.vars (k + 1) = widTo s.vars k + wdv (el s.vars k)) := Lib.hid rfl
      have HL := Lib.hid (⟨Nat.lt_of_lt_of_le hbl' B.size, hbl6, Nat.lt_of_lt_of_le hbl B.size⟩ : ad'.block < wr.heap.size ∧ ad6.block < wr.heap.size ∧ ad.block < wr.heap.size)
      generalize (ix st k - (el s.vars k).low).toNat = xx at *
      generalize wdv (el s.vars k) = jj at *
      clear vb vlt vhas vwid vapp rb vq hj5 hp
      go_wp2
      go_region_held3 (fun w' => w'.cell? ⟨w.heap.size, 0, none⟩ = some (.slice (some ad) n3 c1) ∧ w'.cell? (ad.add (k * 3)) = some (.int .i64 (el s.vars k).low) ∧ w'.cell? (ad'.add k) = some (.int .i64 (ix st k)) ∧ w'.cell? (ad6.add k) = some (.int .i64 jj)) (go_keep)
        ((go_at_call 79; refine (LV.out).mono ?_; rintro e w5 ⟨v5, rfl, o5, b5⟩
          have b5' : Below wr.heap.size wr w5 := ⟨b5.os, b5.tape, b5.output, b5.size, b5.block⟩
          have z0 := cell_below b5' (p := ⟨w.heap.size, 0, none⟩) (by have := B.size; have := HL.out.2.2; have := hb.out.size; simp at this; show w.heap.size < _; omega) x0
          have z1 := cell_below b5' (p := ad.add (k * 3)) (by rw [add_block]; exact HL.out.2.2) d0
          have z2 := cell_below b5' (p := ad'.add k) (by rw [add_block]; exact HL.out.1) d3
          have z3 := cell_below b5' (p := ad6.add k) (by rw [add_block]; exact HL.out.2.1) d6))
      rw [bitsN_len] at o5
      obtain ⟨A5, c5, rfl, _, _⟩ := own_form o5
      obtain ⟨f5, om5, _, lo5⟩ := mem_ints (l := bitsN xx jj) (by rw [bitsN_len]; exact o5) (by rw [bitsN_len]; have := HJ.out; unfold maxLen; omega)
      rw [bitsN_len] at om5
      have hi5 := Mem.own_lt om5
      have IR := hI.out.lt
      have I5 := Lib.hid (hI.out.below b5')
      have HB5 := Lib.hid (hb.out.trans (b5'.mono hb.out.size))
      have O6 := Lib.hid (Mem.own_below ho.out b5')
      have S5 := Lib.hid (Nat.le_trans hs.out b5'.size)
      have F5 : Hid (∀ b ∈ fr, (b = w.heap.size + 1 ∨ w2.heap.size ≤ b) ∧ b ∉ f5) := Lib.hid fun b hb => ⟨hF.out b hb, fun hc => by
        have q1 := lo5 b hc
        have q2 := (IR b hb).2
        have : wr.drew.heap.size = wr.heap.size := rfl
        omega⟩
      have HI5 := Lib.hid hi5
      have HM5 := Lib.hid om5
      clear hI hF ho hb hs o5 om5 lo5 hi5 IR b5 x0 x1 d0 d1 d2 d3 d6 z0 z1 z2 z3 hbl hbl' hbl6 B wv LV HL
      obtain ⟨wo, rfl⟩ : ∃ wo : World, wo = wr := ⟨_, rfl⟩
      go_wp2
      go_loopg [5, 9] jj (fun m v i wi => ∃ (j : Nat) (fq : List Nat), j + m = jj ∧ i = .int .i64 j ∧ Hid (IL wi (w.heap.size + 1) 3 v (widTo s.vars k + j) (bitsN (rowTo s.vars st k) (widTo s.vars k) ++ (bitsN xx jj).take j) fq) ∧ Hid (∀ b ∈ fq, (b = w.heap.size + 1 ∨ w2.heap.size ≤ b) ∧ b ∉ f5) ∧ Hid (Mem.own wi f5 [.slice A5 jj c5] (bitsN xx jj)) ∧ Hid (Mem.own wi f6 [.slice (some ad6) n3 c6] (widL s.vars)) ∧
        Hid (Below (w.alloc (.cells #[.slice (some ad) n3 c1, .slice A2 n2 c2] 33)).heap.size (w.alloc (.cells #[.slice (some ad) n3 c1, .slice A2 n2 c2] 33)) wi) ∧ Hid (w2.heap.size ≤ wi.heap.size))
      case atStart => exact ⟨0, fr, by omega, rfl, by simpa using I5, F5, HM5, O6, HB5, S5⟩
      case round =>
        clear I5 F5 HM5 O6 HB5 S5
        obtain ⟨j, fq, hj, rfl, hI, hF, hm, ho, hb, hs⟩ := hrel
        by_cases hjt : j < jj
        · have jn : (j : Int) < jj := by omega
          obtain ⟨ad5, rfl, hbl5, d5⟩ := (rd_ints.1 (Mem.own_rd hm.out)).2.int hjt
          have HT := Lib.hid (bitsN_take (n := xx) (m := jj) (k := j) hjt)
          rw [bitsN_ix hjt] at d5
          have HI := Lib.hid (fun o => hI.out.below (below_alloc wr o))
          have hw : widTo s.vars k + j ≤ 11 := by have := HRB.out; have := NX.out; omega
          have HW := Lib.hid hw
          have HSZ : Hid (w.heap.size + 1 ≤ wr.heap.size) := Lib.hid (by have := hb.out.size; rw [World.size_alloc] at this; exact this)
          generalize bt xx jj j = z at *
          go_wp2_with (first
            | (at_builtin; refine app_il rfl _ _ rfl rfl (HI.out _) rfl (World.cell?_alloc_at _ _ _ _ (by simp)) (by have := HW.out; omega) (by rw [World.size_alloc]; have := HSZ.out; omega) ?_; intro v9 w9 f9 l9 on9 in9))
          have lo9 := (HI.out (.cells #[.int .i64 z] 3)).lt
          have z9 := on9.size
          rw [World.size_alloc] at z9
          go_roundg (jj - (j + 1))
          case measure => omega
          case rel =>
            refine ⟨j + 1, f9, by omega, by go_num, by rw [HT.out, ← List.append_assoc]; exact Lib.hid l9, Lib.hid fun b hb9 => ?_, Lib.hid (Mem.own_only (Mem.own_below hm.out (below_alloc wr _)) on9 fun b h5 hc => (hF.out b hc).2 h5), Lib.hid (Mem.own_only (Mem.own_below ho.out (below_alloc wr _)) on9 fun b h6 hc => ?_), Lib.hid ?_, Lib.hid ?_⟩
            · rcases in9 b hb9 with h | h
              · exact hF.out b h
              · rw [World.size_alloc] at h
                have := hs.out
                refine ⟨.inr (by omega), fun h5 => ?_⟩
                have := Mem.own_lt hm.out b h5
                omega
            · have a := LD.out b h6
              rcases (hF.out b hc).1 with h | h <;> omega
            · have q1 := hb.out.alloc hb.out.size (.cells #[.int .i64 z] 3)
              exact q1.trans (on9.below q1.size fun b hb => by rw [World.size_alloc]; exact (lo9 b hb).1)
            · have := hs.out
              omega
        · obtain rfl : j = jj := by omega
          have e := bitsN_len xx j
          have HT : Hid ((bitsN xx j).take j = bitsN xx j) := Lib.hid (List.take_of_length_le (by omega))
          go_wp2
          go_roundg (n3 - (k + 1))
          case measure => omega
          case rel => exact ⟨k + 1, fq, by omega, by go_num, by rw [NX.out]; have := hI.out; rw [HT.out] at this; have va := VA.out; rw [NX.out] at va; rw [va]; exact Lib.hid this, Lib.hid fun b hb => (hF.out b hb).1, ho, hb, hs⟩
    · obtain rfl : k = n3 := by omega
      obtain ⟨B, x0, x1⟩ := BX.out _ hb.out
      go_wp2
      go_ret
      refine ⟨_, rfl, ?_, B⟩
      have := hI.out.1
      rw [E.out, bitsN_len]
      exact own_lower this (by omega)
end Go.Proofs.Ytnhjcokmajejcaa
