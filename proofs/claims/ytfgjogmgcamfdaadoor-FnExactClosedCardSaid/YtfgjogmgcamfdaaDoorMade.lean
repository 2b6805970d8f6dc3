/- The program's words for what a rule makes of a state. -/
import Derived.Test.YtfgjogmgcamfdaaDoorPt
import Derived.Test.YtfgjogmgcamfdaaDoorUseSp
namespace Go.Proofs.YtfgjogmgcamfdaaDoor
open Go.RowKit

/-- The boxes of 'made': a rule, a state, a zero. -/
def madeW (w : World) (a b c : Value) (st : List Int) (m : Nat) : World :=
  ((w.alloc (.cells #[a, b, c] 102)).alloc (.cells #[.int .i64 (ix st 0), .int .i64 (ix st 1), .int .i64 (ix st 2), .int .i64 (ix st 3), .int .i64 (ix st 4), .int .i64 m] 110)).alloc
    (.cells #[.int .i64 0, .int .i64 0, .int .i64 0, .int .i64 0, .int .i64 0, .int .i64 0] 110)
theorem madeW_size (w : World) (a b c : Value) (st : List Int) (m : Nat) : (madeW w a b c st m).heap.size = w.heap.size + 3 := by unfold madeW; simp
theorem madeW_box {w : World} {a b c : Value} {st : List Int} {m : Nat} {W : World} (hm : m = st.length) (hW : Below (w.heap.size + 3) (madeW w a b c st m) W) :
    Below w.heap.size w W ∧ W.cell? ⟨w.heap.size, 0, none⟩ = some a ∧ W.cell? ⟨w.heap.size, 1, none⟩ = some b ∧ W.cell? ⟨w.heap.size, 2, none⟩ = some c ∧ Blk W (w.heap.size + 1) 110 (ptC st) ∧
    Blk W (w.heap.size + 2) 110 [.int .i64 0, .int .i64 0, .int .i64 0, .int .i64 0, .int .i64 0, .int .i64 0] ∧ w.heap.size + 3 ≤ W.heap.size := by
  subst hm
  have hs := hW.size
  rw [madeW_size] at hs
  have k0 : Blk (madeW w a b c st st.length) w.heap.size 102 [a, b, c] := ((Blk.new w _ _).alloc _).alloc _
  have k1 : Blk (madeW w a b c st st.length) (w.heap.size + 1) 110 (ptC st) := by
    have := (Blk.new (w.alloc (.cells #[a, b, c] 102)) (ptC st).toArray 110).alloc (.cells #[.int .i64 0, .int .i64 0, .int .i64 0, .int .i64 0, .int .i64 0, .int .i64 0] 110)
    rw [World.size_alloc] at this
    exact this
  have k2 : Blk (madeW w a b c st st.length) (w.heap.size + 2) 110 [.int .i64 0, .int .i64 0, .int .i64 0, .int .i64 0, .int .i64 0, .int .i64 0] := by
    have := Blk.new ((w.alloc (.cells #[a, b, c] 102)).alloc (.cells (ptC st).toArray 110)) #[.int .i64 0, .int .i64 0, .int .i64 0, .int .i64 0, .int .i64 0, .int .i64 0] 110
    rw [World.size_alloc, World.size_alloc] at this
    exact this
  have j0 := k0.below hW (by omega)
  exact ⟨(((Below.refl w.heap.size w).alloc (Nat.le_refl _) _).alloc (by simp) _ |>.alloc (by simp; omega) _).trans (hW.mono (by omega)), j0.cell 0, j0.cell 1, j0.cell 2, k1.below hW (by omega), k2.below hW (by omega), by omega⟩

set_option maxRecDepth 100000 in
set_option maxHeartbeats 4000000 in
theorem made_any (R : Rl) (st : List Int) (A4 : Option Addr) (n4 c4 : Nat) (A5 : Option Addr) (n5 c5 : Nat) (A6 : Option Addr) (n6 c6 : Nat) (w : World) (r2 : Mem.rd w w.heap.size [.slice A5 n5 c5] R.sets) (r3 : Mem.rd w w.heap.size [.slice A6 n6 c6] R.terms)
    (RO : RuleOk R st.length) (nums : NumsOk st) (h1 : 1 ≤ st.length) (h5 : st.length ≤ 5) :
    Calls Tryd.prog 117 #[.agg #[.slice A4 n4 c4, .slice A5 n5 c5, .slice A6 n6 c6], ptV st] w (GivesV w (ptV (madeTo R st R.sets.length))) := by
  have L5 := rd_len r2
  have L6 := rd_len r3
  have m5 := rd_max r2
  unfold maxLen at m5
  have HS := Lib.hid (fun k (hk : k < n5) => RO.sets k (by omega))
  have HT := Lib.hid (fun k (hk : k < n5) => RO.terms k (by omega))
  have e65 : n6 = n5 := by have := RO.lens; omega
  subst e65
  obtain ⟨V, hV⟩ : ∃ V : Value, V = ptV (madeTo R st R.sets.length) := ⟨_, rfl⟩
  have E : Hid (V = ptV (madeTo R st n6)) := Lib.hid (by rw [hV, L5])
  rw [← hV]
  clear hV
  obtain ⟨m, hm⟩ : ∃ m : Nat, m = st.length := ⟨_, rfl⟩
  have HM := Lib.hid hm
  have BX := Lib.hid (fun W hW => madeW_box (w := w) (a := .slice A4 n4 c4) (b := .slice A5 n6 c5) (c := .slice A6 n6 c6) (st := st) (m := m) (W := W) HM.out hW)
  have M0 : Blk ((madeW w (.slice A4 n4 c4) (.slice A5 n6 c5) (.slice A6 n6 c6) st m).alloc (.cells #[.int .i64 (ix st 0), .int .i64 (ix st 1), .int .i64 (ix st 2), .int .i64 (ix st 3), .int .i64 (ix st 4), .int .i64 m] 110)) (w.heap.size + 3) 110 (ptC (madeTo R st 0)) := by
    have := Blk.new (madeW w (.slice A4 n4 c4) (.slice A5 n6 c5) (.slice A6 n6 c6) st m) (ptC st).toArray 110
    rw [madeW_size] at this
    unfold ptC at this
    rw [← hm] at this
    show Blk _ _ _ (ptC st)
    unfold ptC
    rw [← hm]
    exact this
  have W0 : Below (w.heap.size + 3) (madeW w (.slice A4 n4 c4) (.slice A5 n6 c5) (.slice A6 n6 c6) st m) ((madeW w (.slice A4 n4 c4) (.slice A5 n6 c5) (.slice A6 n6 c6) st m).alloc (.cells #[.int .i64 (ix st 0), .int .i64 (ix st 1), .int .i64 (ix st 2), .int .i64 (ix st 3), .int .i64 (ix st 4), .int .i64 m] 110)) := by
    have := below_alloc (madeW w (.slice A4 n4 c4) (.slice A5 n6 c5) (.slice A6 n6 c6) st m) (.cells #[.int .i64 (ix st 0), .int .i64 (ix st 1), .int .i64 (ix st 2), .int .i64 (ix st 3), .int .i64 (ix st 4), .int .i64 m] 110)
    rw [madeW_size] at this
    exact this
  have M0 := Lib.hid M0
  have W0 := Lib.hid W0
  have HSL := fun W => run_pt_slice ⟨w.heap.size + 1, 0, none⟩ m (by omega) W
  rw [show ptV st = .agg #[.int .i64 (ix st 0), .int .i64 (ix st 1), .int .i64 (ix st 2), .int .i64 (ix st 3), .int .i64 (ix st 4), .int .i64 m] by unfold ptV; rw [hm]]
  rw [← hm] at h1 h5
  clear hm
  go_enter Tryd.func117, Tryd.ntmps117
  go_wp2
  go_loopg [6, 7, 12] n6 (fun mm i6 i7 i wr => ∃ k : Nat, k + mm = n6 ∧ i = .int .i64 k ∧ Blk wr (w.heap.size + 3) 110 (ptC (madeTo R st k)) ∧ Below (w.heap.size + 3) (madeW w (.slice A4 n4 c4) (.slice A5 n6 c5) (.slice A6 n6 c6) st m) wr)
  case atStart => exact ⟨0, by omega, rfl, M0.out, W0.out⟩
  case round =>
    clear M0 W0
    obtain ⟨k, hk, rfl, hm, hb⟩ := hrel
    obtain ⟨B, x0, x1, x2, kO, kZ, lx⟩ := BX.out _ hb
    by_cases hlt : k < n6
    · obtain ⟨ad5, rfl, hbl5, d5⟩ := ((rd_ints.1 (Mem.rd_below r2 B)).2).int hlt
      have hlt6 : k < n6 := by omega
      obtain ⟨ad6, A7, n7, c7, rfl, hbl6, d6, r7⟩ := ll_at (Mem.rd_below r3 B) hlt6
      obtain ⟨v, hv⟩ : ∃ v : Nat, ix R.sets k = v := ⟨(ix R.sets k).toNat, by have := HS.out k hlt; omega⟩
      have hl := HM.out
      have hv3 : v < m := by have := HS.out k hlt; omega
      have hv5 : v < 5 := by omega
      rw [hv] at d5
      obtain ⟨ks2, hks2⟩ := (HT.out k hlt).ks
      have t_lo := (HT.out k hlt).lo
      have t_hi := (HT.out k hlt).hi
      have L7 := rd_len r7
      rw [L7] at hks2 t_lo t_hi
      have CV : Hid (Calls Tryd.prog 69 #[.slice A7 n7 c7, .slice (some ⟨w.heap.size + 1, 0, none⟩) m 5] wr.drew (GivesInt wr.drew (valB (el R.terms k) st))) := Lib.hid (by
        have := valueIn_any A7 n7 c7 (some ⟨w.heap.size + 1, 0, none⟩) m 5 (el R.terms k) st ks2 wr.drew (rd_tms.1 (Mem.rd_drew (Mem.rd_more r7 B.size))).2 (by have := kO.pt (by omega); rw [← hl] at this; exact this) t_hi t_lo nums hks2
        unfold valB
        rw [L7]
        exact this)
      have hblA : (ad5.add k).block < wr.heap.size := by rw [add_block]; exact Nat.lt_of_lt_of_le hbl5 B.size
      have hblB : (ad6.add k).block < wr.heap.size := by rw [add_block]; exact Nat.lt_of_lt_of_le hbl6 B.size
      have hfA : (ad5.add k).block ≠ w.heap.size + 3 := by rw [add_block]; omega
      have hfB : (ad6.add k).block ≠ w.heap.size + 3 := by rw [add_block]; omega
      have MS := Lib.hid (made_succ R st hv)
      have HIX := fun W => run_pt_index (w.heap.size + 1 + 1 + 1) v hv5 W
      have hlm := len_made R st k
      have o5 : wr.cell? ⟨w.heap.size + 1, 5, none⟩ = some (.int .i64 m) := by have := kO.cell 5; rw [hl]; exact this
      have HKM := Lib.hid hm
      have lm := hm.lt
      clear hks2 t_lo t_hi hv hm kO kZ hl hlm
      go_wp2
      go_region_held3 (fun w' => w'.cell? ⟨w.heap.size, 2, none⟩ = some (.slice (some ad6) n6 c6) ∧ w'.cell? ⟨w.heap.size + 1, 5, none⟩ = some (.int .i64 m) ∧ w'.cell? (ad6.add k) = some (.slice A7 n7 c7)) (first | go_keep | exact ⟨set_far (by show w.heap.size ≠ w.heap.size + 1 + 1 + 1; omega) y3, set_far (by show w.heap.size + 1 ≠ w.heap.size + 1 + 1 + 1; omega) y4, set_far hfB y6⟩)
        ((go_at_call 69; refine (CV.out).mono ?_; rintro e w3 ⟨rfl, b3⟩
          have y3 := cell_below b3 (p := ⟨w.heap.size, 2, none⟩) (by show w.heap.size < wr.heap.size; omega) x2
          have y4 := cell_below b3 (p := ⟨w.heap.size + 1, 5, none⟩) (by show w.heap.size + 1 < wr.heap.size; omega) o5
          have y6 := cell_below b3 (p := ad6.add k) hblB d6
          have b3' : Below wr.heap.size wr w3 := ⟨b3.os, b3.tape, b3.output, b3.size, b3.block⟩
          have H3 := Lib.hid (HKM.out.below b3' lm)
          have f0 := H3.out.frozen v
          have c0 : w3.cell? ⟨w.heap.size + 3, v, none⟩ = some (.int .i64 (ix (madeTo R st k) v)) := by rw [H3.out.cell]; exact ptC_at (by have := HM.out; have := len_made R st k; omega) (by have := HM.out; have := len_made R st k; omega)))
      go_wp2
      go_roundg (n6 - (k + 1))
      case measure => omega
      case rel =>
        refine ⟨k + 1, by omega, by go_num, ?_, (hb.trans (b3'.mono lx)).setCell (Nat.le_refl _) _⟩
        rw [MS.out, ← ptC_set (by have := HM.out; have := len_made R st k; omega) (by have := HM.out; have := len_made R st k; omega)]
        exact H3.out.set _ _
    · obtain rfl : k = n6 := by omega
      have M3 : Hid (Blk wr (w.heap.size + 3) 110 (ptC (madeTo R st k))) := Lib.hid hm
      obtain ⟨p0, p1, p2, p3, p4, p5⟩ := pt_cells hm
      obtain ⟨q0, q1, q2, q3, q4, q5⟩ := six_cells kZ
      obtain ⟨f0, f1, f2, f3, f4, f5⟩ := six_frozen kZ
      clear kZ kO hm
      go_wp2_with fail
      refine bodyPost_ret (v := ptV (madeTo R st k)) (by simp [results, Tryd.results117, go_sem, q0, q1, q2, q3, q4, q5, ptV]) rfl ⟨congrArg Ending.returned E.out.symm, ?_⟩
      exact (((((B.setCell (by show w.heap.size ≤ w.heap.size + 1 + 1; omega) _).setCell (by show w.heap.size ≤ w.heap.size + 1 + 1; omega) _).setCell (by show w.heap.size ≤ w.heap.size + 1 + 1; omega) _).setCell (by show w.heap.size ≤ w.heap.size + 1 + 1; omega) _).setCell (by show w.heap.size ≤ w.heap.size + 1 + 1; omega) _).setCell (by show w.heap.size ≤ w.heap.size + 1 + 1; omega) _
end Go.Proofs.YtfgjogmgcamfdaaDoor
