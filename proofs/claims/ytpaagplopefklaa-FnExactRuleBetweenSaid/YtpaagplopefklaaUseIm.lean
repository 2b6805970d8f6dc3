/- The program's use of a rule in a state. -/
import Derived.Test.YtpaagplopefklaaPt
import Derived.Test.YtpaagplopefklaaUseSp
namespace Go.Proofs.Ytpaagplopefklaa
open Go.RowKit

/-- The boxes of 'made': a rule, a state, a zero. -/
def madeW (w : World) (a b c : Value) (st : List Int) (m : Nat) : World :=
  ((w.alloc (.cells #[a, b, c] 70)).alloc (.cells #[.int .i64 (ix st 0), .int .i64 (ix st 1), .int .i64 (ix st 2), .int .i64 (ix st 3), .int .i64 (ix st 4), .int .i64 m] 84)).alloc
    (.cells #[.int .i64 0, .int .i64 0, .int .i64 0, .int .i64 0, .int .i64 0, .int .i64 0] 84)
theorem madeW_size (w : World) (a b c : Value) (st : List Int) (m : Nat) : (madeW w a b c st m).heap.size = w.heap.size + 3 := by unfold madeW; simp
theorem madeW_box {w : World} {a b c : Value} {st : List Int} {m : Nat} {W : World} (hm : m = st.length) (hW : Below (w.heap.size + 3) (madeW w a b c st m) W) :
    Below w.heap.size w W ∧ W.cell? ⟨w.heap.size, 0, none⟩ = some a ∧ W.cell? ⟨w.heap.size, 1, none⟩ = some b ∧ W.cell? ⟨w.heap.size, 2, none⟩ = some c ∧ Blk W (w.heap.size + 1) 84 (ptC st) ∧
    Blk W (w.heap.size + 2) 84 [.int .i64 0, .int .i64 0, .int .i64 0, .int .i64 0, .int .i64 0, .int .i64 0] ∧ w.heap.size + 3 ≤ W.heap.size := by
  subst hm
  have hs := hW.size
  rw [madeW_size] at hs
  have k0 : Blk (madeW w a b c st st.length) w.heap.size 70 [a, b, c] := ((Blk.new w _ _).alloc _).alloc _
  have k1 : Blk (madeW w a b c st st.length) (w.heap.size + 1) 84 (ptC st) := by
    have := (Blk.new (w.alloc (.cells #[a, b, c] 70)) (ptC st).toArray 84).alloc (.cells #[.int .i64 0, .int .i64 0, .int .i64 0, .int .i64 0, .int .i64 0, .int .i64 0] 84)
    rw [World.size_alloc] at this
    exact this
  have k2 : Blk (madeW w a b c st st.length) (w.heap.size + 2) 84 [.int .i64 0, .int .i64 0, .int .i64 0, .int .i64 0, .int .i64 0, .int .i64 0] := by
    have := Blk.new ((w.alloc (.cells #[a, b, c] 70)).alloc (.cells (ptC st).toArray 84)) #[.int .i64 0, .int .i64 0, .int .i64 0, .int .i64 0, .int .i64 0, .int .i64 0] 84
    rw [World.size_alloc, World.size_alloc] at this
    exact this
  have j0 := k0.below hW (by omega)
  exact ⟨(((Below.refl w.heap.size w).alloc (Nat.le_refl _) _).alloc (by simp) _ |>.alloc (by simp; omega) _).trans (hW.mono (by omega)), j0.cell 0, j0.cell 1, j0.cell 2, k1.below hW (by omega), k2.below hW (by omega), by omega⟩

set_option maxRecDepth 100000 in
set_option maxHeartbeats 4000000 in
theorem made_any (R : Rl) (st : List Int) (A4 : Option Addr) (n4 c4 : Nat) (A5 : Option Addr) (n5 c5 : Nat) (A6 : Option Addr) (n6 c6 : Nat) (w : World) (r2 : Mem.rd w w.heap.size [.slice A5 n5 c5] R.sets) (r3 : Mem.rd w w.heap.size [.slice A6 n6 c6] R.terms)
    (RO : RuleOk R st.length) (nums : NumsOk st) (h1 : 1 ≤ st.length) (h5 : st.length ≤ 5) :
    Calls Try.prog 86 #[.agg #[.slice A4 n4 c4, .slice A5 n5 c5, .slice A6 n6 c6], ptV st] w (GivesV w (ptV (madeTo R st R.sets.length))) := by
  have L5 := rd_len r2
  have L6 := rd_len r3
  have m5 := rd_max r2
  unfold maxLen at m5
  have HS := Lib.hid (fun k (hk : k < n5) => RO.sets k (by omega))
  have HT := Lib.hid (fun k (hk : k < n5) => RO.terms k (by omega))
  have e65 : n6 = n5 := by have := RO.lens; omega
  subst e65
  obtain ⟨V, hV⟩ : ∃ V : Value, V = ptV (madeTo R st R.sets.length) := ⟨_, rfl⟩
  have E : Hid (V = ptV (madeTo R st n6)) := Lib.hid (by rw [hV, L5])
  rw [← hV]
  clear hV
  obtain ⟨m, hm⟩ : ∃ m : Nat, m = st.length := ⟨_, rfl⟩
  have HM := Lib.hid hm
  have BX := Lib.hid (fun W hW => madeW_box (w := w) (a := .slice A4 n4 c4) (b := .slice A5 n6 c5) (c := .slice A6 n6 c6) (st := st) (m := m) (W := W) HM.out hW)
  have M0 : Blk ((madeW w (.slice A4 n4 c4) (.slice A5 n6 c5) (.slice A6 n6 c6) st m).alloc (.cells #[.int .i64 (ix st 0), .int .i64 (ix st 1), .int .i64 (ix st 2), .int .i64 (ix st 3), .int .i64 (ix st 4), .int .i64 m] 84)) (w.heap.size + 3) 84 (ptC (madeTo R st 0)) := by
    have := Blk.new (madeW w (.slice A4 n4 c4) (.slice A5 n6 c5) (.slice A6 n6 c6) st m) (ptC st).toArray 84
    rw [madeW_size] at this
    unfold ptC at this
    rw [← hm] at this
    show Blk _ _ _ (ptC st)
    unfold ptC
    rw [← hm]
    exact this
  have W0 : Below (w.heap.size + 3) (madeW w (.slice A4 n4 c4) (.slice A5 n6 c5) (.slice A6 n6 c6) st m) ((madeW w (.slice A4 n4 c4) (.slice A5 n6 c5) (.slice A6 n6 c6) st m).alloc (.cells #[.int .i64 (ix st 0), .int .i64 (ix st 1), .int .i64 (ix st 2), .int .i64 (ix st 3), .int .i64 (ix st 4), .int .i64 m] 84)) := by
    have := below_alloc (madeW w (.slice A4 n4 c4) (.slice A5 n6 c5) (.slice A6 n6 c6) st m) (.cells #[.int .i64 (ix st 0), .int .i64 (ix st 1), .int .i64 (ix st 2), .int .i64 (ix st 3), .int .i64 (ix st 4), .int .i64 m] 84)
    rw [madeW_size] at this
    exact this
  have M0 := Lib.hid M0
  have W0 := Lib.hid W0
  have HSL := fun W => run_pt_slice ⟨w.heap.size + 1, 0, none⟩ m (by omega) W
  rw [show ptV st = .agg #[.int .i64 (ix st 0), .int .i64 (ix st 1), .int .i64 (ix st 2), .int .i64 (ix st 3), .int .i64 (ix st 4), .int .i64 m] by unfold ptV; rw [hm]]
  rw [← hm] at h1 h5
  clear hm
  go_enter Try.func86, Try.ntmps86
  go_wp2
  go_loopg [6, 7, 12] n6 (fun mm i6 i7 i wr => ∃ k : Nat, k + mm = n6 ∧ i = .int .i64 k ∧ Blk wr (w.heap.size + 3) 84 (ptC (madeTo R st k)) ∧ Below (w.heap.size + 3) (madeW w (.slice A4 n4 c4) (.slice A5 n6 c5) (.slice A6 n6 c6) st m) wr)
  case atStart => exact ⟨0, by omega, rfl, M0.out, W0.out⟩
  case round =>
    clear M0 W0
    obtain ⟨k, hk, rfl, hm, hb⟩ := hrel
    obtain ⟨B, x0, x1, x2, kO, kZ, lx⟩ := BX.out _ hb
    by_cases hlt : k < n6
    · obtain ⟨ad5, rfl, hbl5, d5⟩ := ((rd_ints.1 (Mem.rd_below r2 B)).2).int hlt
      have hlt6 : k < n6 := by omega
      obtain ⟨ad6, A7, n7, c7, rfl, hbl6, d6, r7⟩ := ll_at (Mem.rd_below r3 B) hlt6
      obtain ⟨v, hv⟩ : ∃ v : Nat, ix R.sets k = v := ⟨(ix R.sets k).toNat, by have := HS.out k hlt; omega⟩
      have hl := HM.out
      have hv3 : v < m := by have := HS.out k hlt; omega
      have hv5 : v < 5 := by omega
      rw [hv] at d5
      obtain ⟨ks2, hks2⟩ := (HT.out k hlt).ks
      have t_lo := (HT.out k hlt).lo
      have t_hi := (HT.out k hlt).hi
      have L7 := rd_len r7
      rw [L7] at hks2 t_lo t_hi
      have CV : Hid (Calls Try.prog 85 #[.slice A7 n7 c7, .slice (some ⟨w.heap.size + 1, 0, none⟩) m 5] wr.drew (GivesInt wr.drew (valB (el R.terms k) st))) := Lib.hid (by
        have := valueIn_any A7 n7 c7 (some ⟨w.heap.size + 1, 0, none⟩) m 5 (el R.terms k) st ks2 wr.drew (rd_tms.1 (Mem.rd_drew (Mem.rd_more r7 B.size))).2 (by have := kO.pt (by omega); rw [← hl] at this; exact this) t_hi t_lo nums hks2
        unfold valB
        rw [L7]
        exact this)
      have hblA : (ad5.add k).block < wr.heap.size := by rw [add_block]; exact Nat.lt_of_lt_of_le hbl5 B.size
      have hblB : (ad6.add k).block < wr.heap.size := by rw [add_block]; exact Nat.lt_of_lt_of_le hbl6 B.size
      have hfA : (ad5.add k).block ≠ w.heap.size + 3 := by rw [add_block]; omega
      have hfB : (ad6.add k).block ≠ w.heap.size + 3 := by rw [add_block]; omega
      have MS := Lib.hid (made_succ R st hv)
      have HIX := fun W => run_pt_index (w.heap.size + 1 + 1 + 1) v hv5 W
      have hlm := len_made R st k
      have o5 : wr.cell? ⟨w.heap.size + 1, 5, none⟩ = some (.int .i64 m) := by have := kO.cell 5; rw [hl]; exact this
      have HKM := Lib.hid hm
      have lm := hm.lt
      clear hks2 t_lo t_hi hv hm kO kZ hl hlm
      go_wp2
      go_region_held3 (fun w' => w'.cell? ⟨w.heap.size, 2, none⟩ = some (.slice (some ad6) n6 c6) ∧ w'.cell? ⟨w.heap.size + 1, 5, none⟩ = some (.int .i64 m) ∧ w'.cell? (ad6.add k) = some (.slice A7 n7 c7)) (first | go_keep | exact ⟨set_far (by show w.heap.size ≠ w.heap.size + 1 + 1 + 1; omega) y3, set_far (by show w.heap.size + 1 ≠ w.heap.size + 1 + 1 + 1; omega) y4, set_far hfB y6⟩)
        ((go_at_call 85; refine (CV.out).mono ?_; rintro e w3 ⟨rfl, b3⟩
          have y3 := cell_below b3 (p := ⟨w.heap.size, 2, none⟩) (by show w.heap.size < wr.heap.size; omega) x2
          have y4 := cell_below b3 (p := ⟨w.heap.size + 1, 5, none⟩) (by show w.heap.size + 1 < wr.heap.size; omega) o5
          have y6 := cell_below b3 (p := ad6.add k) hblB d6
          have b3' : Below wr.heap.size wr w3 := ⟨b3.os, b3.tape, b3.output, b3.size, b3.block⟩
          have H3 := Lib.hid (HKM.out.below b3' lm)
          have f0 := H3.out.frozen v
          have c0 : w3.cell? ⟨w.heap.size + 3, v, none⟩ = some (.int .i64 (ix (madeTo R st k) v)) := by rw [H3.out.cell]; exact ptC_at (by have := HM.out; have := len_made R st k; omega) (by have := HM.out; have := len_made R st k; omega)))
      go_wp2
      go_roundg (n6 - (k + 1))
      case measure => omega
      case rel =>
        refine ⟨k + 1, by omega, by go_num, ?_, (hb.trans (b3'.mono lx)).setCell (Nat.le_refl _) _⟩
        rw [MS.out, ← ptC_set (by have := HM.out; have := len_made R st k; omega) (by have := HM.out; have := len_made R st k; omega)]
        exact H3.out.set _ _
    · obtain rfl : k = n6 := by omega
      have M3 : Hid (Blk wr (w.heap.size + 3) 84 (ptC (madeTo R st k))) := Lib.hid hm
      obtain ⟨p0, p1, p2, p3, p4, p5⟩ := pt_cells hm
      obtain ⟨q0, q1, q2, q3, q4, q5⟩ := six_cells kZ
      obtain ⟨f0, f1, f2, f3, f4, f5⟩ := six_frozen kZ
      clear kZ kO hm
      go_wp2_with fail
      refine bodyPost_ret (v := ptV (madeTo R st k)) (by simp [results, Try.results86, go_sem, q0, q1, q2, q3, q4, q5, ptV]) rfl ⟨congrArg Ending.returned E.out.symm, ?_⟩
      exact (((((B.setCell (by show w.heap.size ≤ w.heap.size + 1 + 1; omega) _).setCell (by show w.heap.size ≤ w.heap.size + 1 + 1; omega) _).setCell (by show w.heap.size ≤ w.heap.size + 1 + 1; omega) _).setCell (by show w.heap.size ≤ w.heap.size + 1 + 1; omega) _).setCell (by show w.heap.size ≤ w.heap.size + 1 + 1; omega) _).setCell (by show w.heap.size ≤ w.heap.size + 1 + 1; omega) _
end Go.Proofs.Ytpaagplopefklaa
namespace Go.Proofs.Ytpaagplopefklaa
open Go.RowKit

def useB (s : Sy) (st : List Int) (r : Nat) : Bool := decide (0 < (useL s st r).length)
/-- The boxes of 'use': a system, a state, a zero, a rule. -/
def useW (w : World) (v1 v2 a b c : Value) (st : List Int) (m : Nat) : World :=
  (((w.alloc (.cells #[v1, v2] 31)).alloc (.cells #[.int .i64 (ix st 0), .int .i64 (ix st 1), .int .i64 (ix st 2), .int .i64 (ix st 3), .int .i64 (ix st 4), .int .i64 m] 84)).alloc
    (.cells #[.int .i64 0, .int .i64 0, .int .i64 0, .int .i64 0, .int .i64 0, .int .i64 0] 84)).alloc (.cells #[a, b, c] 70)
theorem useW_size (w : World) (v1 v2 a b c : Value) (st : List Int) (m : Nat) : (useW w v1 v2 a b c st m).heap.size = w.heap.size + 4 := by unfold useW; simp
theorem useW_box {w : World} {v1 v2 a b c : Value} {st : List Int} {m : Nat} {W : World} (hm : m = st.length) (hW : Below (w.heap.size + 4) (useW w v1 v2 a b c st m) W) :
    Below w.heap.size w W ∧ (W.cell? ⟨w.heap.size, 0, none⟩ = some v1 ∧ W.cell? ⟨w.heap.size, 1, none⟩ = some v2) ∧ (W.cell? ⟨w.heap.size + 3, 0, none⟩ = some a ∧ W.cell? ⟨w.heap.size + 3, 1, none⟩ = some b ∧ W.cell? ⟨w.heap.size + 3, 2, none⟩ = some c) ∧ Blk W (w.heap.size + 1) 84 (ptC st) ∧
    Blk W (w.heap.size + 2) 84 [.int .i64 0, .int .i64 0, .int .i64 0, .int .i64 0, .int .i64 0, .int .i64 0] ∧ w.heap.size + 4 ≤ W.heap.size := by
  subst hm
  have hs := hW.size
  rw [useW_size] at hs
  have k0 : Blk (useW w v1 v2 a b c st st.length) w.heap.size 31 [v1, v2] := (((Blk.new w _ _).alloc _).alloc _).alloc _
  have k1 : Blk (useW w v1 v2 a b c st st.length) (w.heap.size + 1) 84 (ptC st) := by
    have := ((Blk.new (w.alloc (.cells #[v1, v2] 31)) (ptC st).toArray 84).alloc (.cells #[.int .i64 0, .int .i64 0, .int .i64 0, .int .i64 0, .int .i64 0, .int .i64 0] 84)).alloc (.cells #[a, b, c] 70)
    rw [World.size_alloc] at this
    exact this
  have k2 : Blk (useW w v1 v2 a b c st st.length) (w.heap.size + 2) 84 [.int .i64 0, .int .i64 0, .int .i64 0, .int .i64 0, .int .i64 0, .int .i64 0] := by
    have := (Blk.new ((w.alloc (.cells #[v1, v2] 31)).alloc (.cells (ptC st).toArray 84)) #[.int .i64 0, .int .i64 0, .int .i64 0, .int .i64 0, .int .i64 0, .int .i64 0] 84).alloc (.cells #[a, b, c] 70)
    rw [World.size_alloc, World.size_alloc] at this
    exact this
  have k3 : Blk (useW w v1 v2 a b c st st.length) (w.heap.size + 3) 70 [a, b, c] := by
    have := Blk.new (((w.alloc (.cells #[v1, v2] 31)).alloc (.cells (ptC st).toArray 84)).alloc (.cells #[.int .i64 0, .int .i64 0, .int .i64 0, .int .i64 0, .int .i64 0, .int .i64 0] 84)) #[a, b, c] 70
    rw [World.size_alloc, World.size_alloc, World.size_alloc] at this
    exact this
  have j0 := k0.below hW (by omega)
  have j3 := k3.below hW (by omega)
  have q0 : Below w.heap.size w (useW w v1 v2 a b c st st.length) := ((((Below.refl w.heap.size w).alloc (Nat.le_refl _) _).alloc (by simp) _).alloc (by simp; omega) _).alloc (by simp; omega) _
  exact ⟨q0.trans (hW.mono (by omega)), ⟨j0.cell 0, j0.cell 1⟩, ⟨j3.cell 0, j3.cell 1, j3.cell 2⟩, k1.below hW (by omega), k2.below hW (by omega), by omega⟩

theorem pt_nil : ptV [] = .agg #[.int .i64 0, .int .i64 0, .int .i64 0, .int .i64 0, .int .i64 0, .int .i64 0] := rfl

set_option maxRecDepth 100000 in
set_option maxHeartbeats 4000000 in
theorem useP_any (s : Sy) (st : List Int) (r : Nat) (A1 : Option Addr) (n1 c1 : Nat) (A2 : Option Addr) (n2 c2 : Nat) (w : World) (h1 : Mem.rd w w.heap.size [.slice A1 n1 c1] s.vars) (h2 : Mem.rd w w.heap.size [.slice A2 n2 c2] s.rules)
    (hs : SysOk s) (hin : hasB s.vars st = true) (hr : r < s.rules.length) :
    Calls Try.prog 59 #[.agg #[.slice A1 n1 c1, .slice A2 n2 c2], ptV st, .int .i64 r] w (GivesV w (.tuple #[ptV (useL s st r), .bool (useB s st r)])) := by
  have RO := hs.rules r hr
  have nums := sys_nums hs hin
  have hl := has_len hin
  have hlo := hs.lo
  have hhi := hs.hi
  have hmo := hs.most
  have L2 := rd_len h2
  rw [← hl] at RO
  have hr2 : r < n2 := by omega
  have hn2 : n2 ≤ 8 := by omega
  obtain ⟨m, hm⟩ : ∃ m : Nat, m = st.length := ⟨_, rfl⟩
  have HM := Lib.hid hm
  have hn3 : 1 ≤ m ∧ m ≤ 5 := by omega
  obtain ⟨ad, A4, n4, c4, A5, n5, c5, A6, n6, c6, rfl, hbl, d0, d1, d2, r1, r2, r3⟩ := rl_at h2 hr2
  have E : Hid (useL s st r = useR (el s.rules r) s.vars st) := Lib.hid rfl
  generalize el s.rules r = R at RO r1 r2 r3 E
  have L4 := rd_len r1
  obtain ⟨ks, hks⟩ := RO.cond.ks
  have c_lo := RO.cond.lo
  have c_hi := RO.cond.hi
  rw [L4] at hks c_lo c_hi
  have BX := Lib.hid (fun W hW => useW_box (w := w) (v1 := .slice A1 n1 c1) (v2 := .slice (some ad) n2 c2) (a := .slice A4 n4 c4) (b := .slice A5 n5 c5) (c := .slice A6 n6 c6) (st := st) (m := m) (W := W) HM.out hW)
  have hblk : (ad.add (r * 3)).block < w.heap.size := by rw [add_block]; exact hbl
  have BT := fun o o' o'' => (((Below.refl w.heap.size w).alloc (Nat.le_refl _) o).alloc (by simp) o').alloc (by simp; omega) o''
  have hD := fun o o' o'' => cell_below (BT o o' o'') hblk d0
  have hD1 := fun o o' o'' => cell_below (p := ⟨(ad.add (r * 3)).block, (ad.add (r * 3)).off + 1, none⟩) (BT o o' o'') hblk d1
  have hD2 := fun o o' o'' => cell_below (p := ⟨(ad.add (r * 3)).block, (ad.add (r * 3)).off + 2, none⟩) (BT o o' o'') hblk d2
  clear BT
  have b0 : Below (w.heap.size + 4) (useW w (.slice A1 n1 c1) (.slice (some ad) n2 c2) (.slice A4 n4 c4) (.slice A5 n5 c5) (.slice A6 n6 c6) st m) (useW w (.slice A1 n1 c1) (.slice (some ad) n2 c2) (.slice A4 n4 c4) (.slice A5 n5 c5) (.slice A6 n6 c6) st m).drew := ⟨rfl, rfl, rfl, Nat.le_refl _, fun _ _ => rfl⟩
  obtain ⟨B0, ⟨s0, s1⟩, ⟨x0, x1, x2⟩, kO, kZ, lx⟩ := BX.out _ b0
  have CV : Hid (Calls Try.prog 85 #[.slice A4 n4 c4, .slice (some ⟨w.heap.size + 1, 0, none⟩) m 5] _ (GivesInt (useW w (.slice A1 n1 c1) (.slice (some ad) n2 c2) (.slice A4 n4 c4) (.slice A5 n5 c5) (.slice A6 n6 c6) st m).drew (valB R.cond st))) := Lib.hid (by
    have := valueIn_any A4 n4 c4 (some ⟨w.heap.size + 1, 0, none⟩) m 5 R.cond st ks _ (rd_tms.1 (Mem.rd_on r1 B0)).2 (by have := kO.pt (by omega); rw [← hm] at this; exact this) c_hi c_lo nums hks
    unfold valB
    rw [L4]
    exact this)
  have o5 : (useW w (.slice A1 n1 c1) (.slice (some ad) n2 c2) (.slice A4 n4 c4) (.slice A5 n5 c5) (.slice A6 n6 c6) st m).drew.cell? ⟨w.heap.size + 1, 5, none⟩ = some (.int .i64 m) := by rw [kO.cell 5]; show some (Value.int .i64 (st.length : Int)) = some (.int .i64 (m : Int)); rw [← hm]
  have HSL := fun W => run_pt_slice ⟨w.heap.size + 1, 0, none⟩ m (by omega) W
  have MC := Lib.hid (fun W (b : Below w.heap.size w W) => made_any R st A4 n4 c4 A5 n5 c5 A6 n6 c6 W (Mem.rd_on r2 b) (Mem.rd_on r3 b) RO nums (by omega) (by omega))
  rw [show ptV st = .agg #[.int .i64 (ix st 0), .int .i64 (ix st 1), .int .i64 (ix st 2), .int .i64 (ix st 3), .int .i64 (ix st 4), .int .i64 m] by unfold ptV; rw [hm]] at MC ⊢
  obtain ⟨V, hV⟩ : ∃ V : Value, V = .tuple #[ptV (useL s st r), .bool (useB s st r)] := ⟨_, rfl⟩
  rw [← hV]
  have HV := Lib.hid hV
  clear hV hks c_lo c_hi hl hm kO kZ RO
  by_cases z : valB R.cond st = 0
  · have E2 : Hid (V = .tuple #[.agg #[.int .i64 0, .int .i64 0, .int .i64 0, .int .i64 0, .int .i64 0, .int .i64 0], .bool false]) := Lib.hid (by
      have e : useL s st r = [] := by rw [E.out]; exact use_zero z
      rw [HV.out]; unfold useB; rw [e]; rfl)
    rw [z] at CV
    go_enter Try.func59, Try.ntmps59
    go_wp2
    go_region_held3 (fun w' => w'.cell? ⟨w.heap.size + 3, 0, none⟩ = some (.slice A4 n4 c4) ∧ w'.cell? ⟨w.heap.size + 1, 5, none⟩ = some (.int .i64 m)) (first | exact ⟨x0, o5⟩ | go_keep)
      ((go_at_call 85; refine (CV.out).mono ?_; rintro e w3 ⟨rfl, b3⟩
        have b3' := b0.trans (b3.mono (by show _ ≤ (useW _ _ _ _ _ _ _ _).heap.size; rw [useW_size]; omega))
        obtain ⟨B3, ⟨y0, y1⟩, ⟨y2, y3, y4⟩, kO, kZ, ly⟩ := BX.out _ b3'
        have y5 : w3.cell? ⟨w.heap.size + 1, 5, none⟩ = some (.int .i64 m) := by rw [kO.cell 5]; show some (Value.int .i64 (st.length : Int)) = some (.int .i64 (m : Int)); rw [← HM.out]))
    obtain ⟨q0, q1, q2, q3, q4, q5⟩ := six_cells kZ
    obtain ⟨f0, f1, f2, f3, f4, f5⟩ := six_frozen kZ
    clear kZ kO
    go_wp2_with fail
    refine bodyPost_ret (v := .tuple #[.agg #[.int .i64 0, .int .i64 0, .int .i64 0, .int .i64 0, .int .i64 0, .int .i64 0], .bool false]) (by simp [results, Try.results59, go_sem, q0, q1, q2, q3, q4, q5]) rfl ⟨congrArg Ending.returned E2.out.symm, ?_⟩
    exact (((((B3.setCell (by show w.heap.size ≤ w.heap.size + 1 + 1; omega) _).setCell (by show w.heap.size ≤ w.heap.size + 1 + 1; omega) _).setCell (by show w.heap.size ≤ w.heap.size + 1 + 1; omega) _).setCell (by show w.heap.size ≤ w.heap.size + 1 + 1; omega) _).setCell (by show w.heap.size ≤ w.heap.size + 1 + 1; omega) _).setCell (by show w.heap.size ≤ w.heap.size + 1 + 1; omega) _
  · have hz : (valB R.cond st == 0) = false := by simp [z]
    obtain ⟨F, hF⟩ : ∃ F : List Int, F = madeTo R st R.sets.length := ⟨_, rfl⟩
    have hlF : F.length = m := by rw [hF, len_made]; exact HM.out.symm
    have E3 : Hid (useL s st r = if hasB s.vars F then F else []) := Lib.hid (by rw [E.out, hF]; unfold useR; rw [if_neg z])
    rw [← hF] at MC
    rw [show ptV F = .agg #[.int .i64 (ix F 0), .int .i64 (ix F 1), .int .i64 (ix F 2), .int .i64 (ix F 3), .int .i64 (ix F 4), .int .i64 m] by unfold ptV; rw [hlF]] at MC
    have HLF := Lib.hid hlF
    clear hF hlF E
    go_enter Try.func59, Try.ntmps59
    go_wp2
    go_region_held3 (fun w' => w'.cell? ⟨w.heap.size + 3, 0, none⟩ = some (.slice A4 n4 c4) ∧ w'.cell? ⟨w.heap.size + 1, 5, none⟩ = some (.int .i64 m)) (first | exact ⟨x0, o5⟩ | go_keep)
      ((go_at_call 85; refine (CV.out).mono ?_; rintro e w3 ⟨rfl, b3⟩
        have b3' := b0.trans (b3.mono (by show _ ≤ (useW _ _ _ _ _ _ _ _).heap.size; rw [useW_size]; omega))
        obtain ⟨B3, ⟨y0, y1⟩, ⟨y2, y3, y4⟩, kO, kZ, ly⟩ := BX.out _ b3'
        have y5 : w3.cell? ⟨w.heap.size + 1, 5, none⟩ = some (.int .i64 m) := by rw [kO.cell 5]; show some (Value.int .i64 (st.length : Int)) = some (.int .i64 (m : Int)); rw [← HM.out]))
    obtain ⟨u0, u1, u2, u3, u4, _⟩ := pt_cells kO
    clear kO kZ s0 s1 x0 x1 x2 o5 B0 lx
    go_wp2_with fail
    refine (MC.out _ B3).mono ?_
    rintro e w4 ⟨rfl, b4⟩
    have b4' := b3'.trans (b4.mono ly)
    have b5 := b4'.trans ((below_alloc w4 (.cells #[.int .i64 (ix F 0), .int .i64 (ix F 1), .int .i64 (ix F 2), .int .i64 (ix F 3), .int .i64 (ix F 4), .int .i64 m] 84)).mono (Nat.le_trans ly b4.size))
    have kM : Blk (w4.alloc (.cells #[.int .i64 (ix F 0), .int .i64 (ix F 1), .int .i64 (ix F 2), .int .i64 (ix F 3), .int .i64 (ix F 4), .int .i64 m] 84)) w4.heap.size 84 (ptC F) := by
      have := Blk.new w4 (ptC F).toArray 84
      unfold ptC at this ⊢
      rw [HLF.out] at this ⊢
      exact this
    have m5 : (w4.alloc (.cells #[.int .i64 (ix F 0), .int .i64 (ix F 1), .int .i64 (ix F 2), .int .i64 (ix F 3), .int .i64 (ix F 4), .int .i64 m] 84)).cell? ⟨w4.heap.size, 5, none⟩ = some (.int .i64 m) := by rw [kM.cell 5]; show some (Value.int .i64 (F.length : Int)) = some (.int .i64 (m : Int)); rw [HLF.out]
    have l4 := Nat.le_trans ly b4.size
    obtain ⟨B5, ⟨s0, s1⟩, _, _, _, _⟩ := BX.out _ b5
    have CH := Lib.hid (hasS_any s F A1 n1 c1 (some ad) n2 c2 (some ⟨w4.heap.size, 0, none⟩) m 5 (w4.alloc (.cells #[.int .i64 (ix F 0), .int .i64 (ix F 1), .int .i64 (ix F 2), .int .i64 (ix F 3), .int .i64 (ix F 4), .int .i64 m] 84)).drew (Mem.rd_drew (Mem.rd_on h1 B5))
      (Mem.rd_drew (rd_ints.2 ⟨by unfold maxLen; omega, by have := kM.pt (by rw [HLF.out]; omega); rw [HLF.out] at this; exact this⟩)))
    have HSM := fun W => run_pt_slice ⟨w4.heap.size, 0, none⟩ m (by omega) W
    have HKM := Lib.hid kM
    clear kM
    cases hz2 : hasB s.vars F
    · have E2 : Hid (V = .tuple #[.agg #[.int .i64 0, .int .i64 0, .int .i64 0, .int .i64 0, .int .i64 0, .int .i64 0], .bool false]) := Lib.hid (by
        have e : useL s st r = [] := by rw [E3.out, hz2]; rfl
        rw [HV.out]; unfold useB; rw [e]; rfl)
      have HZ := Lib.hid hz2; clear hz2
      go_wp2
      go_region_held3 (fun w' => w'.cell? ⟨w.heap.size, 0, none⟩ = some (.slice A1 n1 c1) ∧ w'.cell? ⟨w.heap.size, 1, none⟩ = some (.slice (some ad) n2 c2) ∧ w'.cell? ⟨w4.heap.size, 5, none⟩ = some (.int .i64 m)) (first | exact ⟨s0, s1, m5⟩ | go_keep)
        ((go_at_call 56; refine (CH.out).mono ?_; rintro e w6 ⟨rfl, b6⟩; rw [HZ.out]
          have b6n : Below (w4.alloc (.cells #[.int .i64 (ix F 0), .int .i64 (ix F 1), .int .i64 (ix F 2), .int .i64 (ix F 3), .int .i64 (ix F 4), .int .i64 m] 84)).heap.size (w4.alloc (.cells #[.int .i64 (ix F 0), .int .i64 (ix F 1), .int .i64 (ix F 2), .int .i64 (ix F 3), .int .i64 (ix F 4), .int .i64 m] 84)) w6 := ⟨b6.os, b6.tape, b6.output, b6.size, b6.block⟩
          have b6' := b5.trans (b6n.mono (by rw [World.size_alloc]; exact Nat.le_trans ly (Nat.le_trans b4.size (Nat.le_succ _))))
          obtain ⟨B6, ⟨t0, t1⟩, _, _, kZ, _⟩ := BX.out _ b6'
          have H6 := Lib.hid (HKM.out.below b6n (by show w4.heap.size < (w4.alloc _).heap.size; rw [World.size_alloc]; omega))
          have t5 : w6.cell? ⟨w4.heap.size, 5, none⟩ = some (.int .i64 m) := by rw [H6.out.cell 5]; show some (Value.int .i64 (F.length : Int)) = some (.int .i64 (m : Int)); rw [HLF.out]))
      obtain ⟨q0, q1, q2, q3, q4, q5⟩ := six_cells kZ
      obtain ⟨f0, f1, f2, f3, f4, f5⟩ := six_frozen kZ
      obtain ⟨g0, g1, g2, g3, g4, _⟩ := pt_cells H6.out
      clear kZ
      go_wp2_with fail
      refine bodyPost_ret (v := .tuple #[.agg #[.int .i64 0, .int .i64 0, .int .i64 0, .int .i64 0, .int .i64 0, .int .i64 0], .bool false]) (by simp [results, Try.results59, go_sem, q0, q1, q2, q3, q4, q5]) rfl ⟨congrArg Ending.returned E2.out.symm, ?_⟩
      exact (((((B6.setCell (by show w.heap.size ≤ w.heap.size + 1 + 1; omega) _).setCell (by show w.heap.size ≤ w.heap.size + 1 + 1; omega) _).setCell (by show w.heap.size ≤ w.heap.size + 1 + 1; omega) _).setCell (by show w.heap.size ≤ w.heap.size + 1 + 1; omega) _).setCell (by show w.heap.size ≤ w.heap.size + 1 + 1; omega) _).setCell (by show w.heap.size ≤ w.heap.size + 1 + 1; omega) _
    · have E2 : Hid (V = .tuple #[.agg #[.int .i64 (ix F 0), .int .i64 (ix F 1), .int .i64 (ix F 2), .int .i64 (ix F 3), .int .i64 (ix F 4), .int .i64 m], .bool true]) := Lib.hid (by
        have e : useL s st r = F := by rw [E3.out, hz2]; rfl
        rw [HV.out]; unfold useB ptV; rw [e, HLF.out, decide_eq_true (by omega)])
      have HZ := Lib.hid hz2; clear hz2
      go_wp2
      go_region_held3 (fun w' => w'.cell? ⟨w.heap.size, 0, none⟩ = some (.slice A1 n1 c1) ∧ w'.cell? ⟨w.heap.size, 1, none⟩ = some (.slice (some ad) n2 c2) ∧ w'.cell? ⟨w4.heap.size, 5, none⟩ = some (.int .i64 m)) (first | exact ⟨s0, s1, m5⟩ | go_keep)
        ((go_at_call 56; refine (CH.out).mono ?_; rintro e w6 ⟨rfl, b6⟩; rw [HZ.out]
          have b6n : Below (w4.alloc (.cells #[.int .i64 (ix F 0), .int .i64 (ix F 1), .int .i64 (ix F 2), .int .i64 (ix F 3), .int .i64 (ix F 4), .int .i64 m] 84)).heap.size (w4.alloc (.cells #[.int .i64 (ix F 0), .int .i64 (ix F 1), .int .i64 (ix F 2), .int .i64 (ix F 3), .int .i64 (ix F 4), .int .i64 m] 84)) w6 := ⟨b6.os, b6.tape, b6.output, b6.size, b6.block⟩
          have b6' := b5.trans (b6n.mono (by rw [World.size_alloc]; exact Nat.le_trans ly (Nat.le_trans b4.size (Nat.le_succ _))))
          obtain ⟨B6, ⟨t0, t1⟩, _, _, kZ, _⟩ := BX.out _ b6'
          have H6 := Lib.hid (HKM.out.below b6n (by show w4.heap.size < (w4.alloc _).heap.size; rw [World.size_alloc]; omega))
          have t5 : w6.cell? ⟨w4.heap.size, 5, none⟩ = some (.int .i64 m) := by rw [H6.out.cell 5]; show some (Value.int .i64 (F.length : Int)) = some (.int .i64 (m : Int)); rw [HLF.out]))
      obtain ⟨q0, q1, q2, q3, q4, q5⟩ := six_cells kZ
      obtain ⟨f0, f1, f2, f3, f4, f5⟩ := six_frozen kZ
      obtain ⟨g0, g1, g2, g3, g4, _⟩ := pt_cells H6.out
      clear kZ
      go_wp2_with fail
      refine bodyPost_ret (v := .tuple #[.agg #[.int .i64 (ix F 0), .int .i64 (ix F 1), .int .i64 (ix F 2), .int .i64 (ix F 3), .int .i64 (ix F 4), .int .i64 m], .bool true]) (by simp [results, Try.results59, go_sem, q0, q1, q2, q3, q4, q5]) rfl ⟨congrArg Ending.returned E2.out.symm, ?_⟩
      exact (((((B6.setCell (by show w.heap.size ≤ w.heap.size + 1 + 1; omega) _).setCell (by show w.heap.size ≤ w.heap.size + 1 + 1; omega) _).setCell (by show w.heap.size ≤ w.heap.size + 1 + 1; omega) _).setCell (by show w.heap.size ≤ w.heap.size + 1 + 1; omega) _).setCell (by show w.heap.size ≤ w.heap.size + 1 + 1; omega) _).setCell (by show w.heap.size ≤ w.heap.size + 1 + 1; omega) _
end Go.Proofs.Ytpaagplopefklaa
