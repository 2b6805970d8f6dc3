/- The state with a number, of the model. -/
import Derived.Test.YtnhjcokmajejcaaIl
import Derived.Test.YtnhjcokmajejcaaIntApp
import Derived.Test.YtnhjcokmajejcaaSet
import Derived.Test.YtnhjcokmajejcaaPt
import Derived.Test.YtnhjcokmajejcaaUseSp
import Derived.Deep.RegionHeld3
import Derived.IntWalk
import Derived.Test.YtnhjcokmajejcaaSysH
import Derived.RegionTactic
import Derived.BigRegion
namespace Go.Proofs.Ytnhjcokmajejcaa
open Go.RowKit

set_option maxHeartbeats 1000000 in
theorem l3CopyI_any (A : Option Addr) (n c : Nat) (l : List Int) (w : World) (h : Mem.rd w w.heap.size [.slice A n c] l) (hn : n ≤ 1048576) :
    Calls Try.prog 80 #[.slice A n c] w (GivesInts w l) := by
  have L := Lib.hid (rd_len h)
  have h' := (rd_ints.1 h).2
  have hown0 := World.ownsRow_lit (base := w.heap.size) (e := 3) (size := 1) w #[] 0 (Nat.le_refl _) (by unfold maxLen; omega) rfl
  go_enter Try.func80, Try.ntmps80
  go_wp2
  go_loopg [3, 4] n (fun m v i wr => ∃ k : Nat, k + m = n ∧ i = .int .i64 k ∧ wr.ownsRow w.heap.size 3 1 v k (ints (l.take k)) ∧ Below w.heap.size w wr)
  case atStart => exact ⟨0, by omega, rfl, hown0, below_alloc _ _⟩
  case round =>
    clear hown0
    obtain ⟨k, hk, rfl, ho, hb⟩ := hrel
    by_cases hlt : k < n
    · obtain ⟨ad3, rfl, hbl3, d3⟩ := (h'.below hb).int hlt
      have HO := Lib.hid ho
      go_wp2_with (first
        | (at_builtin; refine app_int_at rfl _ _ rfl w.heap.size _ k _ _ _ rfl (HO.out.alloc _) rfl (World.cell?_alloc_at _ _ _ _ (by simp)) (by omega) (by have := hb.size; simp; omega) ?_; intro v' w4 ho4 hb4))
      go_roundg (n - (k + 1))
      case measure => omega
      case rel => exact ⟨k + 1, by omega, by go_num, by rw [take_el (by rw [L.out]; omega)]; exact ho4, (hb.alloc hb.size _).trans hb4⟩
    · obtain rfl : k = n := by omega
      go_wp2
      go_ret
      rw [List.take_of_length_le (by rw [L.out]; omega)] at ho
      have hl := L.out
      have hk : k = l.length := hl.symm
      rw [hk] at ho
      exact ⟨_, rfl, ho, hb⟩

theorem l3Copy_any (A : Option Addr) (n c : Nat) (l : List Int) (w : World) (h : Mem.rd w w.heap.size [.slice A n c] l) (hn : n ≤ 1048576) :
    Calls Try.prog 80 #[.slice A n c] w (GivesL w l) :=
  (l3CopyI_any A n c l w h hn).mono fun _ _ q => givesL_of q (by rw [rd_len h]; unfold maxLen; omega)
end Go.Proofs.Ytnhjcokmajejcaa
namespace Go.Proofs.Ytnhjcokmajejcaa
open Go.RowKit

/-- The boxes of 'at': a system, a zero. -/
def atW (w : World) (a b : Value) : World :=
  (w.alloc (.cells #[a, b] 33)).alloc (.cells #[.int .i64 0, .int .i64 0, .int .i64 0, .int .i64 0, .int .i64 0, .int .i64 0] 134)
theorem atW_size (w : World) (a b : Value) : (atW w a b).heap.size = w.heap.size + 2 := by unfold atW; simp
theorem atW_box {w : World} {a b : Value} {W : World} (hW : Below (w.heap.size + 2) (atW w a b) W) :
    Below w.heap.size w W ∧ W.cell? ⟨w.heap.size, 0, none⟩ = some a ∧ W.cell? ⟨w.heap.size, 1, none⟩ = some b ∧
    Blk W (w.heap.size + 1) 134 [.int .i64 0, .int .i64 0, .int .i64 0, .int .i64 0, .int .i64 0, .int .i64 0] ∧ w.heap.size + 2 ≤ W.heap.size := by
  have hs := hW.size
  rw [atW_size] at hs
  have k0 : Blk (atW w a b) w.heap.size 33 [a, b] := (Blk.new w _ _).alloc _
  have k2 : Blk (atW w a b) (w.heap.size + 1) 134 [.int .i64 0, .int .i64 0, .int .i64 0, .int .i64 0, .int .i64 0, .int .i64 0] := by
    have := Blk.new (w.alloc (.cells #[a, b] 33)) #[.int .i64 0, .int .i64 0, .int .i64 0, .int .i64 0, .int .i64 0, .int .i64 0] 134
    rw [World.size_alloc] at this
    exact this
  have j0 := k0.below hW (by omega)
  exact ⟨(((Below.refl w.heap.size w).alloc (Nat.le_refl _) _).alloc (by simp) _).trans (hW.mono (by omega)), j0.cell 0, j0.cell 1, k2.below hW (by omega), by omega⟩
theorem ix_rep (m i : Nat) : ix (List.replicate m 0) i = 0 := by
  unfold ix
  rw [List.getElem?_replicate]
  split <;> rfl
theorem ptC_rep (m : Nat) : ptC (List.replicate m 0) = [.int .i64 0, .int .i64 0, .int .i64 0, .int .i64 0, .int .i64 0, .int .i64 m] := by
  unfold ptC
  rw [ix_rep, ix_rep, ix_rep, ix_rep, ix_rep, List.length_replicate]

set_option maxRecDepth 100000 in
set_option maxHeartbeats 4000000 in
theorem at_any (s : Sy) (n : Int) (A1 : Option Addr) (n1 c1 : Nat) (A2 : Option Addr) (n2 c2 : Nat) (w : World) (h1 : Mem.rd w w.heap.size [.slice A1 n1 c1] s.vars) (ok : SysOk s) (h0 : 0 ≤ n) (h4 : n < 400) :
    Calls Try.prog 87 #[.agg #[.slice A1 n1 c1, .slice A2 n2 c2], .int .i64 n] w (GivesV w (ptV (stL s.vars n))) := by
  have L1 := rd_len h1
  have h5 : n1 ≤ 5 := by have := ok.hi; omega
  have RB := Lib.hid (fun k (hk : k ≤ n1) => rem_bd (n := n) ok.vars h0 (m := k) (by omega))
  have VB := Lib.hid (fun j (hj : j < n1) => varB_iff.1 (ok.vars j (by omega)))
  have LL0 := Lib.hid (fun k => lay_len s.vars n (List.replicate n1 0) k)
  have NX := Lib.hid (fun k j (hj : j + k + 1 = n1) => (⟨by show (layTo s.vars n (List.replicate n1 0) k).set _ _ = _; rw [L1, show n1 - 1 - k = j by omega], by show remTo s.vars n k / _ = _; rw [L1, show n1 - 1 - k = j by omega]⟩ :
    layTo s.vars n (List.replicate n1 0) (k + 1) = (layTo s.vars n (List.replicate n1 0) k).set j ((el s.vars j).low + remTo s.vars n k % ((el s.vars j).high - (el s.vars j).low + 1)) ∧ remTo s.vars n (k + 1) = remTo s.vars n k / ((el s.vars j).high - (el s.vars j).low + 1)))
  obtain ⟨V, hV⟩ : ∃ V : Value, V = ptV (stL s.vars n) := ⟨_, rfl⟩
  have E : Hid (V = ptV (layTo s.vars n (List.replicate n1 0) n1)) := Lib.hid (by rw [hV]; unfold stL; rw [L1])
  rw [← hV]
  clear hV L1
  have BX := Lib.hid (fun W hW => atW_box (w := w) (a := .slice A1 n1 c1) (b := .slice A2 n2 c2) (W := W) hW)
  have M0 : Blk ((atW w (.slice A1 n1 c1) (.slice A2 n2 c2)).alloc (.cells #[.int .i64 0, .int .i64 0, .int .i64 0, .int .i64 0, .int .i64 0, .int .i64 n1] 134)) (w.heap.size + 2) 134 (ptC (layTo s.vars n (List.replicate n1 0) 0)) := by
    have := Blk.new (atW w (.slice A1 n1 c1) (.slice A2 n2 c2)) #[.int .i64 0, .int .i64 0, .int .i64 0, .int .i64 0, .int .i64 0, .int .i64 n1] 134
    rw [atW_size] at this
    show Blk _ _ _ (ptC (List.replicate n1 0))
    rw [ptC_rep]
    exact this
  have W0 : Below (w.heap.size + 2) (atW w (.slice A1 n1 c1) (.slice A2 n2 c2)) ((atW w (.slice A1 n1 c1) (.slice A2 n2 c2)).alloc (.cells #[.int .i64 0, .int .i64 0, .int .i64 0, .int .i64 0, .int .i64 0, .int .i64 n1] 134)) := by
    have := below_alloc (atW w (.slice A1 n1 c1) (.slice A2 n2 c2)) (.cells #[.int .i64 0, .int .i64 0, .int .i64 0, .int .i64 0, .int .i64 0, .int .i64 n1] 134)
    rw [atW_size] at this
    exact this
  have M0 := Lib.hid M0
  have W0 := Lib.hid W0
  have H0 := Lib.hid h0
  have H4 := Lib.hid h4
  clear h0 h4
  go_enter Try.func87, Try.ntmps87
  go_wp2
  go_loopg [1, 6, 7] n1 (fun m x i i7 wr => ∃ k j : Nat, k + m = n1 ∧ k + j = n1 ∧ i = .int .i64 ((j : Int) - 1) ∧ x = .int .i64 (remTo s.vars n k) ∧ Blk wr (w.heap.size + 2) 134 (ptC (layTo s.vars n (List.replicate n1 0) k)) ∧ Below (w.heap.size + 2) (atW w (.slice A1 n1 c1) (.slice A2 n2 c2)) wr)
  case atStart => exact ⟨0, n1, by omega, by omega, by go_num, rfl, M0.out, W0.out⟩
  case round =>
    clear M0 W0
    obtain ⟨k, j, hk, hkj, rfl, rfl, hm, hb⟩ := hrel
    obtain ⟨B, x0, x1, kZ, lx⟩ := BX.out _ hb
    by_cases hlt : 0 < j
    · obtain ⟨j, rfl⟩ : ∃ i, j = i + 1 := ⟨j - 1, by omega⟩
      rw [show ((j + 1 : Nat) : Int) - 1 = (j : Int) by omega]
      obtain ⟨ad, rfl, hbl, d0, d1, d2⟩ := vr_at (Mem.rd_below h1 B) (k := j) (by omega)
      obtain ⟨nx1, nx2⟩ := NX.out k j (by omega)
      have NX1 := Lib.hid nx1
      have NX2 := Lib.hid nx2
      clear nx1 nx2
      have rb := RB.out k (by omega)
      have vb := VB.out j (by omega)
      have h4 := H4.out
      have HO := Lib.hid (fun W => span_any (el s.vars j) W (by omega) (by omega) (by omega) (by omega))
      unfold Vr.v at HO
      have hlm := LL0.out k
      rw [List.length_replicate] at hlm
      have HLM := Lib.hid hlm
      have HIX := fun W => run_pt_index (w.heap.size + 1 + 1) j (by omega) W
      have er : (remTo s.vars n k).tmod ((el s.vars j).high - (el s.vars j).low + 1) = remTo s.vars n k % ((el s.vars j).high - (el s.vars j).low + 1) := Int.tmod_eq_emod_of_nonneg rb.1
      have eq : IntKind.i64.wrap ((remTo s.vars n k).tdiv ((el s.vars j).high - (el s.vars j).low + 1)) = remTo s.vars n k / ((el s.vars j).high - (el s.vars j).low + 1) := by
        rw [Int.tdiv_eq_ediv_of_nonneg rb.1]
        have a1 := Int.ediv_nonneg rb.1 (show 0 ≤ (el s.vars j).high - (el s.vars j).low + 1 by omega)
        have a2 := Int.ediv_le_self ((el s.vars j).high - (el s.vars j).low + 1) rb.1
        exact IntWalk.i64_in _ (by omega)
      have z1 := Int.emod_nonneg (remTo s.vars n k) (show (el s.vars j).high - (el s.vars j).low + 1 ≠ 0 by omega)
      have z2 := Int.emod_lt_of_pos (remTo s.vars n k) (show 0 < (el s.vars j).high - (el s.vars j).low + 1 by omega)
      have wv : IntKind.i64.wrap ((el s.vars j).low + remTo s.vars n k % ((el s.vars j).high - (el s.vars j).low + 1)) = (el s.vars j).low + remTo s.vars n k % ((el s.vars j).high - (el s.vars j).low + 1) := IntWalk.i64_in _ (by omega)
      have nz : ((el s.vars j).high - (el s.vars j).low + 1 == 0) = false := by simp; omega
      have nz' : ¬ ((el s.vars j).high - (el s.vars j).low + 1 = 0) := by omega
      have HKM := Lib.hid hm
      have lm := hm.lt
      clear rb vb h4 hlm z1 z2 hm kZ
      go_wp2
      go_region_held3 (fun w' => w'.cell? ⟨wr.heap.size, 0, none⟩ = some (.int .i64 (el s.vars j).low) ∧ w'.cell? ⟨wr.heap.size, 1, none⟩ = some (.int .i64 (el s.vars j).high) ∧ w'.cell? ⟨wr.heap.size, 2, none⟩ = some (.int .i64 (el s.vars j).first))
        (first | go_keep | with_reducible exact ⟨set_far (by show wr.heap.size ≠ w.heap.size + 2; omega) p0, set_far (by show wr.heap.size ≠ w.heap.size + 2; omega) p1, set_far (by show wr.heap.size ≠ w.heap.size + 2; omega) p2⟩)
        ((go_at_call 116; refine (HO.out _).mono ?_; rintro e w4 ⟨rfl, b4⟩
          have p0 := cell_below b4 (p := ⟨wr.heap.size, 0, none⟩) (by show wr.heap.size < (wr.alloc _).heap.size; rw [World.size_alloc]; omega) (by simp [go_sem]; rfl)
          have p1 := cell_below b4 (p := ⟨wr.heap.size, 1, none⟩) (by show wr.heap.size < (wr.alloc _).heap.size; rw [World.size_alloc]; omega) (by simp [go_sem]; rfl)
          have p2 := cell_below b4 (p := ⟨wr.heap.size, 2, none⟩) (by show wr.heap.size < (wr.alloc _).heap.size; rw [World.size_alloc]; omega) (by simp [go_sem]; rfl)
          have b5 := below_call (w := wr) (o := .cells #[.int .i64 (el s.vars j).low, .int .i64 (el s.vars j).high, .int .i64 (el s.vars j).first] 122) (w' := w4) ⟨b4.os, b4.tape, b4.output, b4.size, b4.block⟩
          have H3 := Lib.hid (HKM.out.below b5 lm)
          have f0 := H3.out.frozen j
          have c0 : w4.cell? ⟨w.heap.size + 2, j, none⟩ = some (.int .i64 (ix (layTo s.vars n (List.replicate n1 0) k) j)) := by rw [H3.out.cell]; exact ptC_at (by have := HLM.out; omega) (by have := HLM.out; omega)))
      have q0 := set_far (g := w.heap.size + 1 + 1) (o := j) (u := .int .i64 ((el s.vars j).low + remTo s.vars n k % ((el s.vars j).high - (el s.vars j).low + 1))) (by show wr.heap.size ≠ w.heap.size + 1 + 1; omega) p0
      have q1 := set_far (g := w.heap.size + 1 + 1) (o := j) (u := .int .i64 ((el s.vars j).low + remTo s.vars n k % ((el s.vars j).high - (el s.vars j).low + 1))) (by show wr.heap.size ≠ w.heap.size + 1 + 1; omega) p1
      have q2 := set_far (g := w.heap.size + 1 + 1) (o := j) (u := .int .i64 ((el s.vars j).low + remTo s.vars n k % ((el s.vars j).high - (el s.vars j).low + 1))) (by show wr.heap.size ≠ w.heap.size + 1 + 1; omega) p2
      go_wp2_with fail
      refine (HO.out _).mono ?_
      rintro e w6 ⟨rfl, b6⟩
      have z6 : w.heap.size + 2 ≤ w4.heap.size := Nat.le_trans lx b5.size
      have HKX := Lib.hid (show Blk w6 (w.heap.size + 2) 134 (ptC (layTo s.vars n (List.replicate n1 0) (k + 1))) by
        rw [NX1.out, ← ptC_set (by have := HLM.out; omega) (by have := HLM.out; omega)]
        have := (H3.out.set j (.int .i64 ((el s.vars j).low + remTo s.vars n k % ((el s.vars j).high - (el s.vars j).low + 1))))
        exact this.below b6 this.lt)
      have HBX := Lib.hid (show Below (w.heap.size + 2) (atW w (.slice (some ad) n1 c1) (.slice A2 n2 c2)) w6 from
        ((hb.trans (b5.mono lx)).setCell (Nat.le_refl _) _).trans (b6.mono (by simp [World.setCell]; omega)))
      go_wp2
      go_roundg j
      case measure => omega
      case rel => exact ⟨k + 1, j, by omega, by omega, by go_num, by rw [NX2.out], HKX.out, HBX.out⟩
    · obtain rfl : j = 0 := by omega
      obtain rfl : k = n1 := by omega
      have M3 : Hid (Blk wr (w.heap.size + 2) 134 (ptC (layTo s.vars n (List.replicate k 0) k))) := Lib.hid hm
      obtain ⟨p0, p1, p2, p3, p4, p5⟩ := pt_cells hm
      obtain ⟨q0, q1, q2, q3, q4, q5⟩ := six_cells kZ
      obtain ⟨f0, f1, f2, f3, f4, f5⟩ := six_frozen kZ
      clear kZ hm
      go_wp2_with fail
      refine bodyPost_ret (v := ptV (layTo s.vars n (List.replicate k 0) k)) (by simp [results, Try.results87, go_sem, q0, q1, q2, q3, q4, q5, ptV]) rfl ⟨congrArg Ending.returned E.out.symm, ?_⟩
      exact (((((B.setCell (by show w.heap.size ≤ w.heap.size + 1; omega) _).setCell (by show w.heap.size ≤ w.heap.size + 1; omega) _).setCell (by show w.heap.size ≤ w.heap.size + 1; omega) _).setCell (by show w.heap.size ≤ w.heap.size + 1; omega) _).setCell (by show w.heap.size ≤ w.heap.size + 1; omega) _).setCell (by show w.heap.size ≤ w.heap.size + 1; omega) _
end Go.Proofs.Ytnhjcokmajejcaa
namespace Go.Proofs.Ytnhjcokmajejcaa
open Go.RowKit

set_option maxRecDepth 100000 in
set_option maxHeartbeats 4000000 in
theorem l4State_any (s : Sy) (n : Int) (A1 : Option Addr) (n1 c1 : Nat) (A2 : Option Addr) (n2 c2 : Nat) (w : World) (h1 : Mem.rd w w.heap.size [.slice A1 n1 c1] s.vars) (h2 : Mem.rd w w.heap.size [.slice A2 n2 c2] s.rules) (hz : sysB s = true) (h0 : 0 ≤ n) (h4 : n < 400) :
    Calls Try.prog 36 #[.agg #[.slice A1 n1 c1, .slice A2 n2 c2], .int .i64 n] w (GivesInts w (stL s.vars n)) := by
  have L1 := rd_len h1
  have ok := sysOk_of hz
  have h5 : 1 ≤ n1 ∧ n1 ≤ 5 := by have := ok.hi; have := ok.lo; omega
  have RB := Lib.hid (fun k (hk : k ≤ n1) => rem_bd (n := n) ok.vars h0 (m := k) (by omega))
  have VB := Lib.hid (fun j (hj : j < n1) => varB_iff.1 (ok.vars j (by omega)))
  have fl := firsts_len s.vars
  obtain ⟨fs, hfs⟩ : ∃ fs, fs = firsts s.vars := ⟨_, rfl⟩
  have FC := Lib.hid (fun W (B : Below w.heap.size w W) => first_spec s A1 n1 c1 A2 n2 c2 W (Mem.rd_on h1 B) (Mem.rd_on h2 B))
  have hFB : firstB s = fs := by unfold firstB; rw [hz, hfs]; rfl
  rw [hFB] at FC
  rw [← hfs] at fl
  have LL0 := Lib.hid (fun k => (lay_len s.vars n fs k).trans (fl.trans L1))
  have NX := Lib.hid (fun k j (hj : j + k + 1 = n1) => (⟨by show (layTo s.vars n fs k).set _ _ = _; rw [L1, show n1 - 1 - k = j by omega], by show remTo s.vars n k / _ = _; rw [L1, show n1 - 1 - k = j by omega]⟩ :
    layTo s.vars n fs (k + 1) = (layTo s.vars n fs k).set j ((el s.vars j).low + remTo s.vars n k % ((el s.vars j).high - (el s.vars j).low + 1)) ∧ remTo s.vars n (k + 1) = remTo s.vars n k / ((el s.vars j).high - (el s.vars j).low + 1)))
  obtain ⟨V, hV⟩ : ∃ V : List Int, V = stL s.vars n := ⟨_, rfl⟩
  have E : Hid (V = layTo s.vars n fs n1) := Lib.hid (by rw [hV, ← lay_all s.vars n fs fl, L1])
  have EV : Hid (V.length = n1) := Lib.hid (by rw [E.out]; exact LL0.out n1)
  rw [← hV]
  have FL : Hid (fs.length = n1) := Lib.hid (by rw [fl, L1])
  clear hV L1 hfs hFB fl ok
  have BX := Lib.hid (sy_box (w := w) (v1 := .slice A1 n1 c1) (v2 := .slice A2 n2 c2))
  have H0 := Lib.hid h0
  have H4 := Lib.hid h4
  have H5 := Lib.hid h5
  clear h0 h4 h5 hz
  go_enter Try.func36, Try.ntmps36
  go_wp2_with fail
  refine (FC.out _ (below_alloc _ _)).mono ?_
  rintro e w2 ⟨v, rfl, o2, b2⟩
  rw [FL.out] at o2
  obtain ⟨A3, c3, rfl, _, _⟩ := own_form o2
  obtain ⟨f3, om3, _, _⟩ := mem_ints (l := fs) (by rw [FL.out]; exact o2) (by rw [FL.out]; have := H5.out; unfold maxLen; omega)
  rw [FL.out] at om3
  obtain ⟨B2, x0, x1⟩ := BX.out _ b2
  go_wp2_with fail
  refine (l3CopyI_any _ _ _ fs w2 (Mem.own_rd om3) (by have := H5.out; omega)).mono ?_
  rintro e w3 ⟨v3, rfl, o3, b3⟩
  rw [FL.out] at o3
  have l2 : w.heap.size + 1 ≤ w2.heap.size := by have := b2.size; rw [World.size_alloc] at this; exact this
  have b23 := b2.trans (b3.mono b2.size)
  have o3 := own_lower o3 l2
  clear x0 x1 o2 om3 b2 b3 B2
  obtain ⟨B3, x0, x1⟩ := BX.out _ b23
  rcases o3.2 with ⟨_, h0⟩ | ⟨g, cap, cur, hv, hg, _⟩
  · have := H5.out; omega
  subst hv
  have O3 := Lib.hid o3
  have wn : IntKind.i64.wrap ((n1 : Int) - 1) = (n1 : Int) - 1 := IntWalk.i64_in _ (by have := H5.out; omega)
  have B23 := Lib.hid b23
  clear o3 b23
  go_wp2
  go_loopg [1, 6, 7] n1 (fun m x i i7 wr => ∃ k j : Nat, k + m = n1 ∧ k + j = n1 ∧ i = .int .i64 ((j : Int) - 1) ∧ x = .int .i64 (remTo s.vars n k) ∧ Hid (wr.ownsRow (w.heap.size + 1) 3 1 (.slice (some ⟨g, 0, none⟩) n1 cap) n1 (ints (layTo s.vars n fs k))) ∧
    Below (w.alloc (.cells #[.slice A1 n1 c1, .slice A2 n2 c2] 33)).heap.size (w.alloc (.cells #[.slice A1 n1 c1, .slice A2 n2 c2] 33)) wr)
  case atStart => exact ⟨0, n1, by omega, by omega, by go_num, rfl, O3, B23.out⟩
  case round =>
    clear x0 x1 B3
    obtain ⟨k, j, hk, hkj, rfl, rfl, ho, hb⟩ := hrel
    obtain ⟨B, x0, x1⟩ := BX.out _ hb
    by_cases hlt : 0 < j
    · obtain ⟨j, rfl⟩ : ∃ i, j = i + 1 := ⟨j - 1, by omega⟩
      rw [show ((j + 1 : Nat) : Int) - 1 = (j : Int) by omega]
      obtain ⟨ad, rfl, hbl, d0, d1, d2⟩ := vr_at (Mem.rd_below h1 B) (k := j) (by omega)
      obtain ⟨nx1, nx2⟩ := NX.out k j (by omega)
      have NX1 := Lib.hid nx1
      have NX2 := Lib.hid nx2
      clear nx1 nx2
      have rb := RB.out k (by omega)
      have vb := VB.out j (by omega)
      have h4 := H4.out
      have er : (remTo s.vars n k).tmod ((el s.vars j).high - (el s.vars j).low + 1) = remTo s.vars n k % ((el s.vars j).high - (el s.vars j).low + 1) := Int.tmod_eq_emod_of_nonneg rb.1
      have eq : IntKind.i64.wrap ((remTo s.vars n k).tdiv ((el s.vars j).high - (el s.vars j).low + 1)) = remTo s.vars n k / ((el s.vars j).high - (el s.vars j).low + 1) := by
        rw [Int.tdiv_eq_ediv_of_nonneg rb.1]
        have a1 := Int.ediv_nonneg rb.1 (show 0 ≤ (el s.vars j).high - (el s.vars j).low + 1 by omega)
        have a2 := Int.ediv_le_self ((el s.vars j).high - (el s.vars j).low + 1) rb.1
        exact IntWalk.i64_in _ (by omega)
      have z1 := Int.emod_nonneg (remTo s.vars n k) (show (el s.vars j).high - (el s.vars j).low + 1 ≠ 0 by omega)
      have z2 := Int.emod_lt_of_pos (remTo s.vars n k) (show 0 < (el s.vars j).high - (el s.vars j).low + 1 by omega)
      have wv : IntKind.i64.wrap ((el s.vars j).low + remTo s.vars n k % ((el s.vars j).high - (el s.vars j).low + 1)) = (el s.vars j).low + remTo s.vars n k % ((el s.vars j).high - (el s.vars j).low + 1) := IntWalk.i64_in _ (by omega)
      have wa1 : IntKind.i64.wrap ((el s.vars j).high - (el s.vars j).low) = (el s.vars j).high - (el s.vars j).low := IntWalk.i64_in _ (by omega)
      have wa2 : IntKind.i64.wrap ((el s.vars j).high - (el s.vars j).low + 1) = (el s.vars j).high - (el s.vars j).low + 1 := IntWalk.i64_in _ (by omega)
      have nz : ((el s.vars j).high - (el s.vars j).low + 1 == 0) = false := by simp; omega
      have nz' : ¬ ((el s.vars j).high - (el s.vars j).low + 1 = 0) := by omega
      have hj : j < n1 := by omega
      have hj' : (j : Int) < n1 := by omega
      have f0 := ho.out.frozenAt j
      have hc : wr.cell? ⟨g, j, none⟩ = some (.int .i64 (ix (layTo s.vars n fs k) j)) := by
        rw [ho.out.cellAt j (by omega)]
        have hl := LL0.out k
        unfold ints
        rw [List.getElem?_map, List.getElem?_eq_getElem (by omega), ix_lt (by omega)]; rfl
      have hS := Lib.hid (ho.out.stored j (.int .i64 ((el s.vars j).low + remTo s.vars n k % ((el s.vars j).high - (el s.vars j).low + 1))))
      clear rb vb h4 z1 z2
      go_wp2
      go_quiet (fail)
      go_wp2
      go_region
      have h5 := H5.out
      go_wp2
      go_roundg j
      case measure => omega
      case rel =>
        have hN : (wr.drewN (nq + 1)).ownsRow (w.heap.size + 1) 3 1 (.slice (some ⟨g, 0, none⟩) n1 cap) n1 (ints (layTo s.vars n fs k)) := ho.out
        have hT := hN.stored j (.int .i64 ((el s.vars j).low + remTo s.vars n k % ((el s.vars j).high - (el s.vars j).low + 1)))
        refine ⟨k + 1, j, by omega, by omega, by go_num, by rw [NX2.out], Lib.hid ?_, (hb.trans (show Below _ wr (wr.drewN (nq + 1)) from ⟨rfl, rfl, rfl, Nat.le_refl _, fun _ _ => rfl⟩)).setCell (by rw [World.size_alloc]; show w.heap.size + 1 ≤ g; exact (ho.out.lt g rfl).1) _⟩
        rw [NX1.out, ← ints_set]
        exact hT.1
    · obtain rfl : j = 0 := by omega
      obtain rfl : k = n1 := by omega
      have O := ho.out
      go_wp2
      go_ret
      refine ⟨_, rfl, ?_, B⟩
      rw [EV.out, E.out]
      exact own_lower O (by omega)
end Go.Proofs.Ytnhjcokmajejcaa
