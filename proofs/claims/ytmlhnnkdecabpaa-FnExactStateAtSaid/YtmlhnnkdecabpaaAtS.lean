/- The state with a number, of the model. -/
import Derived.Test.YtmlhnnkdecabpaaNum
import Derived.Test.YtmlhnnkdecabpaaCopy
import Derived.Test.YtmlhnnkdecabpaaSysH
import Derived.Test.YtmlhnnkdecabpaaUseSp
import Derived.RegionTactic
import Derived.BigRegion
import Derived.IntWalk
namespace Go.Proofs.Ytmlhnnkdecabpaa
open Go.RowKit

set_option maxRecDepth 100000 in
set_option maxHeartbeats 4000000 in
theorem l4State_any (s : Sy) (n : Int) (A1 : Option Addr) (n1 c1 : Nat) (A2 : Option Addr) (n2 c2 : Nat) (w : World) (h1 : Mem.rd w w.heap.size [.slice A1 n1 c1] s.vars) (h2 : Mem.rd w w.heap.size [.slice A2 n2 c2] s.rules) (hz : sysB s = true) (h0 : 0 ≤ n) (h4 : n < 400) :
    Calls Try.prog 62 #[.agg #[.slice A1 n1 c1, .slice A2 n2 c2], .int .i64 n] w (GivesInts w (stL s.vars n)) := by
  have L1 := rd_len h1
  have ok := sysOk_of hz
  have h5 : 1 ≤ n1 ∧ n1 ≤ 5 := by have := ok.hi; have := ok.lo; omega
  have RB := Lib.hid (fun k (hk : k ≤ n1) => rem_bd (n := n) ok.vars h0 (m := k) (by omega))
  have VB := Lib.hid (fun j (hj : j < n1) => varB_iff.1 (ok.vars j (by omega)))
  have fl := firsts_len s.vars
  obtain ⟨fs, hfs⟩ : ∃ fs, fs = firsts s.vars := ⟨_, rfl⟩
  have FC := Lib.hid (fun W (B : Below w.heap.size w W) => first_spec s A1 n1 c1 A2 n2 c2 W (Mem.rd_on h1 B) (Mem.rd_on h2 B))
  have hFB : firstB s = fs := by unfold firstB; rw [hz, hfs]; rfl
  rw [hFB] at FC
  rw [← hfs] at fl
  have LL0 := Lib.hid (fun k => (lay_len s.vars n fs k).trans (fl.trans L1))
  have NX := Lib.hid (fun k j (hj : j + k + 1 = n1) => (⟨by show (layTo s.vars n fs k).set _ _ = _; rw [L1, show n1 - 1 - k = j by omega], by show remTo s.vars n k / _ = _; rw [L1, show n1 - 1 - k = j by omega]⟩ :
    layTo s.vars n fs (k + 1) = (layTo s.vars n fs k).set j ((el s.vars j).low + remTo s.vars n k % ((el s.vars j).high - (el s.vars j).low + 1)) ∧ remTo s.vars n (k + 1) = remTo s.vars n k / ((el s.vars j).high - (el s.vars j).low + 1)))
  obtain ⟨V, hV⟩ : ∃ V : List Int, V = stL s.vars n := ⟨_, rfl⟩
  have E : Hid (V = layTo s.vars n fs n1) := Lib.hid (by rw [hV, ← lay_all s.vars n fs fl, L1])
  have EV : Hid (V.length = n1) := Lib.hid (by rw [E.out]; exact LL0.out n1)
  rw [← hV]
  have FL : Hid (fs.length = n1) := Lib.hid (by rw [fl, L1])
  clear hV L1 hfs hFB fl ok
  have BX := Lib.hid (sy_box (w := w) (v1 := .slice A1 n1 c1) (v2 := .slice A2 n2 c2))
  have H0 := Lib.hid h0
  have H4 := Lib.hid h4
  have H5 := Lib.hid h5
  clear h0 h4 h5 hz
  go_enter Try.func62, Try.ntmps62
  go_wp2_with fail
  refine (FC.out _ (below_alloc _ _)).mono ?_
  rintro e w2 ⟨v, rfl, o2, b2⟩
  rw [FL.out] at o2
  obtain ⟨A3, c3, rfl, _, _⟩ := own_form o2
  obtain ⟨f3, om3, _, _⟩ := mem_ints (l := fs) (by rw [FL.out]; exact o2) (by rw [FL.out]; have := H5.out; unfold maxLen; omega)
  rw [FL.out] at om3
  obtain ⟨B2, x0, x1⟩ := BX.out _ b2
  go_wp2_with fail
  refine (l3CopyI_any _ _ _ fs w2 (Mem.own_rd om3) (by have := H5.out; omega)).mono ?_
  rintro e w3 ⟨v3, rfl, o3, b3⟩
  rw [FL.out] at o3
  have l2 : w.heap.size + 1 ≤ w2.heap.size := by have := b2.size; rw [World.size_alloc] at this; exact this
  have b23 := b2.trans (b3.mono b2.size)
  have o3 := own_lower o3 l2
  clear x0 x1 o2 om3 b2 b3 B2
  obtain ⟨B3, x0, x1⟩ := BX.out _ b23
  rcases o3.2 with ⟨_, h0⟩ | ⟨g, cap, cur, hv, hg, _⟩
  · have := H5.out; omega
  subst hv
  have O3 := Lib.hid o3
  have wn : IntKind.i64.wrap ((n1 : Int) - 1) = (n1 : Int) - 1 := IntWalk.i64_in _ (by have := H5.out; omega)
  have B23 := Lib.hid b23
  clear o3 b23
  go_wp2
  go_loopg [1, 6, 7] n1 (fun m x i i7 wr => ∃ k j : Nat, k + m = n1 ∧ k + j = n1 ∧ i = .int .i64 ((j : Int) - 1) ∧ x = .int .i64 (remTo s.vars n k) ∧ Hid (wr.ownsRow (w.heap.size + 1) 3 1 (.slice (some ⟨g, 0, none⟩) n1 cap) n1 (ints (layTo s.vars n fs k))) ∧
    Below (w.alloc (.cells #[.slice A1 n1 c1, .slice A2 n2 c2] 46)).heap.size (w.alloc (.cells #[.slice A1 n1 c1, .slice A2 n2 c2] 46)) wr)
  case atStart => exact ⟨0, n1, by omega, by omega, by go_num, rfl, O3, B23.out⟩
  case round =>
    clear x0 x1 B3
    obtain ⟨k, j, hk, hkj, rfl, rfl, ho, hb⟩ := hrel
    obtain ⟨B, x0, x1⟩ := BX.out _ hb
    by_cases hlt : 0 < j
    · obtain ⟨j, rfl⟩ : ∃ i, j = i + 1 := ⟨j - 1, by omega⟩
      rw [show ((j + 1 : Nat) : Int) - 1 = (j : Int) by omega]
      obtain ⟨ad, rfl, hbl, d0, d1, d2⟩ := vr_at (Mem.rd_below h1 B) (k := j) (by omega)
      obtain ⟨nx1, nx2⟩ := NX.out k j (by omega)
      have NX1 := Lib.hid nx1
      have NX2 := Lib.hid nx2
      clear nx1 nx2
      have rb := RB.out k (by omega)
      have vb := VB.out j (by omega)
      have h4 := H4.out
      have er : (remTo s.vars n k).tmod ((el s.vars j).high - (el s.vars j).low + 1) = remTo s.vars n k % ((el s.vars j).high - (el s.vars j).low + 1) := Int.tmod_eq_emod_of_nonneg rb.1
      have eq : IntKind.i64.wrap ((remTo s.vars n k).tdiv ((el s.vars j).high - (el s.vars j).low + 1)) = remTo s.vars n k / ((el s.vars j).high - (el s.vars j).low + 1) := by
        rw [Int.tdiv_eq_ediv_of_nonneg rb.1]
        have a1 := Int.ediv_nonneg rb.1 (show 0 ≤ (el s.vars j).high - (el s.vars j).low + 1 by omega)
        have a2 := Int.ediv_le_self ((el s.vars j).high - (el s.vars j).low + 1) rb.1
        exact IntWalk.i64_in _ (by omega)
      have z1 := Int.emod_nonneg (remTo s.vars n k) (show (el s.vars j).high - (el s.vars j).low + 1 ≠ 0 by omega)
      have z2 := Int.emod_lt_of_pos (remTo s.vars n k) (show 0 < (el s.vars j).high - (el s.vars j).low + 1 by omega)
      have wv : IntKind.i64.wrap ((el s.vars j).low + remTo s.vars n k % ((el s.vars j).high - (el s.vars j).low + 1)) = (el s.vars j).low + remTo s.vars n k % ((el s.vars j).high - (el s.vars j).low + 1) := IntWalk.i64_in _ (by omega)
      have wa1 : IntKind.i64.wrap ((el s.vars j).high - (el s.vars j).low) = (el s.vars j).high - (el s.vars j).low := IntWalk.i64_in _ (by omega)
      have wa2 : IntKind.i64.wrap ((el s.vars j).high - (el s.vars j).low + 1) = (el s.vars j).high - (el s.vars j).low + 1 := IntWalk.i64_in _ (by omega)
      have nz : ((el s.vars j).high - (el s.vars j).low + 1 == 0) = false := by simp; omega
      have nz' : ¬ ((el s.vars j).high - (el s.vars j).low + 1 = 0) := by omega
      have hj : j < n1 := by omega
      have hj' : (j : Int) < n1 := by omega
      have f0 := ho.out.frozenAt j
      have hc : wr.cell? ⟨g, j, none⟩ = some (.int .i64 (ix (layTo s.vars n fs k) j)) := by
        rw [ho.out.cellAt j (by omega)]
        have hl := LL0.out k
        unfold ints
        rw [List.getElem?_map, List.getElem?_eq_getElem (by omega), ix_lt (by omega)]; rfl
      have hS := Lib.hid (ho.out.stored j (.int .i64 ((el s.vars j).low + remTo s.vars n k % ((el s.vars j).high - (el s.vars j).low + 1))))
      clear rb vb h4 z1 z2
      go_wp2
      go_quiet (fail)
      go_wp2
      go_region
      have h5 := H5.out
      go_wp2
      go_roundg j
      case measure => omega
      case rel =>
        have hN : (wr.drewN (nq + 1)).ownsRow (w.heap.size + 1) 3 1 (.slice (some ⟨g, 0, none⟩) n1 cap) n1 (ints (layTo s.vars n fs k)) := ho.out
        have hT := hN.stored j (.int .i64 ((el s.vars j).low + remTo s.vars n k % ((el s.vars j).high - (el s.vars j).low + 1)))
        refine ⟨k + 1, j, by omega, by omega, by go_num, by rw [NX2.out], Lib.hid ?_, (hb.trans (show Below _ wr (wr.drewN (nq + 1)) from ⟨rfl, rfl, rfl, Nat.le_refl _, fun _ _ => rfl⟩)).setCell (by rw [World.size_alloc]; show w.heap.size + 1 ≤ g; exact (ho.out.lt g rfl).1) _⟩
        rw [NX1.out, ← ints_set]
        exact hT.1
    · obtain rfl : j = 0 := by omega
      obtain rfl : k = n1 := by omega
      have O := ho.out
      go_wp2
      go_ret
      refine ⟨_, rfl, ?_, B⟩
      rw [EV.out, E.out]
      exact own_lower O (by omega)
end Go.Proofs.Ytmlhnnkdecabpaa
