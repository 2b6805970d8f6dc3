/- The truth of a place by another order: 64 rows at a time, in the program. -/
import Derived.Test.YtnhjcokmajejcaaDoorCoD
import Derived.Test.YtnhjcokmajejcaaDoorTrI
import Derived.Test.YtnhjcokmajejcaaDoorDoT
namespace Go.Proofs.YtnhjcokmajejcaaDoor
open Go.RowKit
set_option maxRecDepth 100000

theorem run_full_us (n : Nat) (hn : n ≤ 100000) (w : World) : (Instr.makeSlice 63 (.int .i64 n) (.int .i64 n)).run Tryd.prog w = .ok (.slice (some ⟨w.heap.size, 0, none⟩) n n) (w.alloc (.cells (madeCells #[.int .u64 0] n) 64)) := by
  have h := run_make (P := Tryd.prog) w 63 64 u64Row (.int .u64 0) Tryd.underlying63 u64_row.1 u64_row.2.1 .i64 .i64 n n (by omega) (by omega) (by rw [u64_row.2.2.2]; omega) (by omega)
  rw [u64_row.2.2.1] at h
  simp only [Int.toNat_natCast, Nat.mul_one] at h
  exact h
theorem us_set (l : List Nat) (i x : Nat) : (us l).set i (.int .u64 (x : Int)) = us (l.set i x) := by unfold us; rw [List.map_set]
theorem blk_us {w : World} {g n : Nat} {l : List Nat} (h : Blk w g 64 (us l)) (hl : l.length = n) : Rd w w.heap.size 1 (some ⟨g, 0, none⟩) n (us l) := by
  refine ⟨by rw [us_len, hl]; omega, fun _ => ⟨_, rfl, h.lt, fun i u hu => ?_⟩⟩
  have e : (⟨g, 0, none⟩ : Addr).add i = ⟨g, i, none⟩ := by
    unfold Addr.add
    by_cases q : i = 0
    · subst q; simp
    · simp [q]
  rw [e, h.cell i]
  exact hu
theorem prm_word (V : Nat) (order : List Int) (C : List (Nat → Bool)) (k : Nat) (hk : k < C.length) : (prm (fun _ => false) V order C (k + 1)).map fw = ((prm (fun _ => false) V order C k).map fw).set (ix order k).toNat (el (C.map fw) k) := by
  show ((prm (fun _ => false) V order C k).set _ _).map fw = _
  rw [List.map_set]
  congr 1
  unfold el
  rw [List.getElem?_map, List.getElem?_eq_getElem hk]; rfl
theorem prm_start (V : Nat) (order : List Int) (C : List (Nat → Bool)) : us ((prm (fun _ => false) V order C 0).map fw) = (madeCells #[.int .u64 0] V).toList := by
  show us ((List.replicate V fun _ => false).map fw) = _
  rw [List.map_replicate, fw_none, toList_madeCells_one]
  simp [us]

set_option maxHeartbeats 4000000 in
theorem reoF_any (d : Dg) (ok : d.Ok) (N n : Nat) (hN : d.vars = N) (hn : n < 2 + d.forks.length) (order : List Int) (hL : order.length = N) (hO : ∀ k, k < N → 0 ≤ ix order k ∧ ix order k < N) (A Ao : Option Addr) (c co b g cc q q2 q3 : Nat) (W : World)
    (h1 : Mem.rd W W.heap.size [.slice A d.forks.length c] d.forks) (h3 : Rd W W.heap.size 1 Ao N (ints order))
    (k0 : W.cell? ⟨q, 0, none⟩ = some (.int .i64 N)) (k1 : W.cell? ⟨q, 1, none⟩ = some (.slice A d.forks.length c)) (k2 : W.cell? ⟨q2, 0, none⟩ = some (.slice Ao N co)) (k3 : W.cell? ⟨q3, 0, none⟩ = some (.int .i64 n))
    (hq : q < W.heap.size) (hq2 : q2 < W.heap.size) (hq3 : q3 < W.heap.size) (h2 : Rd W W.heap.size 1 (some ⟨g, 0, none⟩) N (us ((colsB b N).map fw))) :
    Calls Tryd.prog 81 #[.slice (some ⟨g, 0, none⟩) N cc, .pointer (some ⟨q, 0, none⟩), .pointer (some ⟨q2, 0, none⟩), .pointer (some ⟨q3, 0, none⟩)] W (GivesU64 W (trW (Trd d n order) N b)) := by
  have N12 : N ≤ 12 := by have := ok.hi; omega
  have lc := colsB_len b N
  have eT := colD_trW d n order N b (by rw [hN]; rfl)
  rw [hL] at eT
  rw [← eT]
  have PL := fun k => prm_len (fun _ => false) N order (colsB b N) k
  have CO := Lib.hid (fun (W' : World) (B : Below W.heap.size W W') (gO : Nat) (hb : Blk W' gO 64 (us ((prm (fun _ => false) N order (colsB b N) N).map fw))) => column_any d ok N n hN hn (prm (fun _ => false) N order (colsB b N) N) (PL N) A c gO N W' (Mem.rd_on h1 B) (blk_us hb (by rw [List.length_map]; exact PL N)))
  have P0 := prm_start N order (colsB b N)
  have PS := Lib.hid (fun k (hk : k < N) => prm_word N order (colsB b N) k (by rw [lc]; exact hk))
  have HM := fun W' => run_full_us N (by omega) W'
  have CC := Lib.hid (fun W' (B : Below W.heap.size W W') v (hv : v < N) => show W'.cell? ⟨g, v, none⟩ = some (.int .u64 (el ((colsB b N).map fw) v : Nat)) from by
    obtain ⟨ad, e, hb, hc⟩ := us_read h2 hv
    injection e with e
    subst e
    exact cell_below B (p := ⟨g, v, none⟩) hb (us_addr hc))
  have HOX := Lib.hid hO
  have H3 := Lib.hid (fun W' (B : Below W.heap.size W W') k (hk : k < N) => (h3.below B).int hk)
  have K0 := Lib.hid (fun W' (B : Below W.heap.size W W') => cell_below B (p := ⟨q, 0, none⟩) hq k0)
  have K1 := Lib.hid (fun W' (B : Below W.heap.size W W') => cell_below B (p := ⟨q, 1, none⟩) hq k1)
  have K2 := Lib.hid (fun W' (B : Below W.heap.size W W') => cell_below B (p := ⟨q2, 0, none⟩) hq2 k2)
  have K3 := Lib.hid (fun W' (B : Below W.heap.size W W') => cell_below B (p := ⟨q3, 0, none⟩) hq3 k3)
  generalize colD d (prm (fun _ => false) N order (colsB b N) N) n = Z at *
  rw [hN] at CO
  obtain ⟨F, hF⟩ : ∃ F : Nat → List Nat, F = fun k => (prm (fun _ => false) N order (colsB b N) k).map fw := ⟨_, rfl⟩
  have PF := Lib.hid (fun k => congrFun hF k)
  have CO' := Lib.hid (fun (W' : World) (B : Below W.heap.size W W') (gO : Nat) (hb : Blk W' gO 64 (us (F N))) => CO.out W' B gO (by rw [PF.out N] at hb; exact hb))
  have PS' := Lib.hid (fun k (hk : k < N) => show F (k + 1) = (F k).set (ix order k).toNat (el ((colsB b N).map fw) k) from by rw [PF.out, PF.out]; exact PS.out k hk)
  have P0' : Hid (us (F 0) = (madeCells #[.int .u64 0] N).toList) := Lib.hid (by rw [PF.out]; exact P0)
  have LF := Lib.hid (fun k => show (F k).length = N from by rw [PF.out, List.length_map]; exact PL k)
  clear CO PS P0 PF hF PL eT lc h1 h2 h3 k1 k3 hL hN hO ok hn
  generalize (colsB b N).map fw = cw at *
  go_enter Tryd.func81, Tryd.ntmps81
  go_wp2
  have BM := below_alloc W (.cells (madeCells #[.int .u64 0] N) 64)
  have KB0 : Blk (W.alloc (.cells (madeCells #[.int .u64 0] N) 64)) W.heap.size 64 (us (F 0)) := by rw [P0'.out]; exact Blk.new W _ _
  have x2 := K2.out _ BM
  go_loopg [7, 8, 14] N (fun r i7 i8 i wr => ∃ k : Nat, k + r = N ∧ i = .int .i64 k ∧ Hid (Blk wr W.heap.size 64 (us (F k))) ∧ Below W.heap.size W wr)
  case atStart => exact ⟨0, by omega, rfl, Lib.hid KB0, BM⟩
  case round =>
    clear KB0 BM x2 k0 k2
    obtain ⟨k, hk, rfl, hB, hb⟩ := hrel
    by_cases hlt : k < N
    · have kn : (k : Int) < N := by omega
      obtain ⟨ad, rfl, hbl, d0⟩ := H3.out wr hb k hlt
      obtain ⟨o0, o1⟩ := HOX.out k hlt
      have e2 := CC.out wr hb k hlt
      have PSk := Lib.hid (PS'.out k hlt)
      generalize ix order k = o at *
      obtain ⟨v, rfl⟩ : ∃ v : Nat, o = v := ⟨o.toNat, by omega⟩
      generalize el cw k = x at *
      have hv : v < N := by omega
      have fz := hB.out.frozen v
      have yz := hB.out.cell v
      rw [us_at (by rw [LF.out]; exact hv)] at yz
      have lB := hB.out.lt
      have s2 := Lib.hid (hB.out.set v (.int .u64 x))
      rw [us_set] at s2
      rw [Int.toNat_natCast] at PSk
      rw [← PSk.out] at s2
      go_wp2
      all_goals
        go_roundg (N - (k + 1))
        case measure => omega
        case rel => exact ⟨k + 1, by omega, by go_num, s2, hb.setCell (p := ⟨W.heap.size, v, none⟩) (Nat.le_refl _) _⟩
    · obtain rfl : k = N := by omega
      have x0 := K0.out wr hb
      have x1 := K1.out wr hb
      have x3 := K3.out wr hb
      have C9 := Lib.hid (CO'.out wr hb W.heap.size hB.out)
      go_wp2_with fail
      refine (C9.out).mono ?_
      rintro e w5 ⟨rfl, b5⟩
      go_wp2
      go_ret
      exact ⟨rfl, hb.trans (b5.mono hb.size)⟩
end Go.Proofs.YtnhjcokmajejcaaDoor
