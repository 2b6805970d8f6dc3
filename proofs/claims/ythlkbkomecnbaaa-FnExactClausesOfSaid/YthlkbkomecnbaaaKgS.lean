/- Clauses of a circuit, in the model. -/
import Derived.Test.YthlkbkomecnbaaaKfS
import Derived.Test.YthlkbkomecnbaaaMkS
namespace Go.Proofs.Ythlkbkomecnbaaa
open Go.RowKit
set_option maxRecDepth 100000

set_option maxHeartbeats 8000000 in
theorem clausesOf_spec (s : Ci) (x : Int) (A : Option Addr) (n c : Nat) (w : World) (h : Mem.rd w w.heap.size [.slice A n c] s.gates) :
    Calls Try.prog 27 #[.agg #[.int .i64 s.ins, .slice A n c], .int .i64 x] w (GivesCsB w (csOf1 s x) (csOf2 s x)) := by
  have CK := Lib.hid (fun W (B : Below w.heap.size w W) => ckValid_spec s A n c W (Mem.rd_on h B))
  have l1 := rd_len h
  have BX := Lib.hid (two_boxes w #[.int .i64 s.ins, .slice A n c] #[.int .i64 0, .slice none 0 0] 48 31)
  by_cases k1 : ckB s = true
  · have OK := ckB_iff.1 k1
    have ED := Lib.hid (fun W => l7Edge_any s A c x W OK.lo OK.hi OK.few)
    rw [l1] at ED
    rw [k1] at CK
    by_cases k2 : isE s x = true
    · rw [k2] at ED
      have NO := Lib.hid (fun W => l7Nodes_any s A c W OK.lo OK.hi OK.few)
      rw [l1] at NO
      have hN := Ci.nodes_le OK.lo OK.hi OK.few
      have e2 : csOf2 s x = true := by unfold csOf2; rw [k1, k2]; rfl
      have e1 : csOf1 s x = ⟨s.nodes - 1, putC (s.nodes - 1) (csTo (s.nodes - 1) s.ins s.gates n) [x]⟩ := by
        unfold csOf1; rw [if_pos e2]; unfold csAll; rw [l1]
      rw [e1, e2]
      have xr := isE_yes k2
      have hn6 := OK.few
      have hlo := OK.lo
      have hhi := OK.hi
      have HGT := Lib.hid (fun k (hk : k < n) => OK.gate k (by rw [l1]; exact hk))
      have HNO : Hid (s.nodes = 1 + s.ins + n) := Lib.hid (by unfold Ci.nodes; rw [l1])
      clear e1 e2 k1 k2 OK
      generalize s.nodes = N at *
      obtain ⟨m, rfl⟩ : ∃ m : Nat, N = (m : Int) + 1 := ⟨(N - 1).toNat, by omega⟩
      have em : (m : Int) + 1 - 1 = m := by omega
      rw [em]
      have wm : IntKind.i64.wrap ((m : Int) + 1 - 1) = (m : Int) := by rw [IntWalk.i64_in _ (by omega)]; omega
      obtain ⟨p, gs⟩ := s
      dsimp only at *
      rw [l1] at hn6
      have m7 : m ≤ 700 := by omega
      have HMN : Hid ((m : Int) = p + n) := Lib.hid (by have := HNO.out; omega)
      clear HNO
      have HS : Hid (∀ k, csTo m p gs (k + 1) = putC m (putC m (putC m (csTo m p gs k) (es1 p gs k)) (es2 p gs k)) (es3 p gs k)) := Lib.hid fun k => rfl
      have HLN := Lib.hid (fun k => csTo_len (m : Int) p gs k)
      clear em l1
      go_enter Try.func27, Try.ntmps27
      go_wp2_with fail
      refine (CK.out _ (below_alloc (w.alloc _) _ |> below_call)).mono ?_
      rintro e w1 ⟨rfl, b1⟩
      obtain ⟨B1, Ka, Kb⟩ := BX.out _ b1
      have x0 : w1.cell? ⟨w.heap.size, 0, none⟩ = some (.int .i64 p) := Ka.cell 0
      have x1 : w1.cell? ⟨w.heap.size, 1, none⟩ = some (.slice A n c) := Ka.cell 1
      clear Ka Kb
      go_wp2_with fail
      refine (ED.out _).mono ?_
      rintro e w2 ⟨rfl, b2⟩
      have b12 := b1.trans (b2.mono b1.size)
      obtain ⟨B2, Ka, Kb⟩ := BX.out _ b12
      clear x0 x1
      have x0 : w2.cell? ⟨w.heap.size, 0, none⟩ = some (.int .i64 p) := Ka.cell 0
      have x1 : w2.cell? ⟨w.heap.size, 1, none⟩ = some (.slice A n c) := Ka.cell 1
      clear Ka Kb
      go_wp2_with fail
      refine (NO.out _).mono ?_
      rintro e w3 ⟨rfl, b3⟩
      have b13 := Lib.hid (b12.trans (b3.mono b12.size))
      clear b1 B1 b2 b12 B2 b3 x0 x1
      go_wp2
      go_loopg [7] n (fun q i wr => ∃ (k : Nat) (v : Value) (fp : List Nat), k + q = n ∧ i = .int .i64 k ∧ Hid (StC w3 wr w3.heap.size m v (csTo m p gs k) fp))
      case atStart => exact ⟨0, .slice none 0 0, [], by omega, rfl, Lib.hid (by exact ⟨ci_blk _ _ _, LL.nil _ _ _, below_alloc _ _⟩)⟩
      case round =>
        obtain ⟨k, v, fp, hk, rfl, HST⟩ := hrel
        have HB0 := Lib.hid (b13.out.trans (HST.out.bel.mono b13.out.size))
        obtain ⟨B, Ka, Kb⟩ := BX.out _ HB0.out
        have x0 : wr.cell? ⟨w.heap.size, 0, none⟩ = some (.int .i64 p) := Ka.cell 0
        have x1 : wr.cell? ⟨w.heap.size, 1, none⟩ = some (.slice A n c) := Ka.cell 1
        have y0 : wr.cell? ⟨w.heap.size + 1, 0, none⟩ = some (.int .i64 0) := Kb.cell 0
        have y1 : wr.cell? ⟨w.heap.size + 1, 1, none⟩ = some (.slice none 0 0) := Kb.cell 1
        have fy0 := Kb.frozen 0
        have fy1 := Kb.frozen 1
        obtain ⟨Av, cv, rfl⟩ := row_slice HST.out.list.2.2.choose_spec.choose_spec.1
        have hkl := HLN.out k
        obtain ⟨f0, f1⟩ := HST.out.cells
        have ff0 := HST.out.box.frozen 0
        have ff1 := HST.out.box.frozen 1
        have hFs : w3.heap.size < wr.heap.size := HST.out.box.lt
        clear Ka Kb
        by_cases hlt : k < n
        · obtain ⟨ad, rfl, hbl, d0, d1⟩ := ga_at (Mem.rd_below h B) hlt
          obtain ⟨a0, a1, q0, q1⟩ := HGT.out k hlt
          have hmn := HMN.out
          have HSk := Lib.hid (HS.out k)
          have H1 : Hid (∀ i, i < 2 → 0 ≤ ix (es1 p gs k) i ∧ ix (es1 p gs k) i ≤ 2 * m + 1) := Lib.hid fun i hi => by
            obtain rfl | rfl : i = 0 ∨ i = 1 := by omega
            · show 0 ≤ 2 * (1 + p + (k : Int)) + 1 ∧ 2 * (1 + p + (k : Int)) + 1 ≤ _; omega
            · show 0 ≤ (el gs k).a ∧ (el gs k).a ≤ _; omega
          have H2 : Hid (∀ i, i < 2 → 0 ≤ ix (es2 p gs k) i ∧ ix (es2 p gs k) i ≤ 2 * m + 1) := Lib.hid fun i hi => by
            obtain rfl | rfl : i = 0 ∨ i = 1 := by omega
            · show 0 ≤ 2 * (1 + p + (k : Int)) + 1 ∧ 2 * (1 + p + (k : Int)) + 1 ≤ _; omega
            · show 0 ≤ (el gs k).b ∧ (el gs k).b ≤ _; omega
          have H3 : Hid (∀ i, i < 3 → 0 ≤ ix (es3 p gs k) i ∧ ix (es3 p gs k) i ≤ 2 * m + 1) := Lib.hid fun i hi => by
            have na := notE_in a0 a1
            have nb := notE_in q0 q1
            obtain rfl | rfl | rfl : i = 0 ∨ i = 1 ∨ i = 2 := by omega
            · show 0 ≤ 2 * (1 + p + (k : Int)) ∧ 2 * (1 + p + (k : Int)) ≤ _; omega
            · show 0 ≤ notE (el gs k).a ∧ notE (el gs k).a ≤ _; omega
            · show 0 ≤ notE (el gs k).b ∧ notE (el gs k).b ≤ _; omega
          have NA := Lib.hid (fun W => l7Not_any (el gs k).a W (by omega) (by omega))
          have NB := Lib.hid (fun W => l7Not_any (el gs k).b W (by omega) (by omega))
          have C1 := Lib.hid (l11Put_any m m7 _ (w3.heap.size + 1) _ fp (some ⟨wr.heap.size, 0, none⟩) 2 2 (es1 p gs k) (wr.alloc (.cells #[.int .i64 (2 * (1 + p + (k : Int)) + 1), .int .i64 (el gs k).a] 3)) (HST.out.list.below (below_alloc _ _)) (rd_lits wr (es1 p gs k) _ 2 rfl (by omega)) (by omega) (by omega) H1.out (by rw [World.size_alloc]; omega))
          have l5 := putC_len m (csTo m p gs k) (es1 p gs k)
          generalize putC m (csTo m p gs k) (es1 p gs k) = P1 at C1 HSk l5
          have l6 := putC_len m P1 (es2 p gs k)
          clear a0 a1 q0 q1 hmn B
          go_wp2_with fail
          refine C1.out.mono ?_
          rintro e w5 ⟨v5, fp5, rfl, L5, on5, in5⟩
          obtain ⟨A5, c5, rfl⟩ := row_slice L5.2.2.choose_spec.choose_spec.1
          have S5 := Lib.hid (HST.out.step on5 L5)
          have KF5 := on5.out (HST.out.box.alloc _) HST.out.out
          have g0 : w5.cell? ⟨w3.heap.size, 0, none⟩ = some (.int .i64 (m : Int)) := KF5.cell 0
          have g1 : w5.cell? ⟨w3.heap.size, 1, none⟩ = some (.slice Av (csTo m p gs k).length cv) := KF5.cell 1
          have gf0 := KF5.frozen 0
          have gf1 := KF5.frozen 1
          have z5 := KF5.lt
          clear KF5 L5 on5 in5 C1
          have R6 := rd_lits ((w5.setCell ⟨w3.heap.size, 0, none⟩ (.int .i64 (m : Int))).setCell ⟨w3.heap.size, 1, none⟩ (.slice A5 P1.length c5)) (es2 p gs k) 3 2 rfl (by omega)
          have z6 : ((w5.setCell ⟨w3.heap.size, 0, none⟩ (.int .i64 (m : Int))).setCell ⟨w3.heap.size, 1, none⟩ (.slice A5 P1.length c5)).heap.size = w5.heap.size := by rw [World.size_setCell, World.size_setCell]
          rw [z6] at R6
          have C2 := Lib.hid (l11Put_any m m7 _ (w3.heap.size + 1) _ fp5 (some ⟨w5.heap.size, 0, none⟩) 2 2 (es2 p gs k) (((w5.setCell ⟨w3.heap.size, 0, none⟩ (.int .i64 (m : Int))).setCell ⟨w3.heap.size, 1, none⟩ (.slice A5 P1.length c5)).alloc (.cells #[.int .i64 (2 * (1 + p + (k : Int)) + 1), .int .i64 (el gs k).b] 3)) (S5.out.list.below (below_alloc _ _)) R6 (by omega) (by omega) H2.out (by rw [World.size_alloc, z6]; omega))
          generalize putC m P1 (es2 p gs k) = P2 at C2 HSk l6
          clear R6 z6
          go_wp2_with fail
          refine C2.out.mono ?_
          rintro e w7 ⟨v7, fp7, rfl, L7, on7, in7⟩
          obtain ⟨A7, c7, rfl⟩ := row_slice L7.2.2.choose_spec.choose_spec.1
          have S7 := S5.out.step on7 L7
          have KF7 := on7.out (S5.out.box.alloc _) S5.out.out
          have g0 : w7.cell? ⟨w3.heap.size, 0, none⟩ = some (.int .i64 (m : Int)) := KF7.cell 0
          have g1 : w7.cell? ⟨w3.heap.size, 1, none⟩ = some (.slice A5 P1.length c5) := KF7.cell 1
          have gf0 := KF7.frozen 0
          have gf1 := KF7.frozen 1
          have z7 := KF7.lt
          clear KF7 L7 on7 in7 C2
          go_wp2
          have S7 := Lib.hid S7
          generalize ((w7.setCell ⟨w3.heap.size, 0, none⟩ (.int .i64 (m : Int))).setCell ⟨w3.heap.size, 1, none⟩ (.slice A7 P2.length c7)) = W8 at S7 ⊢
          obtain ⟨t0, t1⟩ := S7.out.cells
          have z8 : w3.heap.size < W8.heap.size := S7.out.box.lt
          clear g0 g1 gf0 gf1 f0 f1 ff0 ff1 x0 x1 y0 y1 fy0 fy1 d0 d1
          have C3 := Lib.hid (l11Put_any m m7 _ (w3.heap.size + 1) _ fp7 (some ⟨W8.heap.size, 0, none⟩) 3 3 (es3 p gs k) (W8.drew.alloc (.cells #[.int .i64 (2 * (1 + p + (k : Int))), .int .i64 (notE (el gs k).a), .int .i64 (notE (el gs k).b)] 3)) (S7.out.list.below ((show Below W8.heap.size W8 W8.drew from ⟨rfl, rfl, rfl, Nat.le_refl _, fun _ _ => rfl⟩).alloc (Nat.le_refl _) _)) (rd_lits W8.drew (es3 p gs k) _ 3 rfl (by omega)) (by omega) (by omega) H3.out (by rw [World.size_alloc]; show _ ≤ W8.heap.size + 1; omega))
          go_region_law (first
            | (go_simp; go_at_call 68; refine (NA.out _).mono ?_; rintro e w8a ⟨rfl, rfl⟩; clear NA)
            | (go_simp; go_at_call 68; refine (NB.out _).mono ?_; rintro e w8b ⟨rfl, rfl⟩; clear NB)
            | (go_simp; go_at_call 67; refine C3.out.mono ?_; rintro e w9 ⟨v9, fp9, rfl, L9, on9, in9⟩
               obtain ⟨A9, c9, rfl⟩ := row_slice L9.2.2.choose_spec.choose_spec.1
               have KF9 := on9.out ((show Blk W8.drew w3.heap.size 31 [.int .i64 (m : Int), .slice A7 P2.length c7] from S7.out.box).alloc _) S7.out.out
               have g0 : w9.cell? ⟨w3.heap.size, 0, none⟩ = some (.int .i64 (m : Int)) := KF9.cell 0
               have g1 : w9.cell? ⟨w3.heap.size, 1, none⟩ = some (.slice A7 P2.length c7) := KF9.cell 1
               have gf0 := KF9.frozen 0
               have gf1 := KF9.frozen 1
               have HL9 := Lib.hid L9
               have HO9 := Lib.hid on9
               clear L9 on9 in9 KF9 C3))
          all_goals
            have S8 : StC w3 W8.drew w3.heap.size m (.slice A7 P2.length c7) P2 fp7 := ⟨S7.out.box, S7.out.list.below ⟨rfl, rfl, rfl, Nat.le_refl _, fun _ _ => rfl⟩, S7.out.bel.trans ⟨rfl, rfl, rfl, Nat.le_refl _, fun _ _ => rfl⟩⟩
            have S9 := Lib.hid (S8.step HO9.out HL9.out)
            clear S8
            go_wp2
            go_roundg (n - (k + 1))
            case measure => omega
            case rel => exact ⟨k + 1, _, fp9, by omega, by go_num, Lib.hid (by rw [HSk.out]; exact S9.out)⟩
        · obtain rfl : k = n := by omega
          obtain ⟨_, _, Kb⟩ := BX.out _ HB0.out
          have hz : w.heap.size + 1 < w3.heap.size := by have := b13.out.size; rw [World.size_alloc, World.size_alloc] at this; omega
          have hnr : w.heap.size + 1 ∉ fp := fun hm => by have := (HST.out.list.lt _ hm).1; omega
          have C4 := Lib.hid (l11Put_any m m7 _ (w3.heap.size + 1) _ fp (some ⟨wr.heap.size, 0, none⟩) 1 1 [x] (wr.alloc (.cells #[.int .i64 x] 3)) (HST.out.list.below (below_alloc _ _)) (rd_lits wr [x] _ 1 rfl (by omega)) (by omega) (by omega) (fun i hi => by
            obtain rfl : i = 0 := by omega
            show 0 ≤ x ∧ x ≤ _; omega) (by rw [World.size_alloc]; omega))
          have HB1 := Lib.hid (B.alloc B.size (.cells #[.int .i64 x] 3))
          have HKb := Lib.hid (Kb.alloc (.cells #[.int .i64 x] 3))
          have HNR := Lib.hid hnr
          have l4 := putC_len m (csTo m p gs k) [x]
          obtain ⟨P1, hP⟩ : ∃ P1, putC m (csTo m p gs k) [x] = P1 := ⟨_, rfl⟩
          rw [hP] at C4 l4
          have HP := Lib.hid hP
          clear Kb hnr hP
          go_wp2_with fail
          refine C4.out.mono ?_
          rintro e w9 ⟨v9, fp9, rfl, L9, on9, in9⟩
          obtain ⟨A9, c9, rfl⟩ := row_slice L9.2.2.choose_spec.choose_spec.1
          have KR := on9.out HKb.out HNR.out
          have r0 : w9.cell? ⟨w.heap.size + 1, 0, none⟩ = some (.int .i64 0) := KR.cell 0
          have r1 : w9.cell? ⟨w.heap.size + 1, 1, none⟩ = some (.slice none 0 0) := KR.cell 1
          have rf0 := KR.frozen 0
          have rf1 := KR.frozen 1
          have HL9 := Lib.hid L9
          have HB9 := Lib.hid (HB1.out.trans (on9.below (B := w.heap.size) (by rw [World.size_alloc]; have := B.size; omega) fun b hb => by have := (HST.out.list.lt b hb).1; omega))
          clear L9 on9 in9 KR C4
          go_wp2
          refine bodyPost_ret (v := .tuple #[.agg #[.int .i64 (m : Int), .slice A9 P1.length c9], .bool true]) (by simp [results, Try.results27, go_sem, r0, r1]) rfl ?_
          have hni : ∀ b ∈ fp9, w3.heap.size + 1 ≤ b := fun b hb => (HL9.out.lt b hb).1
          have L10 := (HL9.out.only (Only.set1 w9 (w.heap.size + 1) 0 (.int .i64 (m : Int))) fun b hb => by have := hni b hb; simp; omega).only (Only.set1 _ (w.heap.size + 1) 1 (.slice A9 P1.length c9)) fun b hb => by have := hni b hb; simp; omega
          rw [HP.out]
          exact ⟨A9, _, c9, fp9, rfl, L10.out (by unfold maxLen; omega), L10.2.1, fun b hb => by have := hni b hb; omega, (HB9.out.setCell (p := ⟨w.heap.size + 1, 0, none⟩) (Nat.le_succ _) _).setCell (p := ⟨w.heap.size + 1, 1, none⟩) (Nat.le_succ _) _⟩
    · have k2' : isE s x = false := by simpa using k2
      rw [k2'] at ED
      have e2 : csOf2 s x = false := by unfold csOf2; rw [k1, k2']; rfl
      have e1 : csOf1 s x = ⟨0, []⟩ := by unfold csOf1; rw [if_neg (by rw [e2]; simp)]
      rw [e1, e2]
      clear e1 e2 k1 k2 k2' OK l1
      obtain ⟨p, gs⟩ := s
      dsimp only at *
      go_enter Try.func27, Try.ntmps27
      go_wp2_with fail
      refine (CK.out _ (below_alloc (w.alloc _) _ |> below_call)).mono ?_
      rintro e w1 ⟨rfl, b1⟩
      obtain ⟨B1, Ka, Kb⟩ := BX.out _ b1
      have x0 : w1.cell? ⟨w.heap.size, 0, none⟩ = some (.int .i64 p) := Ka.cell 0
      have x1 : w1.cell? ⟨w.heap.size, 1, none⟩ = some (.slice A n c) := Ka.cell 1
      clear Ka Kb
      go_wp2_with fail
      refine (ED.out _).mono ?_
      rintro e w2 ⟨rfl, b2⟩
      have b12 := b1.trans (b2.mono b1.size)
      obtain ⟨B2, Ka, Kb⟩ := BX.out _ b12
      clear x0 x1
      have r0 : w2.cell? ⟨w.heap.size + 1, 0, none⟩ = some (.int .i64 0) := Kb.cell 0
      have r1 : w2.cell? ⟨w.heap.size + 1, 1, none⟩ = some (.slice none 0 0) := Kb.cell 1
      have rf0 := Kb.frozen 0
      have rf1 := Kb.frozen 1
      clear Ka Kb
      go_wp2
      refine bodyPost_ret (v := .tuple #[.agg #[.int .i64 0, .slice none 0 0], .bool false]) (by simp [results, Try.results27, go_sem, r0, r1]) rfl ?_
      exact ⟨none, 0, 0, [], rfl, ⟨none, 0, 0, rfl, Nat.zero_le _, rfl, .inl ⟨rfl, rfl⟩⟩, List.nodup_nil, by simp, (B2.setCell (p := ⟨w.heap.size + 1, 0, none⟩) (Nat.le_succ _) _).setCell (p := ⟨w.heap.size + 1, 1, none⟩) (Nat.le_succ _) _⟩
  · have k1' : ckB s = false := by simpa using k1
    rw [k1'] at CK
    have e2 : csOf2 s x = false := by unfold csOf2; rw [k1']; rfl
    have e1 : csOf1 s x = ⟨0, []⟩ := by unfold csOf1; rw [if_neg (by rw [e2]; simp)]
    rw [e1, e2]
    clear e1 e2 k1 k1' l1
    obtain ⟨p, gs⟩ := s
    dsimp only at *
    go_enter Try.func27, Try.ntmps27
    go_wp2_with fail
    refine (CK.out _ (below_alloc (w.alloc _) _ |> below_call)).mono ?_
    rintro e w1 ⟨rfl, b1⟩
    obtain ⟨B1, Ka, Kb⟩ := BX.out _ b1
    have r0 : w1.cell? ⟨w.heap.size + 1, 0, none⟩ = some (.int .i64 0) := Kb.cell 0
    have r1 : w1.cell? ⟨w.heap.size + 1, 1, none⟩ = some (.slice none 0 0) := Kb.cell 1
    have rf0 := Kb.frozen 0
    have rf1 := Kb.frozen 1
    clear Ka Kb
    go_wp2
    refine bodyPost_ret (v := .tuple #[.agg #[.int .i64 0, .slice none 0 0], .bool false]) (by simp [results, Try.results27, go_sem, r0, r1]) rfl ?_
    exact ⟨none, 0, 0, [], rfl, ⟨none, 0, 0, rfl, Nat.zero_le _, rfl, .inl ⟨rfl, rfl⟩⟩, List.nodup_nil, by simp, (B1.setCell (p := ⟨w.heap.size + 1, 0, none⟩) (Nat.le_succ _) _).setCell (p := ⟨w.heap.size + 1, 1, none⟩) (Nat.le_succ _) _⟩
end Go.Proofs.Ythlkbkomecnbaaa
