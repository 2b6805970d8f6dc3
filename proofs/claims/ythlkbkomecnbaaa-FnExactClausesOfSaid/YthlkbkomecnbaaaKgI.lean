/- Clauses of a circuit, in the program. -/
import Derived.Test.YthlkbkomecnbaaaKfI
import Derived.Test.YthlkbkomecnbaaaKiI
import Derived.Test.YthlkbkomecnbaaaCiE
namespace Go.Proofs.Ythlkbkomecnbaaa
open Go.RowKit
set_option maxRecDepth 100000

theorem contraryK_any (e : Int) (w : World) (h0 : 0 ≤ e) (h1 : e < 2000) : Calls Try.prog 74 #[.int .i64 e] w fun r w' => r = .returned (.int .i64 (notE e)) ∧ w = w' := by
  obtain ⟨p, rfl⟩ := Int.eq_ofNat_of_zero_le h0
  have bx := bits_xor_i64_nat p 1 (by omega) (by omega)
  have e1 : ((p ^^^ 1 : Nat) : Int) = notE p := by
    rw [xor_bit p 1 (by omega), if_pos rfl]
    unfold notE
    rw [if_neg (by omega)]
    omega
  rw [e1] at bx
  have bx : bits BinOp.xor IntKind.i64 (p : Int) 1 = notE p := bx
  generalize notE (p : Int) = z at *
  clear e1
  go_enter Try.func74, Try.ntmps74
  go_wp2
  go_ret
  exact ⟨rfl, rfl⟩

set_option maxHeartbeats 8000000 in
theorem clausesOf_impl (s : Ci) (x : Int) (A : Option Addr) (n c : Nat) (w : World) (h : Mem.rd w w.heap.size [.slice A n c] s.gates) :
    Calls Try.prog 29 #[.agg #[.int .i64 s.ins, .slice A n c], .int .i64 x] w (GivesCsB w (csOf1 s x) (csOf2 s x)) := by
  have l1 := rd_len h
  have BX := Lib.hid (two_boxes w #[.int .i64 s.ins, .slice A n c] #[.int .i64 0, .slice none 0 0] 48 31)
  have R := rd_lits ((w.alloc (.cells #[.int .i64 s.ins, .slice A n c] 48)).alloc (.cells #[.int .i64 0, .slice none 0 0] 31)) [x] 3 1 rfl (by omega)
  simp only [World.size_alloc] at R
  have HE := Lib.hid (hasEdges_any s A n c (some ⟨w.heap.size + 1 + 1, 0, none⟩) 1 1 [x] (((w.alloc (.cells #[.int .i64 s.ins, .slice A n c] 48)).alloc (.cells #[.int .i64 0, .slice none 0 0] 31)).alloc (.cells #[.int .i64 x] 3)) (Mem.rd_on_alloc (Mem.rd_on_alloc (Mem.rd_on_alloc h _) _) _) (by simp only [World.size_alloc]; exact R))
  have eE : (ckB s && areE s [x]) = csOf2 s x := by unfold csOf2 areE; simp
  rw [eE] at HE
  clear R eE
  by_cases k2 : csOf2 s x = true
  · have kk : ckB s = true ∧ isE s x = true := by unfold csOf2 at k2; rwa [Bool.and_eq_true] at k2
    have OK := ckB_iff.1 kk.1
    rw [k2] at HE
    have NO := Lib.hid (fun W => atoms_any s A c W OK.lo OK.hi OK.few)
    rw [l1] at NO
    have hN := Ci.nodes_le OK.lo OK.hi OK.few
    have e1 : csOf1 s x = ⟨s.nodes - 1, putC (s.nodes - 1) (csTo (s.nodes - 1) s.ins s.gates n) [x]⟩ := by
      unfold csOf1; rw [if_pos k2]; unfold csAll; rw [l1]
    rw [e1, k2]
    have xr := isE_yes kk.2
    have hn6 := OK.few
    have hlo := OK.lo
    have hhi := OK.hi
    have HGT := Lib.hid (fun k (hk : k < n) => OK.gate k (by rw [l1]; exact hk))
    have HNO : Hid (s.nodes = 1 + s.ins + n) := Lib.hid (by unfold Ci.nodes; rw [l1])
    clear e1 k2 kk OK
    generalize s.nodes = N at *
    obtain ⟨m, rfl⟩ : ∃ m : Nat, N = (m : Int) + 1 := ⟨(N - 1).toNat, by omega⟩
    have em : (m : Int) + 1 - 1 = m := by omega
    rw [em] at NO ⊢
    obtain ⟨p, gs⟩ := s
    dsimp only at *
    rw [l1] at hn6
    have m7 : m ≤ 700 := by omega
    have HMN : Hid ((m : Int) = p + n) := Lib.hid (by have := HNO.out; omega)
    clear HNO
    have HS : Hid (∀ k, csTo m p gs (k + 1) = putC m (putC m (putC m (csTo m p gs k) (es1 p gs k)) (es2 p gs k)) (es3 p gs k)) := Lib.hid fun k => rfl
    have HLN := Lib.hid (fun k => csTo_len (m : Int) p gs k)
    clear em l1
    go_enter Try.func29, Try.ntmps29
    go_wp2_with fail
    refine HE.out.mono ?_
    rintro e w1 ⟨rfl, b1⟩
    have b1 := below_call b1
    obtain ⟨B1, Ka, Kb⟩ := BX.out _ b1
    have x0 : w1.cell? ⟨w.heap.size, 0, none⟩ = some (.int .i64 p) := Ka.cell 0
    have x1 : w1.cell? ⟨w.heap.size, 1, none⟩ = some (.slice A n c) := Ka.cell 1
    clear Ka Kb HE
    go_wp2_with fail
    refine (NO.out _).mono ?_
    rintro e w3 ⟨rfl, b3⟩
    have b13 := b1.trans (b3.mono b1.size)
    obtain ⟨B3, Ka, Kb⟩ := BX.out _ b13
    clear x0 x1
    have x0 : w3.cell? ⟨w.heap.size, 0, none⟩ = some (.int .i64 p) := Ka.cell 0
    have x1 : w3.cell? ⟨w.heap.size, 1, none⟩ = some (.slice A n c) := Ka.cell 1
    have hsz3 : w.heap.size + 1 < w3.heap.size := Kb.lt
    have hsz4 : w.heap.size < w3.heap.size := Ka.lt
    have b13 := Lib.hid b13
    clear Ka Kb b1 B1 b3 B3
    go_wp2
    go_loopg [22] n (fun q i wr => ∃ (k : Nat) (v : Value) (fp : List Nat), k + q = n ∧ i = .int .i64 k ∧ Hid (StC w3 wr w3.heap.size m v (csTo m p gs k) fp))
    case atStart => exact ⟨0, .slice none 0 0, [], by omega, rfl, Lib.hid (by exact ⟨ci_blk _ _ _, LL.nil _ _ _, below_alloc _ _⟩)⟩
    case round =>
      clear x0 x1
      obtain ⟨k, v, fp, hk, rfl, HST⟩ := hrel
      have HB0 := Lib.hid (b13.out.trans (HST.out.bel.mono b13.out.size))
      obtain ⟨B, Ka, Kb⟩ := BX.out _ HB0.out
      have x0 : wr.cell? ⟨w.heap.size, 0, none⟩ = some (.int .i64 p) := Ka.cell 0
      have x1 : wr.cell? ⟨w.heap.size, 1, none⟩ = some (.slice A n c) := Ka.cell 1
      have y0 : wr.cell? ⟨w.heap.size + 1, 0, none⟩ = some (.int .i64 0) := Kb.cell 0
      have y1 : wr.cell? ⟨w.heap.size + 1, 1, none⟩ = some (.slice none 0 0) := Kb.cell 1
      have fy0 := Kb.frozen 0
      have fy1 := Kb.frozen 1
      have hkl := HLN.out k
      have hFs : w3.heap.size < wr.heap.size := HST.out.box.lt
      have hw1 : w.heap.size < wr.heap.size := Ka.lt
      have hw2 : w.heap.size + 1 < wr.heap.size := Kb.lt
      clear Ka Kb
      by_cases hlt : k < n
      · obtain ⟨ad, rfl, hbl, d0, d1⟩ := ga_at (Mem.rd_below h B) hlt
        obtain ⟨a0, a1, q0, q1⟩ := HGT.out k hlt
        have hmn := HMN.out
        have HSk := Lib.hid (HS.out k)
        have EV := Lib.hid (fun W => evenEdge_any (1 + p + (k : Int)) W (by omega) (by omega))
        have H1 : Hid (∀ i, i < 2 → 0 ≤ ix (es1 p gs k) i ∧ ix (es1 p gs k) i ≤ 2 * m + 1) := Lib.hid fun i hi => by
          obtain rfl | rfl : i = 0 ∨ i = 1 := by omega
          · show 0 ≤ 2 * (1 + p + (k : Int)) + 1 ∧ 2 * (1 + p + (k : Int)) + 1 ≤ _; omega
          · show 0 ≤ (el gs k).a ∧ (el gs k).a ≤ _; omega
        have H2 : Hid (∀ i, i < 2 → 0 ≤ ix (es2 p gs k) i ∧ ix (es2 p gs k) i ≤ 2 * m + 1) := Lib.hid fun i hi => by
          obtain rfl | rfl : i = 0 ∨ i = 1 := by omega
          · show 0 ≤ 2 * (1 + p + (k : Int)) + 1 ∧ 2 * (1 + p + (k : Int)) + 1 ≤ _; omega
          · show 0 ≤ (el gs k).b ∧ (el gs k).b ≤ _; omega
        have H3 : Hid (∀ i, i < 3 → 0 ≤ ix (es3 p gs k) i ∧ ix (es3 p gs k) i ≤ 2 * m + 1) := Lib.hid fun i hi => by
          have na := notE_in a0 a1
          have nb := notE_in q0 q1
          obtain rfl | rfl | rfl : i = 0 ∨ i = 1 ∨ i = 2 := by omega
          · show 0 ≤ 2 * (1 + p + (k : Int)) ∧ 2 * (1 + p + (k : Int)) ≤ _; omega
          · show 0 ≤ notE (el gs k).a ∧ notE (el gs k).a ≤ _; omega
          · show 0 ≤ notE (el gs k).b ∧ notE (el gs k).b ≤ _; omega
        have NA := Lib.hid (fun W => contraryK_any (el gs k).a W (by omega) (by omega))
        have NB := Lib.hid (fun W => contraryK_any (el gs k).b W (by omega) (by omega))
        have en : notE (2 * (1 + p + (k : Int))) = 2 * (1 + p + (k : Int)) + 1 := by unfold notE; rw [if_neg (by omega)]; omega
        have NO := Lib.hid (fun W => en ▸ contraryK_any (2 * (1 + p + (k : Int))) W (by omega) (by omega))
        have l5 := putC_len m (csTo m p gs k) (es1 p gs k)
        clear a0 a1 q0 q1 hmn B en
        go_wp2_with (first | (go_at_call 72; refine (EV.out _).mono ?_; rintro e w4 ⟨rfl, rfl⟩))
        have S1 := Lib.hid (HST.out.alloc (.cells #[.int .i64 (el gs k).a, .int .i64 (el gs k).b] 92))
        have KA := ci_blk wr #[.int .i64 (el gs k).a, .int .i64 (el gs k).b] 92
        have HNA : Hid (wr.heap.size ∉ w3.heap.size :: fp) := Lib.hid fun hm => by
          rcases List.mem_cons.1 hm with e | hm
          · omega
          · have := (HST.out.list.lt _ hm).2; omega
        have zs : (wr.alloc (.cells #[.int .i64 (el gs k).a, .int .i64 (el gs k).b] 92)).heap.size = wr.heap.size + 1 := World.size_alloc _ _
        generalize wr.alloc (.cells #[.int .i64 (el gs k).a, .int .i64 (el gs k).b] 92) = W1 at S1 KA zs ⊢
        obtain ⟨g, hg⟩ : ∃ g, g = wr.heap.size := ⟨_, rfl⟩
        rw [← hg] at KA HNA zs ⊢
        have HG := Lib.hid hg
        have hFg : w3.heap.size < g := by omega
        clear hg x0 x1 y0 y1 fy0 fy1 d0 d1 hw1 hw2 hFs EV
        have ka0 : W1.cell? ⟨g, 0, none⟩ = some (.int .i64 (el gs k).a) := KA.cell 0
        have ka1 : W1.cell? ⟨g, 1, none⟩ = some (.int .i64 (el gs k).b) := KA.cell 1
        have HKA := Lib.hid KA
        have ZS := Lib.hid zs
        clear zs
        have s1 : w3.heap.size + 1 ≤ W1.heap.size := S1.out.box.lt
        have C1 := Lib.hid (put_any m m7 _ (w3.heap.size + 1) w3.heap.size _ fp (some ⟨W1.heap.size, 0, none⟩) 2 2 (es1 p gs k) (W1.drew.alloc (.cells #[.int .i64 (2 * (1 + p + (k : Int)) + 1), .int .i64 (el gs k).a] 3)) (S1.out.drew.alloc _).box (S1.out.drew.alloc _).list (rd_lits W1.drew (es1 p gs k) _ 2 rfl (by omega)) (by omega) (by omega) H1.out (Nat.lt_succ_self _) (by rw [World.size_alloc]; show _ ≤ W1.heap.size + 1; omega))
        clear KA
        go_region_law (first
          | (go_simp; go_at_call 74; refine (NO.out _).mono ?_; rintro e w41no ⟨rfl, rfl⟩)
          | (go_simp; go_at_call 73; refine C1.out.mono ?_; rintro e w5 ⟨rfl, vw5, fw5, Kw5, Lw5, onw5, inw5⟩
             have Sw5 := Lib.hid ((S1.out.drew.alloc _).stepP onw5 Kw5 Lw5)
             have KAw5 := onw5.out ((show Blk W1.drew g 92 [.int .i64 (el gs k).a, .int .i64 (el gs k).b] from HKA.out).alloc _) HNA.out
             have HINw5 := Lib.hid inw5
             clear C1 Kw5 Lw5 onw5 inw5))
        all_goals
          have s5 : w3.heap.size + 1 ≤ w5.heap.size := Sw5.out.box.lt
          have ka0 : w5.cell? ⟨g, 0, none⟩ = some (.int .i64 (el gs k).a) := KAw5.cell 0
          have ka1 : w5.cell? ⟨g, 1, none⟩ = some (.int .i64 (el gs k).b) := KAw5.cell 1
          have HKA5 := Lib.hid KAw5
          have HN2 : Hid (g ∉ w3.heap.size :: fw5) := Lib.hid fun hm => by
            have hz := ZS.out
            rcases List.mem_cons.1 hm with e | hm
            · omega
            · rcases HINw5.out _ hm with h | h
              · exact HNA.out (List.mem_cons_of_mem _ h)
              · have h : W1.heap.size + 1 ≤ g := by rw [World.size_alloc] at h; exact h
                omega
          have l6 := putC_len m (putC m (csTo m p gs k) (es1 p gs k)) (es2 p gs k)
          have gw5 : g < w5.heap.size := HKA5.out.lt
          clear KAw5
          have C2 := Lib.hid (put_any m m7 _ (w3.heap.size + 1) w3.heap.size _ fw5 (some ⟨w5.heap.size, 0, none⟩) 2 2 (es2 p gs k) (w5.drew.alloc (.cells #[.int .i64 (2 * (1 + p + (k : Int)) + 1), .int .i64 (el gs k).b] 3)) (Sw5.out.drew.alloc _).box (Sw5.out.drew.alloc _).list (rd_lits w5.drew (es2 p gs k) _ 2 rfl (by omega)) (by omega) (by omega) H2.out (Nat.lt_succ_self _) (by rw [World.size_alloc]; show _ ≤ w5.heap.size + 1; omega))
          go_wp2
          go_region_law (first
            | (go_simp; go_at_call 74; refine (NO.out _).mono ?_; rintro e w42no ⟨rfl, rfl⟩; clear NO)
            | (go_simp; go_at_call 73; refine C2.out.mono ?_; rintro e w7 ⟨rfl, vw7, fw7, Kw7, Lw7, onw7, inw7⟩
               have Sw7 := Lib.hid ((Sw5.out.drew.alloc _).stepP onw7 Kw7 Lw7)
               have KAw7 := onw7.out ((show Blk w5.drew g 92 [.int .i64 (el gs k).a, .int .i64 (el gs k).b] from HKA5.out).alloc _) HN2.out
               have HINw7 := Lib.hid inw7
               clear C2 Kw7 Lw7 onw7 inw7))
          all_goals
            have s7 : w3.heap.size + 1 ≤ w7.heap.size := Sw7.out.box.lt
            have ka0 : w7.cell? ⟨g, 0, none⟩ = some (.int .i64 (el gs k).a) := KAw7.cell 0
            have ka1 : w7.cell? ⟨g, 1, none⟩ = some (.int .i64 (el gs k).b) := KAw7.cell 1
            clear KAw7
            have C3 := Lib.hid (put_any m m7 _ (w3.heap.size + 1) w3.heap.size _ fw7 (some ⟨w7.heap.size, 0, none⟩) 3 3 (es3 p gs k) (w7.drew.alloc (.cells #[.int .i64 (2 * (1 + p + (k : Int))), .int .i64 (notE (el gs k).a), .int .i64 (notE (el gs k).b)] 3)) (Sw7.out.drew.alloc _).box (Sw7.out.drew.alloc _).list (rd_lits w7.drew (es3 p gs k) _ 3 rfl (by omega)) (by omega) (by omega) H3.out (Nat.lt_succ_self _) (by rw [World.size_alloc]; show _ ≤ w7.heap.size + 1; omega))
            go_wp2
            go_region_law (first
              | (go_simp; go_at_call 74; refine (NA.out _).mono ?_; rintro e w43na ⟨rfl, rfl⟩; clear NA)
              | (go_simp; go_at_call 74; refine (NB.out _).mono ?_; rintro e w43nb ⟨rfl, rfl⟩; clear NB)
              | (go_simp; go_at_call 73; refine C3.out.mono ?_; rintro e w9 ⟨rfl, vw9, fw9, Kw9, Lw9, onw9, inw9⟩
                 have Sw9 := Lib.hid ((Sw7.out.drew.alloc _).stepP onw9 Kw9 Lw9)
                 clear C3 Kw9 Lw9 onw9 inw9))
            all_goals
              go_wp2
              go_roundg (n - (k + 1))
              case measure => omega
              case rel => exact ⟨k + 1, _, fw9, by omega, by go_num, Lib.hid (by rw [HSk.out]; exact Sw9.out)⟩
      · obtain rfl : k = n := by omega
        obtain ⟨_, _, Kb⟩ := BX.out _ HB0.out
        have hnr : w.heap.size + 1 ∉ w3.heap.size :: fp := fun hm => by
          rcases List.mem_cons.1 hm with e | hm
          · omega
          · have := (HST.out.list.lt _ hm).1; omega
        have S1 := HST.out.alloc (.cells #[.int .i64 x] 3)
        have C4 := Lib.hid (put_any m m7 _ (w3.heap.size + 1) w3.heap.size _ fp (some ⟨wr.heap.size, 0, none⟩) 1 1 [x] (wr.alloc (.cells #[.int .i64 x] 3)) S1.box S1.list (rd_lits wr [x] _ 1 rfl (by omega)) (by omega) (by omega) (fun i hi => by
          obtain rfl : i = 0 := by omega
          show 0 ≤ x ∧ x ≤ _; omega) (Nat.lt_succ_self _) (by rw [World.size_alloc]; omega))
        have HS1 := Lib.hid S1
        have HB1 := Lib.hid (B.alloc B.size (.cells #[.int .i64 x] 3))
        have HKb := Lib.hid (Kb.alloc (.cells #[.int .i64 x] 3))
        have HNR := Lib.hid hnr
        have l4 := putC_len m (csTo m p gs k) [x]
        obtain ⟨P1, hP⟩ : ∃ P1, putC m (csTo m p gs k) [x] = P1 := ⟨_, rfl⟩
        rw [hP] at C4 l4
        have HP := Lib.hid hP
        clear Kb hnr hP S1
        go_wp2_with fail
        refine C4.out.mono ?_
        rintro e w9 ⟨rfl, v9, fp9, K9, L9, on9, in9⟩
        obtain ⟨A9, c9, rfl⟩ := row_slice L9.2.2.choose_spec.choose_spec.1
        have KR := on9.out HKb.out HNR.out
        have g0 : w9.cell? ⟨w3.heap.size, 0, none⟩ = some (.int .i64 (m : Int)) := K9.cell 0
        have g1 : w9.cell? ⟨w3.heap.size, 1, none⟩ = some (.slice A9 P1.length c9) := K9.cell 1
        have r0 : w9.cell? ⟨w.heap.size + 1, 0, none⟩ = some (.int .i64 0) := KR.cell 0
        have r1 : w9.cell? ⟨w.heap.size + 1, 1, none⟩ = some (.slice none 0 0) := KR.cell 1
        have rf0 := KR.frozen 0
        have rf1 := KR.frozen 1
        have HL9 := Lib.hid L9
        have HB9 := Lib.hid (HB1.out.trans (on9.below (B := w.heap.size) (by rw [World.size_alloc]; have := B.size; omega) fun b hb => by
          rcases List.mem_cons.1 hb with e | hb
          · omega
          · have := (HST.out.list.lt b hb).1; omega))
        clear L9 on9 in9 KR C4 K9 x0 x1 y0 y1 fy0 fy1
        go_wp2
        refine bodyPost_ret (v := .tuple #[.agg #[.int .i64 (m : Int), .slice A9 P1.length c9], .bool true]) (by simp [results, Try.results29, go_sem, r0, r1]) rfl ?_
        have hni : ∀ b ∈ fp9, w3.heap.size + 1 ≤ b := fun b hb => (HL9.out.lt b hb).1
        have L10 := (HL9.out.only (Only.set1 w9 (w.heap.size + 1) 0 (.int .i64 (m : Int))) fun b hb => by have := hni b hb; simp; omega).only (Only.set1 _ (w.heap.size + 1) 1 (.slice A9 P1.length c9)) fun b hb => by have := hni b hb; simp; omega
        rw [HP.out]
        exact ⟨A9, _, c9, fp9, rfl, L10.out (by unfold maxLen; omega), L10.2.1, fun b hb => by have := hni b hb; omega, (HB9.out.setCell (p := ⟨w.heap.size + 1, 0, none⟩) (Nat.le_succ _) _).setCell (p := ⟨w.heap.size + 1, 1, none⟩) (Nat.le_succ _) _⟩
  · have k2' : csOf2 s x = false := by simpa using k2
    rw [k2'] at HE
    have e1 : csOf1 s x = ⟨0, []⟩ := by unfold csOf1; rw [if_neg k2]
    rw [e1, k2']
    clear e1 k2 k2' l1
    obtain ⟨p, gs⟩ := s
    dsimp only at *
    go_enter Try.func29, Try.ntmps29
    go_wp2_with fail
    refine HE.out.mono ?_
    rintro e w1 ⟨rfl, b1⟩
    have b1 := below_call b1
    obtain ⟨B1, Ka, Kb⟩ := BX.out _ b1
    have r0 : w1.cell? ⟨w.heap.size + 1, 0, none⟩ = some (.int .i64 0) := Kb.cell 0
    have r1 : w1.cell? ⟨w.heap.size + 1, 1, none⟩ = some (.slice none 0 0) := Kb.cell 1
    have rf0 := Kb.frozen 0
    have rf1 := Kb.frozen 1
    clear Ka Kb
    go_wp2
    refine bodyPost_ret (v := .tuple #[.agg #[.int .i64 0, .slice none 0 0], .bool false]) (by simp [results, Try.results29, go_sem, r0, r1]) rfl ?_
    exact ⟨none, 0, 0, [], rfl, ⟨none, 0, 0, rfl, Nat.zero_le _, rfl, .inl ⟨rfl, rfl⟩⟩, List.nodup_nil, by simp, (B1.setCell (p := ⟨w.heap.size + 1, 0, none⟩) (Nat.le_succ _) _).setCell (p := ⟨w.heap.size + 1, 1, none⟩) (Nat.le_succ _) _⟩
end Go.Proofs.Ythlkbkomecnbaaa
