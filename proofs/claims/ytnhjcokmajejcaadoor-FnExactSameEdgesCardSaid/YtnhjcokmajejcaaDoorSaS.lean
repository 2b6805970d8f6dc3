/- SameEdges, in the model. -/
import Derived.Test.YtnhjcokmajejcaaDoorSaP
import Derived.Test.YtnhjcokmajejcaaDoorCiR
import Derived.Test.YtnhjcokmajejcaaDoorBitL
import Derived.Deep.RegionHeld3
import Derived.Deep.CutRange
namespace Go.Proofs.YtnhjcokmajejcaaDoor
open Go.RowKit
set_option maxRecDepth 100000

theorem bitsN_areS (p n : Nat) : arB (bitsN p n) = true := by
  unfold arB
  rw [List.all_eq_true]
  intro x hx
  obtain ⟨i, _, rfl⟩ := List.mem_map.1 hx
  have := bt_01 p n i
  have : bt p n i = 0 ∨ bt p n i = 1 := by omega
  rcases this with h | h <;> rw [h] <;> rfl
theorem sameEB_no {s : Ci} {a b : Int} (h : ckB s = false ∨ isE s a = false ∨ isE s b = false) : sameEB s a b = false := by
  unfold sameEB
  cases q0 : ckB s
  · rfl
  · cases q1 : isE s a
    · rfl
    · cases q2 : isE s b
      · rfl
      · rw [q0, q1, q2] at h; simp at h
set_option maxHeartbeats 8000000 in
theorem sameE_spec (s : Ci) (a b : Int) (A : Option Addr) (n c : Nat) (w : World) (h1 : Mem.rd w w.heap.size [.slice A n c] s.gates) :
    Calls Tryd.prog 8 #[.agg #[.int .i64 s.ins, .slice A n c], .int .i64 a, .int .i64 b] w (GivesBool w (sameEB s a b)) := by
  obtain rfl : s.gates.length = n := rd_len h1
  have CK := Lib.hid (fun W (B : Below w.heap.size w W) => ckValid_spec s A s.gates.length c W (Mem.rd_on h1 B))
  have BX := Lib.hid (ci_box (w := w) (v1 := .int .i64 s.ins) (v2 := .slice A s.gates.length c) (t := 29))
  have B0 := below_alloc w (.cells #[.int .i64 s.ins, .slice A s.gates.length c] 29)
  cases k1 : ckB s
  · have hf : Hid (sameEB s a b = false) := Lib.hid (sameEB_no (.inl k1))
    generalize sameEB s a b = z at *
    rw [k1] at CK
    obtain ⟨m, gs⟩ := s
    dsimp only at *
    clear k1 h1
    go_enter Tryd.func8, Tryd.ntmps8
    go_wp2_with fail
    refine (CK.out _ B0).mono ?_
    rintro e w1 ⟨rfl, b1⟩
    go_wp2
    go_ret
    exact ⟨(congrArg (fun b => Ending.returned (.bool b)) hf.out).symm, below_call b1⟩
  · have ok := ckB_iff.1 k1
    have few := ok.few
    have lo := ok.lo
    have hi := ok.hi
    rw [k1] at CK
    have L1 := Lib.hid (fun W => l7Edge_any s A c a W lo hi few)
    have L2 := Lib.hid (fun W => l7Edge_any s A c b W lo hi few)
    cases q1 : isE s a
    · have hf : Hid (sameEB s a b = false) := Lib.hid (sameEB_no (.inr (.inl q1)))
      generalize sameEB s a b = z at *
      rw [q1] at L1
      obtain ⟨m, gs⟩ := s
      dsimp only at *
      clear k1 h1 q1 ok lo hi few L2
      go_enter Tryd.func8, Tryd.ntmps8
      go_wp2_with fail
      refine (CK.out _ B0).mono ?_
      rintro e w1 ⟨rfl, b1⟩
      obtain ⟨B1, x0, x1⟩ := BX.out _ b1
      go_wp2_with fail
      refine (L1.out _).mono ?_
      rintro e w2 ⟨rfl, c2⟩
      go_wp2
      go_ret
      exact ⟨(congrArg (fun b => Ending.returned (.bool b)) hf.out).symm, below_call (b1.trans (c2.mono b1.size))⟩
    · rw [q1] at L1
      cases q2 : isE s b
      · have hf : Hid (sameEB s a b = false) := Lib.hid (sameEB_no (.inr (.inr q2)))
        generalize sameEB s a b = z at *
        rw [q2] at L2
        obtain ⟨m, gs⟩ := s
        dsimp only at *
        clear k1 h1 q1 q2 ok lo hi few
        go_enter Tryd.func8, Tryd.ntmps8
        go_wp2_with fail
        refine (CK.out _ B0).mono ?_
        rintro e w1 ⟨rfl, b1⟩
        obtain ⟨B1, x0, x1⟩ := BX.out _ b1
        go_wp2_with fail
        refine (L1.out _).mono ?_
        rintro e w2 ⟨rfl, c2⟩
        have b2 := b1.trans (c2.mono b1.size)
        obtain ⟨B2, x0, x1⟩ := BX.out _ b2
        go_wp2_with fail
        refine (L2.out _).mono ?_
        rintro e w3 ⟨rfl, c3⟩
        go_wp2
        go_ret
        exact ⟨(congrArg (fun b => Ending.returned (.bool b)) hf.out).symm, below_call (b2.trans (c3.mono b2.size))⟩
      · rw [q2] at L2
        obtain ⟨N, hN⟩ : ∃ N : Nat, s.ins = N := ⟨s.ins.toNat, by omega⟩
        have eN : s.ins.toNat = N := by omega
        have N12 : N ≤ 12 := by omega
        obtain ⟨qa0, qa1⟩ := isE_iff.1 q1
        obtain ⟨qb0, qb1⟩ := isE_iff.1 q2
        unfold Ci.nodes at qa1 qb1
        rw [hN] at qa1 qb1
        obtain ⟨M, hM⟩ : ∃ M : Nat, M = 2 ^ N := ⟨_, rfl⟩
        have M4 : M ≤ 4096 := by
          have : 2 ^ N ≤ 2 ^ 12 := Nat.pow_le_pow_right (by omega) N12
          omega
        have N64 : N ≤ 64 := by omega
        have w3 : wrap64 ((2 : Int) ^ N) = (M : Int) := by
          rw [show (2 : Int) ^ N = ((2 ^ N : Nat) : Int) by simp, ← hM]
          exact IntWalk.wrap64_in _ (by omega)
        have LV := Lib.hid (fun k W (hk : k < M) => l6Value_any k N W N12 (by omega))
        have LR := Lib.hid (fun k W A4 c4 b0 (o4 : W.ownsRow b0 3 1 (.slice A4 (bitsN k N).length c4) (bitsN k N).length (ints (bitsN k N))) (B : Below w.heap.size w W) => l7Run_any s A s.gates.length c A4 (bitsN k N).length c4 (bitsN k N) W (Mem.rd_on h1 B) (rd_ints.2 ⟨by rw [bitsN_len]; unfold maxLen; omega, Rd.of_own o4⟩) ok (by rw [bitsN_len]; exact hN.symm) (bitsN_areS k N))
        have LVL : ∀ k, (valTo s.gates (false :: boL (bitsN k N)) s.gates.length).length = 1 + N + s.gates.length := fun k => by rw [valTo_len, List.length_cons, boL_len, bitsN_len]; omega
        have LO := Lib.hid (fun x (z0 : 0 ≤ x) (z1 : x < 2 * (1 + (N : Int) + s.gates.length)) k W A5 c5 b0 (o5 : W.ownsRow b0 3 1 (.slice A5 (biL (valTo s.gates (false :: boL (bitsN k N)) s.gates.length)).length c5) (biL (valTo s.gates (false :: boL (bitsN k N)) s.gates.length)).length (ints (biL (valTo s.gates (false :: boL (bitsN k N)) s.gates.length)))) => show Calls Tryd.prog 32 #[.slice A5 (biL (valTo s.gates (false :: boL (bitsN k N)) s.gates.length)).length c5, .int .i64 x] W (fun r w' => r = .returned (.int .i64 (bi (Tc s x (boL (bitsN k N))))) ∧ W = w') from l7Of_any A5 (biL (valTo s.gates (false :: boL (bitsN k N)) s.gates.length)).length c5 (valTo s.gates (false :: boL (bitsN k N)) s.gates.length) x W (Rd.of_own o5) z0 (by rw [biL_len, LVL]; omega) (by rw [biL_len, LVL]; omega))
        have EZ : sameEB s a b = sameT N (Tc s a) (Tc s b) := by unfold sameEB; rw [k1, q1, q2, eN]; rfl
        have HF := Lib.hid (fun k (hk : k < M) (h : Tc s a (boL (bitsN k N)) ≠ Tc s b (boL (bitsN k N))) => show sameEB s a b = false from by
          rw [EZ]
          cases q : sameT N (Tc s a) (Tc s b)
          · rfl
          · exact absurd (sameT_iff.1 q k (by rw [← hM]; exact hk)) h)
        have HT := Lib.hid (fun (h : ∀ j, j < M → Tc s a (boL (bitsN j N)) = Tc s b (boL (bitsN j N))) => show sameEB s a b = true from by
          rw [EZ]
          exact sameT_iff.2 fun p hp => h p (by rw [hM]; exact hp))
        rw [hN] at BX B0 CK L1 L2 LR ⊢
        clear k1 q1 q2 ok lo hi hN eN h1 LVL hM few EZ N12
        generalize sameEB s a b = Z at *
        go_enter Tryd.func8, Tryd.ntmps8
        go_wp2_with fail
        refine (CK.out _ B0).mono ?_
        rintro e w1 ⟨rfl, b1⟩
        obtain ⟨B1, x0, x1⟩ := BX.out _ b1
        go_wp2_with fail
        refine (L1.out _).mono ?_
        rintro e w2 ⟨rfl, c2⟩
        have b2 := b1.trans (c2.mono b1.size)
        obtain ⟨B2, x0, x1⟩ := BX.out _ b2
        go_wp2_with fail
        refine (L2.out _).mono ?_
        rintro e w3 ⟨rfl, c3⟩
        have b3 := Lib.hid (b2.trans (c3.mono b2.size))
        clear B1 B2 x0 x1 b1 b2 c2 c3 CK L1 L2
        go_upto_region 4 with fail
        go_loopg [7, 8] M (fun r i i8 wr => ∃ k : Nat, k + r = M ∧ i = .int .i64 k ∧ Hid (∀ j, j < k → Tc s a (boL (bitsN j N)) = Tc s b (boL (bitsN j N))) ∧ Below (w.alloc (.cells #[.int .i64 N, .slice A s.gates.length c] 29)).heap.size (w.alloc (.cells #[.int .i64 N, .slice A s.gates.length c] 29)) wr)
        case atStart => exact ⟨0, by omega, rfl, Lib.hid (fun j hj => absurd hj (by omega)), b3.out⟩
        case round =>
          clear b3
          obtain ⟨k, hk, rfl, ha, hb⟩ := hrel
          obtain ⟨B, x0, x1⟩ := BX.out _ hb
          have l0 : w.heap.size < wr.heap.size := by have := hb.size; (try simp only [World.size_alloc] at this); omega
          by_cases hlt : k < M
          · have kn : (k : Int) < M := by omega
            have LVk := Lib.hid (LV.out k wr.drew hlt)
            have HFk := Lib.hid (HF.out k hlt)
            have HS : Hid (Tc s a (boL (bitsN k N)) = Tc s b (boL (bitsN k N)) → ∀ j, j < k + 1 → Tc s a (boL (bitsN j N)) = Tc s b (boL (bitsN j N))) := Lib.hid (fun q j hj => by
              by_cases e : j = k
              · subst e; exact q
              · exact ha.out j (by omega))
            clear HF HT LV
            go_upto_region 6 with fail
            refine wp_region_held_drew (S := (fun w' => w'.cell? ⟨w.heap.size, 0, none⟩ = some (.int .i64 N) ∧ w'.cell? ⟨w.heap.size, 1, none⟩ = some (.slice A s.gates.length c))) (by kernel_rfl) ?_ (fun hHeld => ?_)
            · (try dsimp only); exact ⟨x0, x1⟩
            refine wpAnyH_take (i := 0) (v := ?v0) rfl (by kernel_rfl) (by kernel_rfl) (by kernel_rfl) (fun _ _ _ h => h) (Or.inl ⟨by kernel_rfl, ?h0⟩) (by assumption) ?r0
            case h0 => ((intro w hSw; (try dsimp only at hSw); go_simp) <;> with_reducible rfl)
            (try simp only [List.getElem_toArray, List.getElem_cons_zero]); (try simp only [Act.put]); (try simp only [List.setIfInBounds_toArray]); (try simp only [List.set_cons_succ]); (try simp only [List.set_cons_zero])
            refine wpAnyH_take (i := 1) (v := ?v1) rfl (by kernel_rfl) (by kernel_rfl) (by kernel_rfl) (fun _ _ _ h => h) (Or.inl ⟨by kernel_rfl, ?h1⟩) (by assumption) ?r1
            case h1 => ((intro w hSw; (try dsimp only at hSw); go_simp) <;> with_reducible rfl)
            (try simp only [List.getElem_toArray, List.getElem_cons_zero, List.getElem_cons_succ]); (try simp only [Act.put]); (try simp only [List.setIfInBounds_toArray]); (try simp only [List.set_cons_succ]); (try simp only [List.set_cons_zero])
            refine wpAnyH_take (i := 2) (v := ?v2) rfl (by kernel_rfl) (by kernel_rfl) (by kernel_rfl) (fun _ _ _ h => h) (Or.inl ⟨by kernel_rfl, ?h2⟩) (by assumption) ?r2
            case h2 => ((intro w hSw; (try dsimp only at hSw); go_simp) <;> with_reducible rfl)
            (try simp only [List.getElem_toArray, List.getElem_cons_zero, List.getElem_cons_succ]); (try simp only [Act.put]); (try simp only [List.setIfInBounds_toArray]); (try simp only [List.set_cons_succ]); (try simp only [List.set_cons_zero])
            refine wpAnyH_take (i := 3) (v := ?v3) rfl (by kernel_rfl) (by kernel_rfl) (by kernel_rfl) (fun _ _ _ h => h) (Or.inl ⟨by kernel_rfl, ?h3⟩) (by assumption) ?r3
            case h3 => ((intro w hSw; (try dsimp only at hSw); go_simp) <;> with_reducible rfl)
            (try simp only [List.getElem_toArray, List.getElem_cons_zero, List.getElem_cons_succ]); (try simp only [Act.put]); (try simp only [List.setIfInBounds_toArray]); (try simp only [List.set_cons_succ]); (try simp only [List.set_cons_zero])
            refine wpAnyH_ready (rs := [4]) (by kernel_rfl) (by simp) ?_
            refine AllReadyH.cons (o := _) rfl (fun K hK => ?_) AllReadyH.nil
            go_simp
            refine (LVk.out).mono ?_
            rintro e w4 ⟨v4, rfl, o4, b4'⟩
            have b4 : Below wr.heap.size wr w4 := ⟨b4'.os, b4'.tape, b4'.output, b4'.size, b4'.block⟩
            obtain ⟨A4, c4, rfl⟩ := row_slice o4
            have x0 := cell_below b4 (p := ⟨w.heap.size, 0, none⟩) l0 x0
            have x1 := cell_below b4 (p := ⟨w.heap.size, 1, none⟩) l0 x1
            have L7 := Lib.hid (LR.out k w4 A4 c4 _ o4 (B.trans (b4.mono B.size)))
            have l4 := Nat.lt_of_lt_of_le l0 b4.size
            clear o4 b4'
            refine hK.out _ _ ?_ (fun hHeld => ?_)
            · (try dsimp only); exact ⟨x0, x1⟩
            clear hK K
            (try simp only [List.getElem_toArray, List.getElem_cons_zero, List.getElem_cons_succ]); (try simp only [Act.put]); (try simp only [List.setIfInBounds_toArray]); (try simp only [List.set_cons_succ]); (try simp only [List.set_cons_zero])
            refine wpAnyH_ready (rs := [5]) (by kernel_rfl) (by simp) ?_
            refine AllReadyH.cons (o := _) rfl (fun K hK => ?_) AllReadyH.nil
            go_simp
            refine (L7.out).mono ?_
            rintro e w5 ⟨v5, rfl, o5, b5⟩
            obtain ⟨A5, c5, rfl⟩ := row_slice o5
            have x0 := cell_below b5 (p := ⟨w.heap.size, 0, none⟩) l4 x0
            have x1 := cell_below b5 (p := ⟨w.heap.size, 1, none⟩) l4 x1
            have hb5 := Lib.hid (hb.trans ((b4.trans (b5.mono b4.size)).mono hb.size))
            have LA5 := Lib.hid (LO.out a qa0 qa1 k w5 A5 c5 _ o5)
            have LB5 := Lib.hid (LO.out b qb0 qb1 k w5 A5 c5 _ o5)
            clear o5 L7
            refine hK.out _ _ ?_ (fun hHeld => ?_)
            · (try dsimp only); exact ⟨x0, x1⟩
            clear hK K
            (try simp only [List.getElem_toArray, List.getElem_cons_zero, List.getElem_cons_succ]); (try simp only [Act.put]); (try simp only [List.setIfInBounds_toArray]); (try simp only [List.set_cons_succ]); (try simp only [List.set_cons_zero])
            refine wpAnyH_take (i := 6) (v := ?v6) rfl (by kernel_rfl) (by kernel_rfl) (by kernel_rfl) (fun _ _ _ h => h) (Or.inl ⟨by kernel_rfl, ?h6⟩) (by assumption) ?r6
            case h6 => ((intro w hSw; (try dsimp only at hSw); go_simp) <;> with_reducible rfl)
            (try simp only [List.getElem_toArray, List.getElem_cons_zero, List.getElem_cons_succ]); (try simp only [Act.put]); (try simp only [List.setIfInBounds_toArray]); (try simp only [List.set_cons_succ]); (try simp only [List.set_cons_zero])
            refine wpAnyH_done (by kernel_rfl) ?_ _
            by_cases z : Tc s a (boL (bitsN k N)) = Tc s b (boL (bitsN k N))
            · have hs := Lib.hid (HS.out z)
              have z0 : (bi (Tc s a (boL (bitsN k N))) != bi (Tc s b (boL (bitsN k N)))) = false := by rw [z]; simp
              clear HFk HS z LO LR ha
              generalize bi (Tc s a (boL (bitsN k N))) = X at *
              generalize bi (Tc s b (boL (bitsN k N))) = Y at *
              go_wp2_with fail
              refine (LA5.out).mono ?_
              rintro e w6 ⟨rfl, rfl⟩
              go_wp2_with fail
              refine (LB5.out).mono ?_
              rintro e w7 ⟨rfl, rfl⟩
              go_wp2
              go_roundg (M - (k + 1))
              case measure => omega
              case rel => exact ⟨k + 1, by omega, by go_num, hs, hb5.out⟩
            · have hf := Lib.hid (HFk.out z)
              have z0 : (bi (Tc s a (boL (bitsN k N))) != bi (Tc s b (boL (bitsN k N)))) = true := by
                cases e1 : Tc s a (boL (bitsN k N)) <;> cases e2 : Tc s b (boL (bitsN k N)) <;> first | rfl | (rw [e1, e2] at z; exact absurd rfl z)
              clear HFk HS z LO LR ha
              generalize bi (Tc s a (boL (bitsN k N))) = X at *
              generalize bi (Tc s b (boL (bitsN k N))) = Y at *
              go_wp2_with fail
              refine (LA5.out).mono ?_
              rintro e w6 ⟨rfl, rfl⟩
              go_wp2_with fail
              refine (LB5.out).mono ?_
              rintro e w7 ⟨rfl, rfl⟩
              go_wp2
              go_ret
              exact ⟨(congrArg (fun b => Ending.returned (.bool b)) hf.out).symm, below_call hb5.out⟩
          · obtain rfl : k = M := by omega
            have E := Lib.hid (HT.out ha.out)
            clear HT HF
            go_wp2
            go_ret
            exact ⟨(congrArg (fun b => Ending.returned (.bool b)) E.out).symm, B⟩
end Go.Proofs.YtnhjcokmajejcaaDoor
