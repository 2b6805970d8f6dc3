/- Diagrams: what an operation makes of two places, in the program. -/
import Derived.Test.YtnpdeliaefjmlaaDgQ
import Derived.Test.YtnpdeliaefjmlaaSeq
import Derived.BigQuiet
namespace Go.Proofs.Ytnpdeliaefjmlaa
open Go.RowKit
set_option maxRecDepth 100000

/-- The call does an operation. -/
def GivesRun (base g : Nat) (d : Dg) (op a b : Int) (full : Bool) (m : Nat) (w : World) (e : Ending) (w' : World) : Prop :=
  ∃ x d' full', e = .returned (.int .i64 x) ∧ MkD w' base g d' full' m ∧ Below base w w' ∧ Ran d op a b full x d' full' ∧ Frame g w w'
theorem mine_lt {w : World} {base g : Nat} {d : Dg} {full : Bool} {m b : Nat} (h : MkD w base g d full m) (hb : mine w g b) : b < w.heap.size := by
  obtain ⟨A, cc, bp, cp, Dp, br, cr, Dr, kg, ho, hp, c1, f1, hr, c2, f2, hd, hrow⟩ := h.mem
  rcases (mine_iff kg).1 hb with q | q | q | q
  · rw [q]; exact kg.lt
  · rw [q]; exact hp.lt
  · rw [q]; exact hr.lt
  · exact (ho.lt b q).2
theorem place_sml {d : Dg} {n : Int} (h : isP d n = true) (ok : d.Ok) : sml n := by
  have := isP_iff.1 h
  have := ok.few
  exact ⟨by omega, by omega⟩
theorem fitA_sml {d : Dg} {op a b : Int} (g : fitA d op a b) (ok : d.Ok) : sml op ∧ sml a ∧ sml b := by
  have h0 := g.o0
  have h1 := g.o1
  have hi := ok.hi
  refine ⟨⟨h0, by omega⟩, place_sml g.pa ok, ?_⟩
  by_cases o : op < 3
  · exact place_sml (g.pb o) ok
  · have := g.v0 (by omega)
    have := g.v1 (by omega)
    exact ⟨by omega, by omega⟩
/-- What stands at a maker: to call the diagram's functions there. -/
theorem mkD_row {w : World} {base g : Nat} {d : Dg} {full : Bool} {m : Nat} (h : MkD w base g d full m) : ∃ A cc bp br, Blk w g 127 [.int .i64 d.vars, .slice A d.forks.length cc, .map (some bp), .map (some br), .bool full] ∧ Mem.rd w w.heap.size [.slice A d.forks.length cc] d.forks ∧ d.forks.length ≤ 2000 ∧ g < w.heap.size ∧ base ≤ g := by
  obtain ⟨A, cc, bp, cp, Dp, br, cr, Dr, kg, ho, hp, c1, f1, hr, c2, f2, hd, hrow⟩ := h.mem
  have few := h.ok.few
  exact ⟨A, cc, bp, br, kg, rd_forks ho rfl (by omega), few, kg.lt, hd.1⟩

set_option maxRecDepth 100000 in
set_option maxHeartbeats 8000000 in
theorem combine_any (k : Nat) : ∀ (d : Dg) (op a b : Int) (full : Bool) (m base g : Nat) (w : World), MkD w base g d full m → base ≤ w.heap.size → fitA d op a b → op < 3 → d.vars - rk d op a b < k → m + 3 ^ k ≤ 100000000 →
    Calls Try.prog 120 #[.pointer (some ⟨g, 0, none⟩), .int .i64 op, .int .i64 a, .int .i64 b] w (GivesRun base g d op a b full (m + 3 ^ k) w) := by
  induction k with
  | zero => intro d op a b full m base g w hM _ gA _ hk _; have := rk_le hM.ok gA; omega
  | succ k ih =>
    intro d op a b full m base g w hM hb gA ho3 hk hm
    have IH := Lib.hid ih
    clear ih
    have ok := hM.ok
    have h3 : 0 < 3 ^ k := Nat.pow_pos (by decide)
    rw [Nat.pow_succ] at hm ⊢
    cases e : stp d op a b with
    | val x =>
      have DV := Lib.hid (fun W => decided_val d op a b x W gA ho3 e)
      have HR := Lib.hid (ran_val ok gA full e)
      have HM := Lib.hid (mkD_more hM (Nat.le_add_right m (3 ^ k * 3)))
      have LG := Lib.hid (mkD_lt hM).1
      clear hM gA e ok hm hk
      go_enter Try.func120, Try.ntmps120
      go_wp2_with fail
      refine (DV.out _).mono ?_
      rintro e w1 ⟨rfl, rfl⟩
      go_wp2
      go_ret
      exact ⟨x, d, full, rfl, HM.out, Below.refl _ _, HR.out, Frame.of_below (Below.refl _ _) LG.out⟩
    | two v a0 b0 a1 b1 =>
      have DT := Lib.hid (fun W => decided_two d op a b v a0 b0 a1 b1 W gA ho3 e)
      obtain ⟨s1, s2, s3⟩ := fitA_sml gA ok
      obtain ⟨kl, hkl⟩ := op_key s1 s2 s3
      obtain ⟨A, cc, bp, cp, Dp, br, cr, Dr, kg, ho, hp, c1, f1, hr, c2, f2, hd, hrow⟩ := hM.mem
      have BK := below_alloc w (.cells #[.int .i64 op, .int .i64 a, .int .i64 b] 130)
      have hr1 := mp_below hr BK
      obtain ⟨y, hy, HL⟩ := mp_look hr1 op_law Try.underlying125 hkl
      have LK := fun k => HL ((w.alloc (.cells #[.int .i64 op, .int .i64 a, .int .i64 b] 130)).drewN k) rfl
      have lg := kg.lt
      have z2 := kg.cell 3
      simp only [List.getElem?_cons_zero, List.getElem?_cons_succ] at z2
      have HBK := Lib.hid BK
      cases hh : Maps.has Dr kl
      · have HM1 := Lib.hid (fun k => mkD_of_heap (w' := (w.alloc (.cells #[.int .i64 op, .int .i64 a, .int .i64 b] 130)).drewN k) (mkD_below hM BK) rfl)
        have KB1 := Lib.hid (fun k => blk_of_heap (w' := (w.alloc (.cells #[.int .i64 op, .int .i64 a, .int .i64 b] 130)).drewN k) (ci_blk w #[.int .i64 op, .int .i64 a, .int .i64 b] 130) rfl)
        have NK := Lib.hid (fun (q : mine w g w.heap.size) => Nat.lt_irrefl _ (mine_lt hM q))
        have BW1 := Lib.hid (fun k => (⟨BK.os, BK.tape, BK.output, BK.size, BK.block⟩ : Below w.heap.size w ((w.alloc (.cells #[.int .i64 op, .int .i64 a, .int .i64 b] 130)).drewN k)))
        rw [hh] at LK
        have HKL := Lib.hid hkl
        clear hr1 HL hy kg ho hp c1 f1 hr c2 f2 hd hrow hkl hh hM BK
        obtain ⟨ev, v0, v1, g0, g1, r0, r1⟩ := stp_two ok gA e
        have ee : v = minV d a b ∧ a0 = atP d a v 0 ∧ b0 = atP d b v 0 ∧ a1 = atP d a v 1 ∧ b1 = atP d b v 1 := by
          have e2 := e
          unfold stp at e2
          rw [if_pos ho3] at e2
          by_cases c1 : op = 1 ∧ (a = 0 ∨ b = 0)
          · rw [if_pos c1] at e2; cases e2
          · rw [if_neg c1] at e2
            by_cases c2 : op = 2 ∧ (a = 1 ∨ b = 1)
            · rw [if_pos c2] at e2; cases e2
            · rw [if_neg c2] at e2
              by_cases c3 : 2 ≤ a ∨ 2 ≤ b
              · rw [if_pos c3] at e2
                injection e2 with q1 q2 q3 q4 q5
                subst q1
                exact ⟨rfl, q2.symm, q3.symm, q4.symm, q5.symm⟩
              · rw [if_neg c3] at e2
                by_cases c4 : op = 0
                · rw [if_pos c4] at e2; cases e2
                · rw [if_neg c4] at e2; cases e2
        obtain ⟨em, ea0, eb0, ea1, eb1⟩ := ee
        subst ea0
        subst eb0
        have HE := Lib.hid e
        have EV := Lib.hid ev
        have EM := Lib.hid em
        have EA1 := Lib.hid ea1
        have EB1 := Lib.hid eb1
        have R0 : d.vars - rk d op (atP d a v 0) (atP d b v 0) < k := by omega
        clear e ev em ea1 eb1
        have pa := gA.pa
        have pb := gA.pb ho3
        go_enter Try.func120, Try.ntmps120
        go_wp2_with fail
        refine (DT.out _).mono ?_
        rintro e w1 ⟨rfl, rfl⟩
        go_wp2
        go_quiet (fail)
        go_wp2
        have hM1 := HM1.out nq
        have kb1 := KB1.out nq
        have bw1 := BW1.out nq
        have nk1 : ¬ mine ((w.alloc (.cells #[.int .i64 op, .int .i64 a, .int .i64 b] 130)).drewN nq) g w.heap.size := fun q => NK.out ((mine_heap (bw1.block g lg)).1 q)
        have fw1 := Lib.hid (Frame.of_below bw1 lg)
        clear HM1 KB1 BW1 LK z2
        generalize (w.alloc (.cells #[.int .i64 op, .int .i64 a, .int .i64 b] 130)).drewN nq = W1 at hM1 kb1 bw1 nk1 fw1 ⊢
        obtain ⟨A1, cc1, bp1, br1, kg1, rd1, few1, lg1, hbg1⟩ := mkD_row hM1
        have z0 := kg1.cell 0
        have z1 := kg1.cell 1
        simp only [List.getElem?_cons_zero, List.getElem?_cons_succ] at z0 z1
        have KG1 := Lib.hid kg1
        have va := Lib.hid (variable_any d A1 d.forks.length cc1 a W1.drew (Mem.rd_drew rd1) (by omega) (isP_iff.1 pa).2)
        have VB := Lib.hid (fun W (B : Below W1.heap.size W1 W) => variable_any d A1 d.forks.length cc1 b W (Mem.rd_on rd1 B) (by omega) (isP_iff.1 pb).2)
        go_wp2
        refine wp_region_held_drew (S := (fun w' => w'.cell? ⟨g, 0, none⟩ = some (.int .i64 d.vars) ∧ w'.cell? ⟨g, 1, none⟩ = some (.slice A1 d.forks.length cc1))) (by kernel_rfl) ?_ (fun hHeld => ?_)
        · (try dsimp only); exact ⟨z0, z1⟩
        refine wpAnyH_take (i := 0) (v := ?av0) rfl (by kernel_rfl) (by kernel_rfl) (by kernel_rfl) (fun _ _ _ h => h) (Or.inl ⟨by kernel_rfl, ?ah0⟩) (by assumption) ?ar0
        case ah0 => ((intro w hSw; (try dsimp only at hSw); go_simp) <;> with_reducible rfl)
        (try simp only [List.getElem_toArray, List.getElem_cons_zero]); (try simp only [Act.put]); (try simp only [List.setIfInBounds_toArray]); (try simp only [List.set_cons_succ]); (try simp only [List.set_cons_zero])
        refine wpAnyH_take (i := 1) (v := ?av1) rfl (by kernel_rfl) (by kernel_rfl) (by kernel_rfl) (fun _ _ _ h => h) (Or.inl ⟨by kernel_rfl, ?ah1⟩) (by assumption) ?ar1
        case ah1 => ((intro w hSw; (try dsimp only at hSw); go_simp) <;> with_reducible rfl)
        (try simp only [List.getElem_toArray, List.getElem_cons_zero, List.getElem_cons_succ]); (try simp only [Act.put]); (try simp only [List.setIfInBounds_toArray]); (try simp only [List.set_cons_succ]); (try simp only [List.set_cons_zero])
        refine wpAnyH_take (i := 2) (v := ?av2) rfl (by kernel_rfl) (by kernel_rfl) (by kernel_rfl) (fun _ _ _ h => h) (Or.inl ⟨by kernel_rfl, ?ah2⟩) (by assumption) ?ar2
        case ah2 => ((intro w hSw; (try dsimp only at hSw); go_simp) <;> with_reducible rfl)
        (try simp only [List.getElem_toArray, List.getElem_cons_zero, List.getElem_cons_succ]); (try simp only [Act.put]); (try simp only [List.setIfInBounds_toArray]); (try simp only [List.set_cons_succ]); (try simp only [List.set_cons_zero])
        refine wpAnyH_take (i := 3) (v := ?av3) rfl (by kernel_rfl) (by kernel_rfl) (by kernel_rfl) (fun _ _ _ h => h) (Or.inl ⟨by kernel_rfl, ?ah3⟩) (by assumption) ?ar3
        case ah3 => ((intro w hSw; (try dsimp only at hSw); go_simp) <;> with_reducible rfl)
        (try simp only [List.getElem_toArray, List.getElem_cons_zero, List.getElem_cons_succ]); (try simp only [Act.put]); (try simp only [List.setIfInBounds_toArray]); (try simp only [List.set_cons_succ]); (try simp only [List.set_cons_zero])
        refine wpAnyH_take (i := 4) (v := ?av4) rfl (by kernel_rfl) (by kernel_rfl) (by kernel_rfl) (fun _ _ _ h => h) (Or.inl ⟨by kernel_rfl, ?ah4⟩) (by assumption) ?ar4
        case ah4 => ((intro w hSw; (try dsimp only at hSw); go_simp) <;> with_reducible rfl)
        (try simp only [List.getElem_toArray, List.getElem_cons_zero, List.getElem_cons_succ]); (try simp only [Act.put]); (try simp only [List.setIfInBounds_toArray]); (try simp only [List.set_cons_succ]); (try simp only [List.set_cons_zero])
        refine wpAnyH_take (i := 6) (v := ?av6) rfl (by kernel_rfl) (by kernel_rfl) (by kernel_rfl) (fun _ _ _ h => h) (Or.inl ⟨by kernel_rfl, ?ah6⟩) (by assumption) ?ar6
        case ah6 => ((intro w hSw; (try dsimp only at hSw); go_simp) <;> with_reducible rfl)
        (try simp only [List.getElem_toArray, List.getElem_cons_zero, List.getElem_cons_succ]); (try simp only [Act.put]); (try simp only [List.setIfInBounds_toArray]); (try simp only [List.set_cons_succ]); (try simp only [List.set_cons_zero])
        refine wpAnyH_take (i := 7) (v := ?av7) rfl (by kernel_rfl) (by kernel_rfl) (by kernel_rfl) (fun _ _ _ h => h) (Or.inl ⟨by kernel_rfl, ?ah7⟩) (by assumption) ?ar7
        case ah7 => ((intro w hSw; (try dsimp only at hSw); go_simp) <;> with_reducible rfl)
        (try simp only [List.getElem_toArray, List.getElem_cons_zero, List.getElem_cons_succ]); (try simp only [Act.put]); (try simp only [List.setIfInBounds_toArray]); (try simp only [List.set_cons_succ]); (try simp only [List.set_cons_zero])
        refine wpAnyH_take (i := 8) (v := ?av8) rfl (by kernel_rfl) (by kernel_rfl) (by kernel_rfl) (fun _ _ _ h => h) (Or.inl ⟨by kernel_rfl, ?ah8⟩) (by assumption) ?ar8
        case ah8 => ((intro w hSw; (try dsimp only at hSw); go_simp) <;> with_reducible rfl)
        (try simp only [List.getElem_toArray, List.getElem_cons_zero, List.getElem_cons_succ]); (try simp only [Act.put]); (try simp only [List.setIfInBounds_toArray]); (try simp only [List.set_cons_succ]); (try simp only [List.set_cons_zero])
        refine wpAnyH_take (i := 9) (v := ?av9) rfl (by kernel_rfl) (by kernel_rfl) (by kernel_rfl) (fun _ _ _ h => h) (Or.inl ⟨by kernel_rfl, ?ah9⟩) (by assumption) ?ar9
        case ah9 => ((intro w hSw; (try dsimp only at hSw); go_simp) <;> with_reducible rfl)
        (try simp only [List.getElem_toArray, List.getElem_cons_zero, List.getElem_cons_succ]); (try simp only [Act.put]); (try simp only [List.setIfInBounds_toArray]); (try simp only [List.set_cons_succ]); (try simp only [List.set_cons_zero])
        refine wpAnyH_take (i := 10) (v := ?av10) rfl (by kernel_rfl) (by kernel_rfl) (by kernel_rfl) (fun _ _ _ h => h) (Or.inl ⟨by kernel_rfl, ?ah10⟩) (by assumption) ?ar10
        case ah10 => ((intro w hSw; (try dsimp only at hSw); go_simp) <;> with_reducible rfl)
        (try simp only [List.getElem_toArray, List.getElem_cons_zero, List.getElem_cons_succ]); (try simp only [Act.put]); (try simp only [List.setIfInBounds_toArray]); (try simp only [List.set_cons_succ]); (try simp only [List.set_cons_zero])
        refine wpAnyH_ready (rs := [5]) (by kernel_rfl) (by simp) ?_
        refine AllReadyH.cons (o := _) rfl (fun K hK => ?_) AllReadyH.nil
        go_simp
        refine (va.out).mono ?_
        rintro e w2 ⟨rfl, b2'⟩
        have b2 : Below W1.heap.size W1 w2 := ⟨b2'.os, b2'.tape, b2'.output, b2'.size, b2'.block⟩
        have z0 := cell_below b2 (p := ⟨g, 0, none⟩) lg1 z0
        have z1 := cell_below b2 (p := ⟨g, 1, none⟩) lg1 z1
        have lg2 := Nat.lt_of_lt_of_le lg1 b2.size
        have vb := Lib.hid (VB.out w2 b2)
        refine hK.out _ _ ?_ (fun hHeld => ?_)
        · (try dsimp only); exact ⟨z0, z1⟩
        clear hK K
        (try simp only [List.getElem_toArray, List.getElem_cons_zero, List.getElem_cons_succ]); (try simp only [Act.put]); (try simp only [List.setIfInBounds_toArray]); (try simp only [List.set_cons_succ]); (try simp only [List.set_cons_zero])
        refine wpAnyH_ready (rs := [11]) (by kernel_rfl) (by simp) ?_
        refine AllReadyH.cons (o := _) rfl (fun K hK => ?_) AllReadyH.nil
        go_simp
        refine (vb.out).mono ?_
        rintro e w3 ⟨rfl, b3'⟩
        have z0 := cell_below b3' (p := ⟨g, 0, none⟩) lg2 z0
        have z1 := cell_below b3' (p := ⟨g, 1, none⟩) lg2 z1
        have b3 := b2.trans (b3'.mono b2.size)
        refine hK.out _ _ ?_ (fun hHeld => ?_)
        · (try dsimp only); exact ⟨z0, z1⟩
        clear hK K
        (try simp only [List.getElem_toArray, List.getElem_cons_zero, List.getElem_cons_succ]); (try simp only [Act.put]); (try simp only [List.setIfInBounds_toArray]); (try simp only [List.set_cons_succ]); (try simp only [List.set_cons_zero])
        refine wpAnyH_take (i := 12) (v := ?av12) rfl (by kernel_rfl) (by kernel_rfl) (by kernel_rfl) (fun _ _ _ h => h) (Or.inl ⟨by kernel_rfl, ?ah12⟩) (by assumption) ?ar12
        case ah12 => ((intro w hSw; (try dsimp only at hSw); go_simp) <;> with_reducible rfl)
        (try simp only [List.getElem_toArray, List.getElem_cons_zero, List.getElem_cons_succ]); (try simp only [Act.put]); (try simp only [List.setIfInBounds_toArray]); (try simp only [List.set_cons_succ]); (try simp only [List.set_cons_zero])
        refine wpAnyH_take (i := 13) (v := ?av13) rfl (by kernel_rfl) (by kernel_rfl) (by kernel_rfl) (fun _ _ _ h => h) (Or.inl ⟨by kernel_rfl, ?ah13⟩) (by assumption) ?ar13
        case ah13 => ((intro w hSw; (try dsimp only at hSw); go_simp) <;> with_reducible rfl)
        (try simp only [List.getElem_toArray, List.getElem_cons_zero, List.getElem_cons_succ]); (try simp only [Act.put]); (try simp only [List.setIfInBounds_toArray]); (try simp only [List.set_cons_succ]); (try simp only [List.set_cons_zero])
        refine wpAnyH_done (by kernel_rfl) ?_ _
        rw [show (if varP d b < varP d a then varP d b else varP d a) = v from EM.out.symm]
        have AA := Lib.hid (fun W (B : Below W1.heap.size W1 W) => along_any d A1 d.forks.length cc1 a v 0 W (Mem.rd_on rd1 B) (by omega) (isP_iff.1 pa).2 v1)
        have AB := Lib.hid (fun W (B : Below W1.heap.size W1 W) => along_any d A1 d.forks.length cc1 b v 0 W (Mem.rd_on rd1 B) (by omega) (isP_iff.1 pb).2 v1)
        have C0 := Lib.hid (fun W (B : Below W1.heap.size W1 W) => IH.out d op (atP d a v 0) (atP d b v 0) full m base g W (mkD_below hM1 B) (Nat.le_trans hb (Nat.le_trans bw1.size B.size)) g0 ho3 R0 (by omega))
        have aa := Lib.hid (AA.out w3.drew ⟨b3.os, b3.tape, b3.output, b3.size, b3.block⟩)
        have lg3 := Nat.lt_of_lt_of_le lg1 b3.size
        go_wp2
        refine region_till 16 (fun w' => w'.cell? ⟨g, 0, none⟩ = some (.int .i64 d.vars) ∧ w'.cell? ⟨g, 1, none⟩ = some (.slice A1 d.forks.length cc1)) (by kernel_rfl) ?_ (fun hHeld => ?_)
        · (try dsimp only); exact ⟨z0, z1⟩
        refine till_take (i := 0) (v := ?bv0) [16] rfl (by kernel_rfl) (by kernel_rfl) (by kernel_rfl) (by kernel_rfl) (by kernel_rfl) (fun _ _ _ h => h) (Or.inl ⟨by kernel_rfl, ?bh0⟩) (by assumption) ?br0
        case bh0 => ((intro w hSw; (try dsimp only at hSw); go_simp) <;> with_reducible rfl)
        (try simp only [List.getElem_toArray, List.getElem_cons_zero]); (try simp only [Act.put]); (try simp only [List.setIfInBounds_toArray]); (try simp only [List.set_cons_succ]); (try simp only [List.set_cons_zero])
        refine till_take (i := 1) (v := ?bv1) [16] rfl (by kernel_rfl) (by kernel_rfl) (by kernel_rfl) (by kernel_rfl) (by kernel_rfl) (fun _ _ _ h => h) (Or.inl ⟨by kernel_rfl, ?bh1⟩) (by assumption) ?br1
        case bh1 => ((intro w hSw; (try dsimp only at hSw); go_simp) <;> with_reducible rfl)
        (try simp only [List.getElem_toArray, List.getElem_cons_zero, List.getElem_cons_succ]); (try simp only [Act.put]); (try simp only [List.setIfInBounds_toArray]); (try simp only [List.set_cons_succ]); (try simp only [List.set_cons_zero])
        refine till_take (i := 2) (v := ?bv2) [3, 4, 5, 8, 16] rfl (by kernel_rfl) (by kernel_rfl) (by kernel_rfl) (by kernel_rfl) (by kernel_rfl) (fun _ _ _ h => h) (Or.inl ⟨by kernel_rfl, ?bh2⟩) (by assumption) ?br2
        case bh2 => ((intro w hSw; (try dsimp only at hSw); go_simp) <;> with_reducible rfl)
        (try simp only [List.getElem_toArray, List.getElem_cons_zero, List.getElem_cons_succ]); (try simp only [Act.put]); (try simp only [List.setIfInBounds_toArray]); (try simp only [List.set_cons_succ]); (try simp only [List.set_cons_zero])
        refine till_take (i := 3) (v := ?bv3) [4, 5, 8, 16] rfl (by kernel_rfl) (by kernel_rfl) (by kernel_rfl) (by kernel_rfl) (by kernel_rfl) (fun _ _ _ h => h) (Or.inl ⟨by kernel_rfl, ?bh3⟩) (by assumption) ?br3
        case bh3 => ((intro w hSw; (try dsimp only at hSw); go_simp) <;> with_reducible rfl)
        (try simp only [List.getElem_toArray, List.getElem_cons_zero, List.getElem_cons_succ]); (try simp only [Act.put]); (try simp only [List.setIfInBounds_toArray]); (try simp only [List.set_cons_succ]); (try simp only [List.set_cons_zero])
        refine till_take (i := 4) (v := ?bv4) [5, 8, 16] rfl (by kernel_rfl) (by kernel_rfl) (by kernel_rfl) (by kernel_rfl) (by kernel_rfl) (fun _ _ _ h => h) (Or.inl ⟨by kernel_rfl, ?bh4⟩) (by assumption) ?br4
        case bh4 => ((intro w hSw; (try dsimp only at hSw); go_simp) <;> with_reducible rfl)
        (try simp only [List.getElem_toArray, List.getElem_cons_zero, List.getElem_cons_succ]); (try simp only [Act.put]); (try simp only [List.setIfInBounds_toArray]); (try simp only [List.set_cons_succ]); (try simp only [List.set_cons_zero])
        refine till_take (i := 5) (v := ?bv5) [8, 16] rfl (by kernel_rfl) (by kernel_rfl) (by kernel_rfl) (by kernel_rfl) (by kernel_rfl) (fun _ _ _ h => h) (Or.inl ⟨by kernel_rfl, ?bh5⟩) (by assumption) ?br5
        case bh5 => ((intro w hSw; (try dsimp only at hSw); go_simp) <;> with_reducible rfl)
        (try simp only [List.getElem_toArray, List.getElem_cons_zero, List.getElem_cons_succ]); (try simp only [Act.put]); (try simp only [List.setIfInBounds_toArray]); (try simp only [List.set_cons_succ]); (try simp only [List.set_cons_zero])
        refine till_take (i := 6) (v := ?bv6) [8, 16] rfl (by kernel_rfl) (by kernel_rfl) (by kernel_rfl) (by kernel_rfl) (by kernel_rfl) (fun _ _ _ h => h) (Or.inl ⟨by kernel_rfl, ?bh6⟩) (by assumption) ?br6
        case bh6 => ((intro w hSw; (try dsimp only at hSw); go_simp) <;> with_reducible rfl)
        (try simp only [List.getElem_toArray, List.getElem_cons_zero, List.getElem_cons_succ]); (try simp only [Act.put]); (try simp only [List.setIfInBounds_toArray]); (try simp only [List.set_cons_succ]); (try simp only [List.set_cons_zero])
        refine till_take (i := 7) (v := ?bv7) [8, 16] rfl (by kernel_rfl) (by kernel_rfl) (by kernel_rfl) (by kernel_rfl) (by kernel_rfl) (fun _ _ _ h => h) (Or.inl ⟨by kernel_rfl, ?bh7⟩) (by assumption) ?br7
        case bh7 => ((intro w hSw; (try dsimp only at hSw); go_simp) <;> with_reducible rfl)
        (try simp only [List.getElem_toArray, List.getElem_cons_zero, List.getElem_cons_succ]); (try simp only [Act.put]); (try simp only [List.setIfInBounds_toArray]); (try simp only [List.set_cons_succ]); (try simp only [List.set_cons_zero])
        refine till_take (i := 9) (v := ?bv9) [10, 11, 12, 15, 16] rfl (by kernel_rfl) (by kernel_rfl) (by kernel_rfl) (by kernel_rfl) (by kernel_rfl) (fun _ _ _ h => h) (Or.inl ⟨by kernel_rfl, ?bh9⟩) (by assumption) ?br9
        case bh9 => ((intro w hSw; (try dsimp only at hSw); go_simp) <;> with_reducible rfl)
        (try simp only [List.getElem_toArray, List.getElem_cons_zero, List.getElem_cons_succ]); (try simp only [Act.put]); (try simp only [List.setIfInBounds_toArray]); (try simp only [List.set_cons_succ]); (try simp only [List.set_cons_zero])
        refine till_take (i := 10) (v := ?bv10) [11, 12, 15, 16] rfl (by kernel_rfl) (by kernel_rfl) (by kernel_rfl) (by kernel_rfl) (by kernel_rfl) (fun _ _ _ h => h) (Or.inl ⟨by kernel_rfl, ?bh10⟩) (by assumption) ?br10
        case bh10 => ((intro w hSw; (try dsimp only at hSw); go_simp) <;> with_reducible rfl)
        (try simp only [List.getElem_toArray, List.getElem_cons_zero, List.getElem_cons_succ]); (try simp only [Act.put]); (try simp only [List.setIfInBounds_toArray]); (try simp only [List.set_cons_succ]); (try simp only [List.set_cons_zero])
        refine till_take (i := 11) (v := ?bv11) [12, 15, 16] rfl (by kernel_rfl) (by kernel_rfl) (by kernel_rfl) (by kernel_rfl) (by kernel_rfl) (fun _ _ _ h => h) (Or.inl ⟨by kernel_rfl, ?bh11⟩) (by assumption) ?br11
        case bh11 => ((intro w hSw; (try dsimp only at hSw); go_simp) <;> with_reducible rfl)
        (try simp only [List.getElem_toArray, List.getElem_cons_zero, List.getElem_cons_succ]); (try simp only [Act.put]); (try simp only [List.setIfInBounds_toArray]); (try simp only [List.set_cons_succ]); (try simp only [List.set_cons_zero])
        refine till_take (i := 12) (v := ?bv12) [15, 16] rfl (by kernel_rfl) (by kernel_rfl) (by kernel_rfl) (by kernel_rfl) (by kernel_rfl) (fun _ _ _ h => h) (Or.inl ⟨by kernel_rfl, ?bh12⟩) (by assumption) ?br12
        case bh12 => ((intro w hSw; (try dsimp only at hSw); go_simp) <;> with_reducible rfl)
        (try simp only [List.getElem_toArray, List.getElem_cons_zero, List.getElem_cons_succ]); (try simp only [Act.put]); (try simp only [List.setIfInBounds_toArray]); (try simp only [List.set_cons_succ]); (try simp only [List.set_cons_zero])
        refine till_take (i := 13) (v := ?bv13) [15, 16] rfl (by kernel_rfl) (by kernel_rfl) (by kernel_rfl) (by kernel_rfl) (by kernel_rfl) (fun _ _ _ h => h) (Or.inl ⟨by kernel_rfl, ?bh13⟩) (by assumption) ?br13
        case bh13 => ((intro w hSw; (try dsimp only at hSw); go_simp) <;> with_reducible rfl)
        (try simp only [List.getElem_toArray, List.getElem_cons_zero, List.getElem_cons_succ]); (try simp only [Act.put]); (try simp only [List.setIfInBounds_toArray]); (try simp only [List.set_cons_succ]); (try simp only [List.set_cons_zero])
        refine till_take (i := 14) (v := ?bv14) [15, 16] rfl (by kernel_rfl) (by kernel_rfl) (by kernel_rfl) (by kernel_rfl) (by kernel_rfl) (fun _ _ _ h => h) (Or.inl ⟨by kernel_rfl, ?bh14⟩) (by assumption) ?br14
        case bh14 => ((intro w hSw; (try dsimp only at hSw); go_simp) <;> with_reducible rfl)
        (try simp only [List.getElem_toArray, List.getElem_cons_zero, List.getElem_cons_succ]); (try simp only [Act.put]); (try simp only [List.setIfInBounds_toArray]); (try simp only [List.set_cons_succ]); (try simp only [List.set_cons_zero])
        refine till_one (i := 8) (o := _) (by kernel_rfl) rfl (by kernel_rfl) (fun K hK => ?_)
        go_simp
        refine (aa.out).mono ?_
        rintro e w4 ⟨rfl, b4'⟩
        have b4 : Below w3.heap.size w3 w4 := ⟨b4'.os, b4'.tape, b4'.output, b4'.size, b4'.block⟩
        have b14 := b3.trans (b4.mono b3.size)
        have z0 := cell_below b4 (p := ⟨g, 0, none⟩) lg3 z0
        have z1 := cell_below b4 (p := ⟨g, 1, none⟩) lg3 z1
        have ab := Lib.hid (AB.out w4 b14)
        refine hK.out _ _ ?_ (fun hHeld => ?_)
        · (try dsimp only); exact ⟨z0, z1⟩
        clear hK K
        (try simp only [List.getElem_toArray, List.getElem_cons_zero, List.getElem_cons_succ]); (try simp only [Act.put]); (try simp only [List.setIfInBounds_toArray]); (try simp only [List.set_cons_succ]); (try simp only [List.set_cons_zero])
        refine till_one (i := 15) (o := _) (by kernel_rfl) rfl (by kernel_rfl) (fun K hK => ?_)
        go_simp
        refine (ab.out).mono ?_
        rintro e w5 ⟨rfl, b5'⟩
        have b15 := b14.trans (b5'.mono b14.size)
        have z0 := cell_below b5' (p := ⟨g, 0, none⟩) (Nat.lt_of_lt_of_le lg1 b14.size) z0
        have z1 := cell_below b5' (p := ⟨g, 1, none⟩) (Nat.lt_of_lt_of_le lg1 b14.size) z1
        have c0 := Lib.hid (C0.out w5 b15)
        refine hK.out _ _ ?_ (fun hHeld => ?_)
        · (try dsimp only); exact ⟨z0, z1⟩
        clear hK K
        (try simp only [List.getElem_toArray, List.getElem_cons_zero, List.getElem_cons_succ]); (try simp only [Act.put]); (try simp only [List.setIfInBounds_toArray]); (try simp only [List.set_cons_succ]); (try simp only [List.set_cons_zero])
        refine till_last (o := _) (by kernel_rfl) rfl (fun K hK => ?_)
        go_simp
        refine (c0.out).mono ?_
        rintro e w6 ⟨x6, d6, full6, rfl, hm6, b6, R6, fr6⟩
        refine hK.out _ _ ?_
        clear hK K
        (try simp only [List.getElem_toArray, List.getElem_cons_zero, List.getElem_cons_succ]); (try simp only [Act.put]); (try simp only [List.setIfInBounds_toArray]); (try simp only [List.set_cons_succ]); (try simp only [List.set_cons_zero])
        refine wpAnyH_take (i := 17) (v := ?bv17) rfl (by kernel_rfl) (by kernel_rfl) (by kernel_rfl) (fun _ _ _ h => h) (Or.inl ⟨by kernel_rfl, ?bh17⟩) trivial ?br17
        case bh17 => ((intro w hSw; go_simp) <;> with_reducible rfl)
        (try simp only [List.getElem_toArray, List.getElem_cons_zero, List.getElem_cons_succ]); (try simp only [Act.put]); (try simp only [List.setIfInBounds_toArray]); (try simp only [List.set_cons_succ]); (try simp only [List.set_cons_zero])
        refine wpAnyH_done (by kernel_rfl) ?_ _
        have b6' : Below base W1 w6 := (b15.mono (Nat.le_trans hb bw1.size)).trans b6
        have F6 := Lib.hid ((Frame.of_below b15 lg1).trans fr6)
        have KK6 := frame_blk F6.out kb1 nk1
        have nk6 := (F6.out.keep _ kb1.lt nk1).2
        have HR6 := Lib.hid R6
        have hsz6 := Nat.le_trans (Nat.le_trans hb bw1.size) b6'.size
        obtain ⟨A6, cc6, bp6, br6, kg6, rd6, few6, lg6, hbg6⟩ := mkD_row hm6
        have z0 := kg6.cell 0
        have z1 := kg6.cell 1
        simp only [List.getElem?_cons_zero, List.getElem?_cons_succ] at z0 z1
        have G1 := Lib.hid (g1.ext R6.ext)
        have R1 : d6.vars - rk d6 op a1 b1 < k := by rw [rk_ext g1 R6.ext, R6.ext.vars]; have := EV.out; omega
        have hV6 : v < d6.vars := by rw [R6.ext.vars]; exact v1
        have EA : Hid (atP d6 a v 1 = a1) := Lib.hid (by rw [EA1.out]; exact atP_ext R6.ext pa v1)
        have EB : Hid (atP d6 b v 1 = b1) := Lib.hid (by rw [EB1.out]; exact atP_ext R6.ext pb v1)
        have pa6 := (isP_iff.1 (R6.ext.isP pa)).2
        have pb6 := (isP_iff.1 (R6.ext.isP pb)).2
        have aa := Lib.hid (along_any d6 A6 d6.forks.length cc6 a v 1 w6.drew (Mem.rd_drew rd6) (by omega) pa6 hV6)
        have AB1 := Lib.hid (fun W (B : Below w6.heap.size w6 W) => along_any d6 A6 d6.forks.length cc6 b v 1 W (Mem.rd_on rd6 B) (by omega) pb6 hV6)
        have C1 := Lib.hid (fun W (B : Below w6.heap.size w6 W) => IH.out d6 op a1 b1 full6 (m + 3 ^ k) base g W (mkD_below hm6 B) (Nat.le_trans hsz6 B.size) G1.out ho3 R1 (by omega))
        rw [EA.out] at aa
        rw [EB.out] at AB1
        have HM6 := Lib.hid hm6
        clear R6 hM1 fr6 kb1 nk1 AA AB C0 g1 hm6
        go_wp2
        refine region_till 16 (fun w' => w'.cell? ⟨g, 0, none⟩ = some (.int .i64 d6.vars) ∧ w'.cell? ⟨g, 1, none⟩ = some (.slice A6 d6.forks.length cc6)) (by kernel_rfl) ?_ (fun hHeld => ?_)
        · (try dsimp only); exact ⟨z0, z1⟩
        refine till_take (i := 0) (v := ?cv0) [16] rfl (by kernel_rfl) (by kernel_rfl) (by kernel_rfl) (by kernel_rfl) (by kernel_rfl) (fun _ _ _ h => h) (Or.inl ⟨by kernel_rfl, ?ch0⟩) (by assumption) ?cr0
        case ch0 => ((intro w hSw; (try dsimp only at hSw); go_simp) <;> with_reducible rfl)
        (try simp only [List.getElem_toArray, List.getElem_cons_zero]); (try simp only [Act.put]); (try simp only [List.setIfInBounds_toArray]); (try simp only [List.set_cons_succ]); (try simp only [List.set_cons_zero])
        refine till_take (i := 1) (v := ?cv1) [16] rfl (by kernel_rfl) (by kernel_rfl) (by kernel_rfl) (by kernel_rfl) (by kernel_rfl) (fun _ _ _ h => h) (Or.inl ⟨by kernel_rfl, ?ch1⟩) (by assumption) ?cr1
        case ch1 => ((intro w hSw; (try dsimp only at hSw); go_simp) <;> with_reducible rfl)
        (try simp only [List.getElem_toArray, List.getElem_cons_zero, List.getElem_cons_succ]); (try simp only [Act.put]); (try simp only [List.setIfInBounds_toArray]); (try simp only [List.set_cons_succ]); (try simp only [List.set_cons_zero])
        refine till_take (i := 2) (v := ?cv2) [3, 4, 5, 8, 16] rfl (by kernel_rfl) (by kernel_rfl) (by kernel_rfl) (by kernel_rfl) (by kernel_rfl) (fun _ _ _ h => h) (Or.inl ⟨by kernel_rfl, ?ch2⟩) (by assumption) ?cr2
        case ch2 => ((intro w hSw; (try dsimp only at hSw); go_simp) <;> with_reducible rfl)
        (try simp only [List.getElem_toArray, List.getElem_cons_zero, List.getElem_cons_succ]); (try simp only [Act.put]); (try simp only [List.setIfInBounds_toArray]); (try simp only [List.set_cons_succ]); (try simp only [List.set_cons_zero])
        refine till_take (i := 3) (v := ?cv3) [4, 5, 8, 16] rfl (by kernel_rfl) (by kernel_rfl) (by kernel_rfl) (by kernel_rfl) (by kernel_rfl) (fun _ _ _ h => h) (Or.inl ⟨by kernel_rfl, ?ch3⟩) (by assumption) ?cr3
        case ch3 => ((intro w hSw; (try dsimp only at hSw); go_simp) <;> with_reducible rfl)
        (try simp only [List.getElem_toArray, List.getElem_cons_zero, List.getElem_cons_succ]); (try simp only [Act.put]); (try simp only [List.setIfInBounds_toArray]); (try simp only [List.set_cons_succ]); (try simp only [List.set_cons_zero])
        refine till_take (i := 4) (v := ?cv4) [5, 8, 16] rfl (by kernel_rfl) (by kernel_rfl) (by kernel_rfl) (by kernel_rfl) (by kernel_rfl) (fun _ _ _ h => h) (Or.inl ⟨by kernel_rfl, ?ch4⟩) (by assumption) ?cr4
        case ch4 => ((intro w hSw; (try dsimp only at hSw); go_simp) <;> with_reducible rfl)
        (try simp only [List.getElem_toArray, List.getElem_cons_zero, List.getElem_cons_succ]); (try simp only [Act.put]); (try simp only [List.setIfInBounds_toArray]); (try simp only [List.set_cons_succ]); (try simp only [List.set_cons_zero])
        refine till_take (i := 5) (v := ?cv5) [8, 16] rfl (by kernel_rfl) (by kernel_rfl) (by kernel_rfl) (by kernel_rfl) (by kernel_rfl) (fun _ _ _ h => h) (Or.inl ⟨by kernel_rfl, ?ch5⟩) (by assumption) ?cr5
        case ch5 => ((intro w hSw; (try dsimp only at hSw); go_simp) <;> with_reducible rfl)
        (try simp only [List.getElem_toArray, List.getElem_cons_zero, List.getElem_cons_succ]); (try simp only [Act.put]); (try simp only [List.setIfInBounds_toArray]); (try simp only [List.set_cons_succ]); (try simp only [List.set_cons_zero])
        refine till_take (i := 6) (v := ?cv6) [8, 16] rfl (by kernel_rfl) (by kernel_rfl) (by kernel_rfl) (by kernel_rfl) (by kernel_rfl) (fun _ _ _ h => h) (Or.inl ⟨by kernel_rfl, ?ch6⟩) (by assumption) ?cr6
        case ch6 => ((intro w hSw; (try dsimp only at hSw); go_simp) <;> with_reducible rfl)
        (try simp only [List.getElem_toArray, List.getElem_cons_zero, List.getElem_cons_succ]); (try simp only [Act.put]); (try simp only [List.setIfInBounds_toArray]); (try simp only [List.set_cons_succ]); (try simp only [List.set_cons_zero])
        refine till_take (i := 7) (v := ?cv7) [8, 16] rfl (by kernel_rfl) (by kernel_rfl) (by kernel_rfl) (by kernel_rfl) (by kernel_rfl) (fun _ _ _ h => h) (Or.inl ⟨by kernel_rfl, ?ch7⟩) (by assumption) ?cr7
        case ch7 => ((intro w hSw; (try dsimp only at hSw); go_simp) <;> with_reducible rfl)
        (try simp only [List.getElem_toArray, List.getElem_cons_zero, List.getElem_cons_succ]); (try simp only [Act.put]); (try simp only [List.setIfInBounds_toArray]); (try simp only [List.set_cons_succ]); (try simp only [List.set_cons_zero])
        refine till_take (i := 9) (v := ?cv9) [10, 11, 12, 15, 16] rfl (by kernel_rfl) (by kernel_rfl) (by kernel_rfl) (by kernel_rfl) (by kernel_rfl) (fun _ _ _ h => h) (Or.inl ⟨by kernel_rfl, ?ch9⟩) (by assumption) ?cr9
        case ch9 => ((intro w hSw; (try dsimp only at hSw); go_simp) <;> with_reducible rfl)
        (try simp only [List.getElem_toArray, List.getElem_cons_zero, List.getElem_cons_succ]); (try simp only [Act.put]); (try simp only [List.setIfInBounds_toArray]); (try simp only [List.set_cons_succ]); (try simp only [List.set_cons_zero])
        refine till_take (i := 10) (v := ?cv10) [11, 12, 15, 16] rfl (by kernel_rfl) (by kernel_rfl) (by kernel_rfl) (by kernel_rfl) (by kernel_rfl) (fun _ _ _ h => h) (Or.inl ⟨by kernel_rfl, ?ch10⟩) (by assumption) ?cr10
        case ch10 => ((intro w hSw; (try dsimp only at hSw); go_simp) <;> with_reducible rfl)
        (try simp only [List.getElem_toArray, List.getElem_cons_zero, List.getElem_cons_succ]); (try simp only [Act.put]); (try simp only [List.setIfInBounds_toArray]); (try simp only [List.set_cons_succ]); (try simp only [List.set_cons_zero])
        refine till_take (i := 11) (v := ?cv11) [12, 15, 16] rfl (by kernel_rfl) (by kernel_rfl) (by kernel_rfl) (by kernel_rfl) (by kernel_rfl) (fun _ _ _ h => h) (Or.inl ⟨by kernel_rfl, ?ch11⟩) (by assumption) ?cr11
        case ch11 => ((intro w hSw; (try dsimp only at hSw); go_simp) <;> with_reducible rfl)
        (try simp only [List.getElem_toArray, List.getElem_cons_zero, List.getElem_cons_succ]); (try simp only [Act.put]); (try simp only [List.setIfInBounds_toArray]); (try simp only [List.set_cons_succ]); (try simp only [List.set_cons_zero])
        refine till_take (i := 12) (v := ?cv12) [15, 16] rfl (by kernel_rfl) (by kernel_rfl) (by kernel_rfl) (by kernel_rfl) (by kernel_rfl) (fun _ _ _ h => h) (Or.inl ⟨by kernel_rfl, ?ch12⟩) (by assumption) ?cr12
        case ch12 => ((intro w hSw; (try dsimp only at hSw); go_simp) <;> with_reducible rfl)
        (try simp only [List.getElem_toArray, List.getElem_cons_zero, List.getElem_cons_succ]); (try simp only [Act.put]); (try simp only [List.setIfInBounds_toArray]); (try simp only [List.set_cons_succ]); (try simp only [List.set_cons_zero])
        refine till_take (i := 13) (v := ?cv13) [15, 16] rfl (by kernel_rfl) (by kernel_rfl) (by kernel_rfl) (by kernel_rfl) (by kernel_rfl) (fun _ _ _ h => h) (Or.inl ⟨by kernel_rfl, ?ch13⟩) (by assumption) ?cr13
        case ch13 => ((intro w hSw; (try dsimp only at hSw); go_simp) <;> with_reducible rfl)
        (try simp only [List.getElem_toArray, List.getElem_cons_zero, List.getElem_cons_succ]); (try simp only [Act.put]); (try simp only [List.setIfInBounds_toArray]); (try simp only [List.set_cons_succ]); (try simp only [List.set_cons_zero])
        refine till_take (i := 14) (v := ?cv14) [15, 16] rfl (by kernel_rfl) (by kernel_rfl) (by kernel_rfl) (by kernel_rfl) (by kernel_rfl) (fun _ _ _ h => h) (Or.inl ⟨by kernel_rfl, ?ch14⟩) (by assumption) ?cr14
        case ch14 => ((intro w hSw; (try dsimp only at hSw); go_simp) <;> with_reducible rfl)
        (try simp only [List.getElem_toArray, List.getElem_cons_zero, List.getElem_cons_succ]); (try simp only [Act.put]); (try simp only [List.setIfInBounds_toArray]); (try simp only [List.set_cons_succ]); (try simp only [List.set_cons_zero])
        refine till_one (i := 8) (o := _) (by kernel_rfl) rfl (by kernel_rfl) (fun K hK => ?_)
        go_simp
        refine (aa.out).mono ?_
        rintro e w7 ⟨rfl, b7'⟩
        have b7 : Below w6.heap.size w6 w7 := ⟨b7'.os, b7'.tape, b7'.output, b7'.size, b7'.block⟩
        have z0 := cell_below b7 (p := ⟨g, 0, none⟩) lg6 z0
        have z1 := cell_below b7 (p := ⟨g, 1, none⟩) lg6 z1
        have ab := Lib.hid (AB1.out w7 b7)
        refine hK.out _ _ ?_ (fun hHeld => ?_)
        · (try dsimp only); exact ⟨z0, z1⟩
        clear hK K
        (try simp only [List.getElem_toArray, List.getElem_cons_zero, List.getElem_cons_succ]); (try simp only [Act.put]); (try simp only [List.setIfInBounds_toArray]); (try simp only [List.set_cons_succ]); (try simp only [List.set_cons_zero])
        refine till_one (i := 15) (o := _) (by kernel_rfl) rfl (by kernel_rfl) (fun K hK => ?_)
        go_simp
        refine (ab.out).mono ?_
        rintro e w8 ⟨rfl, b8'⟩
        have b68 := b7.trans (b8'.mono b7.size)
        have z0 := cell_below b8' (p := ⟨g, 0, none⟩) (Nat.lt_of_lt_of_le lg6 b7.size) z0
        have z1 := cell_below b8' (p := ⟨g, 1, none⟩) (Nat.lt_of_lt_of_le lg6 b7.size) z1
        have c1 := Lib.hid (C1.out w8 b68)
        refine hK.out _ _ ?_ (fun hHeld => ?_)
        · (try dsimp only); exact ⟨z0, z1⟩
        clear hK K
        (try simp only [List.getElem_toArray, List.getElem_cons_zero, List.getElem_cons_succ]); (try simp only [Act.put]); (try simp only [List.setIfInBounds_toArray]); (try simp only [List.set_cons_succ]); (try simp only [List.set_cons_zero])
        refine till_last (o := _) (by kernel_rfl) rfl (fun K hK => ?_)
        go_simp
        refine (c1.out).mono ?_
        rintro e w9 ⟨x9, d9, full9, rfl, hm9, b9, R9, fr9⟩
        refine hK.out _ _ ?_
        clear hK K
        (try simp only [List.getElem_toArray, List.getElem_cons_zero, List.getElem_cons_succ]); (try simp only [Act.put]); (try simp only [List.setIfInBounds_toArray]); (try simp only [List.set_cons_succ]); (try simp only [List.set_cons_zero])
        refine wpAnyH_take (i := 17) (v := ?cv17) rfl (by kernel_rfl) (by kernel_rfl) (by kernel_rfl) (fun _ _ _ h => h) (Or.inl ⟨by kernel_rfl, ?ch17⟩) trivial ?cr17
        case ch17 => ((intro w hSw; go_simp) <;> with_reducible rfl)
        (try simp only [List.getElem_toArray, List.getElem_cons_zero, List.getElem_cons_succ]); (try simp only [Act.put]); (try simp only [List.setIfInBounds_toArray]); (try simp only [List.set_cons_succ]); (try simp only [List.set_cons_zero])
        refine wpAnyH_done (by kernel_rfl) ?_ _
        have b9' := (b68.mono hsz6).trans b9
        have B9 := Lib.hid (b6'.trans b9')
        have F9 := Lib.hid ((Frame.of_below b68 lg6).trans fr9)
        have KK9 := frame_blk F9.out KK6 nk6
        have nk9 := (F9.out.keep _ KK6.lt nk6).2
        have E69 := R9.ext
        have hx6 := E69.isP HR6.out.isP
        have SM : sml v ∧ sml x6 ∧ sml x9 := ⟨⟨v0, by have := ok.hi; omega⟩, place_sml hx6 hm9.ok, place_sml R9.isP hm9.ok⟩
        have AD := Lib.hid (addD_any d9 ⟨v, x6, x9⟩ full9 (m + 3 ^ k + 3 ^ k) base g w9 hm9 (Nat.le_trans hsz6 (Nat.le_trans b68.size b9.size)) (fun hf => ran_fit ok gA HE.out HR6.out R9 hf) hx6 SM.1 SM.2.1 SM.2.2)
        have HR9 := Lib.hid R9
        clear R9 hm9 fr9 E69 hx6
        go_wp2_with fail
        refine (AD.out).mono ?_
        rintro e w10 ⟨x10, d10, full10, rfl, hm10, b10, P10, fr10⟩
        have F10 := Lib.hid (((fw1.out.trans F6.out).trans F9.out).trans fr10)
        have KK10 := frame_blk fr10 KK9 nk9
        have RR := Lib.hid (ran_two ok gA HE.out HR6.out HR9.out P10)
        have B10 := Lib.hid ((bw1.mono hb).trans (B9.out.trans b10))
        have SX := Lib.hid (place_sml P10.isP hm10.ok)
        have MM := Lib.hid (ran_memo ok gA RR.out)
        have OK10 := Lib.hid hm10.ok
        have FU10 := Lib.hid hm10.full_
        obtain ⟨A2, cc2, bp2, cp2, Dp2, br2, cr2, Dr2, kg2, ho2, hp2, c12, f12, hr2, c22, f22, hd2, hrow2⟩ := hm10.mem
        have lg10 := kg2.lt
        have z3 := kg2.cell 3
        have u0 := KK10.cell 0
        have u1 := KK10.cell 1
        have u2 := KK10.cell 2
        simp only [List.getElem?_cons_zero, List.getElem?_cons_succ] at z3 u0 u1 u2
        have UP := Lib.hid (fun (W : World) (e : W.heap = w10.heap) => (mp_of_heap hr2 e).update op_law Try.underlying125 (by unfold maxLen; omega) HKL.out (plainElem_int Try.underlying3 (a := x10) (int_wf SX.out.1 SX.out.2)))
        have KG2 := Lib.hid kg2
        have HO2 := Lib.hid ho2
        have HP2 := Lib.hid hp2
        have F12 := Lib.hid f12
        have F22 := Lib.hid f22
        have HRW := Lib.hid hrow2
        have HPX := Lib.hid P10
        clear P10 kg2 ho2 hp2 f12 hr2 f22 hrow2 hm10 fr10
        obtain ⟨w11, hrun, hm11, hg11⟩ := UP.out w10.drew rfl
        go_wp2
        go_region_law (fail)
        all_goals
          go_wp2
          go_ret
          have nb : ∀ b, b ≠ br2 → some br2 ≠ some b := fun b h e => by injection e with e; exact h e.symm
          have kg11 := blk_on hg11 KG2.out rfl (nb g hd2.2.2.2.2.1)
          refine ⟨x10, d10, full10, rfl, ⟨OK10.out, FU10.out, A2, cc2, bp2, cp2, Dp2, br2, cr2 + 1, _, kg11, rw_on hg11 HO2.out rfl (fun e => (HRW.out br2 (mem_bl.2 e)).2.2 rfl), mp_on hg11 HP2.out rfl (nb bp2 hd2.2.2.2.2.2), c12, F12.out, hm11, by omega, fitR_new F22.out HKL.out MM.out, hd2, HRW.out⟩, ?_, RR.out, F10.out.trans (frame_of KG2.out kg11 hg11.size (fun b hb1 _ _ hb4 _ => hg11.block b hb1 (fun q => nb b hb4 (by first | exact q | exact q.symm))) (fun b _ e => e))⟩
          have q10 : Below base w w10.drew := ⟨B10.out.os, B10.out.tape, B10.out.output, B10.out.size, B10.out.block⟩
          exact q10.grown hg11 (Nat.le_trans hb B10.out.size) (fun b e => by injection e with e; have := hd2.2.2.1; omega)
      · obtain ⟨n, hn, mm⟩ := f2.val op a b kl hkl hh
        rw [hy] at hn
        injection hn with hn
        injection hn with _ hn
        subst hn
        rw [hh] at LK
        have HR := Lib.hid (ran_known ok gA mm)
        have HM := Lib.hid (fun j => mkD_of_heap (w' := (w.alloc (.cells #[.int .i64 op, .int .i64 a, .int .i64 b] 130)).drewN j) (mkD_below (mkD_more hM (Nat.le_add_right m (3 ^ k * 3))) BK) rfl)
        clear hM gA e ok hm hk hr1 HL hy mm kg ho hp c1 f1 hr c2 f2 hd hrow hkl hh BK
        go_enter Try.func120, Try.ntmps120
        go_wp2_with fail
        refine (DT.out _).mono ?_
        rintro e w1 ⟨rfl, rfl⟩
        go_wp2
        go_quiet (fail)
        go_wp2
        go_ret
        exact ⟨y, d, full, rfl, HM.out _, ⟨HBK.out.os, HBK.out.tape, HBK.out.output, HBK.out.size, fun x hx => HBK.out.block x (by omega)⟩, HR.out, frame_of_heap (Frame.of_below HBK.out lg) rfl⟩
end Go.Proofs.Ytnpdeliaefjmlaa
