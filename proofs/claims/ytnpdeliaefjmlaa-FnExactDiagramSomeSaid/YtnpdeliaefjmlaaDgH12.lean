/- Diagrams: one step of an operation of the model: number 1, case 2. -/
import Derived.Test.YtnpdeliaefjmlaaDgH
namespace Go.Proofs.Ytnpdeliaefjmlaa
open Go.RowKit
set_option maxRecDepth 100000

set_option maxRecDepth 100000 in
set_option maxHeartbeats 8000000 in
theorem l8Do_step12 (k : Nat) (IH : ∀ (d : Dg) (A : Option Addr) (c : Nat) (a b : Int) (base : Nat) (w : World), w.ownsRow base 100 3 (.slice A d.forks.length c) d.forks.length (fl d.forks) → base ≤ w.heap.size → d.Ok → fitA d 2 a b → d.vars - rk d 2 a b < k →
      Calls Try.prog 113 #[.agg #[.int .i64 d.vars, .slice A d.forks.length c], .int .i64 1, .int .i64 a, .int .i64 b] w (GivesDE base (bl (.slice A d.forks.length c)) (.slice A d.forks.length c) d.forks.length w (runF 2 k d a b)))
    (d : Dg) (A : Option Addr) (c : Nat) (a b : Int) (base : Nat) (w : World) (ho : w.ownsRow base 100 3 (.slice A d.forks.length c) d.forks.length (fl d.forks)) (hb : base ≤ w.heap.size) (ok : d.Ok) (g : fitA d 2 a b) (hk : d.vars - rk d 2 a b < k + 1)
    (v a0 b0 a1 b1 : Int) (e : stp d 2 a b = .two v a0 b0 a1 b1) (ha : 2 ≤ a) (hlt : ¬ varP d b < varP d a) :
    Calls Try.prog 113 #[.agg #[.int .i64 d.vars, .slice A d.forks.length c], .int .i64 1, .int .i64 a, .int .i64 b] w (GivesDE base (bl (.slice A d.forks.length c)) (.slice A d.forks.length c) d.forks.length w (runF 2 (k + 1) d a b)) := by
  have few := ok.few
  have HR2 := Lib.hid (runF_two (k := k) e)
  obtain ⟨c3, n1, n2, em, ea0, eb0, ea1, eb1⟩ := two_facts (by decide) e
  obtain ⟨ev, v0, v1, g0, g1, r0, r1⟩ := stp_two ok g e
  have pa := isP_iff.1 g.pa
  have pb := isP_iff.1 (g.pb (by decide))
  have HRD := Lib.hid (rd_forks ho rfl (by omega))
  have HO := Lib.hid ho
  have NB := Lib.hid (fun x (hx : w.heap.size ≤ x) (q : x ∈ bl (.slice A d.forks.length c)) => show False from by have := (ho.lt x (mem_bl.1 q)).2; omega)
  have BX := Lib.hid (two_boxes w #[.int .i64 d.vars, .slice A d.forks.length c] #[.int .i64 0, .slice none 0 0] 46 46)
  have VA := Lib.hid (fun W (B : Below w.heap.size w W) => l8Var_any d A d.forks.length c a W (Mem.rd_on HRD.out B) (by omega) pa.2)
  have VB := Lib.hid (fun W (B : Below w.heap.size w W) => l8Var_any d A d.forks.length c b W (Mem.rd_on HRD.out B) (by omega) pb.2)
  have AT := Lib.hid (fun x y W (B : Mem.rd W W.heap.size [.slice A d.forks.length c] d.forks) (hx : x < 2 + (d.forks.length : Int)) => l8At_any d A d.forks.length c x v y W B (by omega) hx v1)
  have R0 : d.vars - rk d 2 a0 b0 < k := by omega
  subst ea0; subst eb0; subst ea1; subst eb1
  have C0 := Lib.hid (fun W (B : Below w.heap.size w W) => IH d A c (atP d a v 0) (atP d b v 0) base W (own_below HO.out B) (Nat.le_trans hb B.size) ok g0 R0)
  have t1 : (a == 1) = false := by simp; intro q; exact n2 ⟨rfl, .inl q⟩
  have t2 : (b == 1) = false := by simp; intro q; exact n2 ⟨rfl, .inr q⟩
  have ha2 : ¬ a < 2 := by omega
  have EV : Hid (varP d a = v) := Lib.hid (by rw [em]; unfold minV; rw [if_neg hlt])
  have HE := Lib.hid e
  have HV := Lib.hid ev
  have OK := Lib.hid ok
  have HG := Lib.hid g
  have HK := Lib.hid hk
  have G1 := Lib.hid g1
  have RR1 := Lib.hid r1
  have G0 := Lib.hid g0
  have RR0 := Lib.hid R0
  clear e ev em n1 n2 c3 ok g g0 g1 r0 r1 hk ho R0
  rw [EV.out] at VA hlt
  generalize hq : varP d b = Vq at *
  clear hq
  go_enter Try.func113, Try.ntmps113
  go_wp2_with fail
  refine (VA.out _ ((below_alloc w _).alloc (by simp) _)).mono ?_
  rintro e w3 ⟨rfl, b3⟩
  obtain ⟨B3, k0, k1⟩ := BX.out _ b3
  have x0 := k0.cell 0
  have x1 := k0.cell 1
  simp only [List.getElem?_cons_zero, List.getElem?_cons_succ] at x0 x1
  go_wp2_with fail
  refine (VB.out _ B3).mono ?_
  rintro e w4 ⟨rfl, c4⟩
  have b4 := b3.trans (c4.mono b3.size)
  obtain ⟨B4, k0, k1⟩ := BX.out _ b4
  have x0 := k0.cell 0
  have x1 := k0.cell 1
  simp only [List.getElem?_cons_zero, List.getElem?_cons_succ] at x0 x1
  obtain ⟨w5, hw5⟩ : ∃ w5, w5 = w4 := ⟨_, rfl⟩
  rw [← hw5]
  have b5 := b4
  have B5 := B4
  rw [← hw5] at b5 B5 k0 k1 x0 x1
  clear hw5
  have l0 := k0.lt
  have K0 := Lib.hid k0
  have K1 := Lib.hid k1
  have ATA := Lib.hid (fun W (B : Below w5.heap.size w5 W) => AT.out a 0 W (Mem.rd_on HRD.out (B5.trans (B.mono B5.size))) pa.2)
  have ATB := Lib.hid (fun W (B : Below w5.heap.size w5 W) => AT.out b 0 W (Mem.rd_on HRD.out (B5.trans (B.mono B5.size))) pb.2)
  have CC0 := Lib.hid (fun W (B : Below w5.heap.size w5 W) => C0.out W (B5.trans (B.mono B5.size)))
  have BW0 : Below w5.heap.size w5 w5.drew := (Below.refl _ _).drew
  have z0 := x0
  have z1 := x1
  have HB5 := Lib.hid B5
  go_upto_region 10 with fail
  go_cut [11, 12] from 72 to 84 (fun a11 a12 wx => ∃ (h : Nat) (m1 : Int) (A1 : Option Addr) (n1 c1 : Nat) (x : Int), a11 = .pointer (some ⟨h, 0, none⟩) ∧ a12 = .int .i64 x ∧ Hid (HalfD base (.slice A d.forks.length c) d.forks.length d.vars w (runF 2 k d (atP d a v 0) (atP d b v 0)) wx h m1 A1 n1 c1 x))
  case first =>
    refine wp_region_held_drew (S := (fun w' => w'.cell? ⟨w.heap.size, 0, none⟩ = some (.int .i64 d.vars) ∧ w'.cell? ⟨w.heap.size, 1, none⟩ = some (.slice A d.forks.length c))) (by kernel_rfl) ?_ (fun hHeld => ?_)
    · (try dsimp only); exact ⟨x0, x1⟩
    refine wpAnyH_take (i := 0) (v := ?p1v) rfl (by kernel_rfl) (by kernel_rfl) (by kernel_rfl) (fun _ _ _ h => h) (Or.inl ⟨by kernel_rfl, ?p1h⟩) (by assumption) ?p1r
    case p1h => ((intro w hSw; (try dsimp only at hSw); go_simp) <;> with_reducible rfl)
    (try simp only [List.getElem_toArray, List.getElem_cons_zero]); (try simp only [Act.put]); (try simp only [List.setIfInBounds_toArray]); (try simp only [List.set_cons_succ]); (try simp only [List.set_cons_zero])
    refine wpAnyH_take (i := 1) (v := ?p2v) rfl (by kernel_rfl) (by kernel_rfl) (by kernel_rfl) (fun _ _ _ h => h) (Or.inl ⟨by kernel_rfl, ?p2h⟩) (by assumption) ?p2r
    case p2h => ((intro w hSw; (try dsimp only at hSw); go_simp) <;> with_reducible rfl)
    (try simp only [List.getElem_toArray, List.getElem_cons_zero, List.getElem_cons_succ]); (try simp only [Act.put]); (try simp only [List.setIfInBounds_toArray]); (try simp only [List.set_cons_succ]); (try simp only [List.set_cons_zero])
    refine wpAnyH_take (i := 2) (v := ?p3v) rfl (by kernel_rfl) (by kernel_rfl) (by kernel_rfl) (fun _ _ _ h => h) (Or.inl ⟨by kernel_rfl, ?p3h⟩) (by assumption) ?p3r
    case p3h => ((intro w hSw; (try dsimp only at hSw); go_simp) <;> with_reducible rfl)
    (try simp only [List.getElem_toArray, List.getElem_cons_zero, List.getElem_cons_succ]); (try simp only [Act.put]); (try simp only [List.setIfInBounds_toArray]); (try simp only [List.set_cons_succ]); (try simp only [List.set_cons_zero])
    refine wpAnyH_take (i := 3) (v := ?p4v) rfl (by kernel_rfl) (by kernel_rfl) (by kernel_rfl) (fun _ _ _ h => h) (Or.inl ⟨by kernel_rfl, ?p4h⟩) (by assumption) ?p4r
    case p4h => ((intro w hSw; (try dsimp only at hSw); go_simp) <;> with_reducible rfl)
    (try simp only [List.getElem_toArray, List.getElem_cons_zero, List.getElem_cons_succ]); (try simp only [Act.put]); (try simp only [List.setIfInBounds_toArray]); (try simp only [List.set_cons_succ]); (try simp only [List.set_cons_zero])
    refine wpAnyH_take (i := 4) (v := ?p5v) rfl (by kernel_rfl) (by kernel_rfl) (by kernel_rfl) (fun _ _ _ h => h) (Or.inl ⟨by kernel_rfl, ?p5h⟩) (by assumption) ?p5r
    case p5h => ((intro w hSw; (try dsimp only at hSw); go_simp) <;> with_reducible rfl)
    (try simp only [List.getElem_toArray, List.getElem_cons_zero, List.getElem_cons_succ]); (try simp only [Act.put]); (try simp only [List.setIfInBounds_toArray]); (try simp only [List.set_cons_succ]); (try simp only [List.set_cons_zero])
    refine wpAnyH_take (i := 6) (v := ?p6v) rfl (by kernel_rfl) (by kernel_rfl) (by kernel_rfl) (fun _ _ _ h => h) (Or.inl ⟨by kernel_rfl, ?p6h⟩) (by assumption) ?p6r
    case p6h => ((intro w hSw; (try dsimp only at hSw); go_simp) <;> with_reducible rfl)
    (try simp only [List.getElem_toArray, List.getElem_cons_zero, List.getElem_cons_succ]); (try simp only [Act.put]); (try simp only [List.setIfInBounds_toArray]); (try simp only [List.set_cons_succ]); (try simp only [List.set_cons_zero])
    refine wpAnyH_take (i := 7) (v := ?p7v) rfl (by kernel_rfl) (by kernel_rfl) (by kernel_rfl) (fun _ _ _ h => h) (Or.inl ⟨by kernel_rfl, ?p7h⟩) (by assumption) ?p7r
    case p7h => ((intro w hSw; (try dsimp only at hSw); go_simp) <;> with_reducible rfl)
    (try simp only [List.getElem_toArray, List.getElem_cons_zero, List.getElem_cons_succ]); (try simp only [Act.put]); (try simp only [List.setIfInBounds_toArray]); (try simp only [List.set_cons_succ]); (try simp only [List.set_cons_zero])
    refine wpAnyH_take (i := 8) (v := ?p8v) rfl (by kernel_rfl) (by kernel_rfl) (by kernel_rfl) (fun _ _ _ h => h) (Or.inl ⟨by kernel_rfl, ?p8h⟩) (by assumption) ?p8r
    case p8h => ((intro w hSw; (try dsimp only at hSw); go_simp) <;> with_reducible rfl)
    (try simp only [List.getElem_toArray, List.getElem_cons_zero, List.getElem_cons_succ]); (try simp only [Act.put]); (try simp only [List.setIfInBounds_toArray]); (try simp only [List.set_cons_succ]); (try simp only [List.set_cons_zero])
    refine wpAnyH_ready (rs := [5, 14]) (by kernel_rfl) (by simp) ?_
    refine AllReadyH.cons (o := _) rfl (fun K hK => ?_) (AllReadyH.cons (o := _) rfl (fun K hK => ?_) AllReadyH.nil)
    · go_simp
      refine (ATA.out _ BW0).mono ?_
      rintro e wp9 ⟨rfl, cp9⟩
      have Bp9 := BW0.trans (cp9.mono BW0.size)
      have x0 := cell_below Bp9 (p := ⟨w.heap.size, 0, none⟩) l0 z0
      have x1 := cell_below Bp9 (p := ⟨w.heap.size, 1, none⟩) l0 z1
      refine hK.out _ _ ?_ (fun hHeld => ?_)
      · (try dsimp only); exact ⟨x0, x1⟩
      clear hK K
      (try simp only [List.getElem_toArray, List.getElem_cons_zero, List.getElem_cons_succ]); (try simp only [Act.put]); (try simp only [List.setIfInBounds_toArray]); (try simp only [List.set_cons_succ]); (try simp only [List.set_cons_zero])
      refine wpAnyH_ready (rs := [9, 14]) (by kernel_rfl) (by simp) ?_
      refine AllReadyH.cons (o := _) rfl (fun K hK => ?_) (AllReadyH.cons (o := _) rfl (fun K hK => ?_) AllReadyH.nil)
      · go_simp
        refine (ATB.out _ Bp9).mono ?_
        rintro e wp10 ⟨rfl, cp10⟩
        have Bp10 := Bp9.trans (cp10.mono Bp9.size)
        have x0 := cell_below Bp10 (p := ⟨w.heap.size, 0, none⟩) l0 z0
        have x1 := cell_below Bp10 (p := ⟨w.heap.size, 1, none⟩) l0 z1
        refine hK.out _ _ ?_ (fun hHeld => ?_)
        · (try dsimp only); exact ⟨x0, x1⟩
        clear hK K
        (try simp only [List.getElem_toArray, List.getElem_cons_zero, List.getElem_cons_succ]); (try simp only [Act.put]); (try simp only [List.setIfInBounds_toArray]); (try simp only [List.set_cons_succ]); (try simp only [List.set_cons_zero])
        refine wpAnyH_ready (rs := [10, 14]) (by kernel_rfl) (by simp) ?_
        refine AllReadyH.cons (o := _) rfl (fun K hK => ?_) (AllReadyH.cons (o := _) rfl (fun K hK => ?_) AllReadyH.nil)
        · go_simp
          refine (CC0.out _ Bp10).mono ?_
          rintro e w9 hG
          obtain ⟨m1, A1, n1, c1, x, rfl, on9, kd9, on1⟩ := gives_de_one rfl hG
          clear hG
          have kk0 := only_blk on9 (K0.out.below Bp10 l0) (fun q => NB.out _ (Nat.le_refl _) q)
          have kk1 := only_blk on9 (K1.out.below Bp10 K1.out.lt) (fun q => NB.out _ (Nat.le_succ _) q)
          have x0 := kk0.cell 0
          have x1 := kk0.cell 1
          simp only [List.getElem?_cons_zero, List.getElem?_cons_succ] at x0 x1
          have lw9 := kk0.lt
          have Bc := HB5.out.trans (Bp10.mono HB5.out.size)
          have ON9 := (Only.of_below Bc (bl (.slice A d.forks.length c))).trans on9
          have KD9 := (KeptD.of_below Bc (.slice A d.forks.length c) d.forks.length).trans kd9 Bc.size (Nat.le_refl _) (fun x e => .inl e)
          have OW9 : OneD base (.slice A d.forks.length c) (w.heap.size + 2) (runF 2 k d (atP d a v 0) (atP d b v 0)) m1 A1 n1 c1 x w9 := oneD_from on1 (Nat.le_trans K1.out.lt Bp10.size)
          refine hK.out _ _ ?_ (fun hHeld => ?_)
          · (try dsimp only); exact ⟨x0, x1⟩
          clear hK K
          (try simp only [List.getElem_toArray, List.getElem_cons_zero, List.getElem_cons_succ]); (try simp only [Act.put]); (try simp only [List.setIfInBounds_toArray]); (try simp only [List.set_cons_succ]); (try simp only [List.set_cons_zero])
          refine wpAnyH_take (i := 11) (v := ?p11v) rfl (by kernel_rfl) (by kernel_rfl) (by kernel_rfl) (fun _ _ _ h => h) (Or.inl ⟨by kernel_rfl, ?p11h⟩) (by assumption) ?p11r
          case p11h => ((intro w hSw; (try dsimp only at hSw); go_simp) <;> with_reducible rfl)
          (try simp only [List.getElem_toArray, List.getElem_cons_zero, List.getElem_cons_succ]); (try simp only [Act.put]); (try simp only [List.setIfInBounds_toArray]); (try simp only [List.set_cons_succ]); (try simp only [List.set_cons_zero])
          refine wpAnyH_take (i := 12) (v := ?p12v) rfl (by kernel_rfl) (by kernel_rfl) (by kernel_rfl) (fun _ _ _ h => h) (Or.inl ⟨by kernel_rfl, ?p12h⟩) (by assumption) ?p12r
          case p12h => ((intro w hSw; (try dsimp only at hSw); go_simp) <;> with_reducible rfl)
          (try simp only [List.getElem_toArray, List.getElem_cons_zero, List.getElem_cons_succ]); (try simp only [Act.put]); (try simp only [List.setIfInBounds_toArray]); (try simp only [List.set_cons_succ]); (try simp only [List.set_cons_zero])
          refine wpAnyH_take (i := 13) (v := ?p13v) rfl (by kernel_rfl) (by kernel_rfl) (by kernel_rfl) (fun _ _ _ h => h) (Or.inl ⟨by kernel_rfl, ?p13h⟩) (by assumption) ?p13r
          case p13h => ((intro w hSw; (try dsimp only at hSw); go_simp) <;> with_reducible rfl)
          (try simp only [List.getElem_toArray, List.getElem_cons_zero, List.getElem_cons_succ]); (try simp only [Act.put]); (try simp only [List.setIfInBounds_toArray]); (try simp only [List.set_cons_succ]); (try simp only [List.set_cons_zero])
          refine wpAnyH_ready (rs := [14]) (by kernel_rfl) (by simp) ?_
          refine AllReadyH.cons (o := _) rfl (fun K hK => ?_) AllReadyH.nil
          go_simp
          have KAp14 : Blk (w9.alloc (.cells #[.int .i64 0, .slice none 0 0] 46)) w9.heap.size 46 [.int .i64 0, .slice none 0 0] := ci_blk w9 #[.int .i64 0, .slice none 0 0] 46
          have x0 := cell_below (below_alloc w9 (.cells #[.int .i64 0, .slice none 0 0] 46)) (p := ⟨w.heap.size, 0, none⟩) lw9 x0
          have x1 := cell_below (below_alloc w9 (.cells #[.int .i64 0, .slice none 0 0] 46)) (p := ⟨w.heap.size, 1, none⟩) lw9 x1
          refine hK.out _ _ ?_ (fun hHeld => ?_)
          · (try dsimp only); exact ⟨x0, x1⟩
          clear hK K
          (try simp only [List.getElem_toArray, List.getElem_cons_zero, List.getElem_cons_succ]); (try simp only [Act.put]); (try simp only [List.setIfInBounds_toArray]); (try simp only [List.set_cons_succ]); (try simp only [List.set_cons_zero])
          have hc0 := KAp14.cell 0
          have hc1 := KAp14.cell 1
          have hf0 := KAp14.frozen 0
          have hf1 := KAp14.frozen 1
          simp only [List.getElem?_cons_zero, List.getElem?_cons_succ] at hc0 hc1
          refine wpAnyH_ready (rs := [15]) (by kernel_rfl) (by simp) ?_
          refine AllReadyH.cons (o := _) rfl (fun K hK => ?_) AllReadyH.nil
          go_simp
          refine hK.out _ _ ?_ (fun hHeld => ?_)
          · (try dsimp only)
            first
              | exact ⟨(half_new kk1.lt kk0 kk1 ON9 KD9 OW9).box.cell 0, (half_new kk1.lt kk0 kk1 ON9 KD9 OW9).box.cell 1⟩
              | exact ⟨(half_set (W := w9.alloc (.cells #[.int .i64 0, .slice none 0 0] 46)) kk1.lt (kk0.alloc _) (kk1.alloc _) (ON9.trans (Only.of_below (below_alloc w9 _) _)) (KD9.below (below_alloc w9 _) ON9.size) (ci_blk w9 _ _) (oneD_below OW9 (below_alloc w9 _)) (fun x0 => oneD_late OW9 x0)).box.cell 0, (half_set (W := w9.alloc (.cells #[.int .i64 0, .slice none 0 0] 46)) kk1.lt (kk0.alloc _) (kk1.alloc _) (ON9.trans (Only.of_below (below_alloc w9 _) _)) (KD9.below (below_alloc w9 _) ON9.size) (ci_blk w9 _ _) (oneD_below OW9 (below_alloc w9 _)) (fun x0 => oneD_late OW9 x0)).box.cell 1⟩
          clear hK K
          (try simp only [List.getElem_toArray, List.getElem_cons_zero, List.getElem_cons_succ]); (try simp only [Act.put]); (try simp only [List.setIfInBounds_toArray]); (try simp only [List.set_cons_succ]); (try simp only [List.set_cons_zero])
          refine wpAnyH_take (i := 16) (v := ?p15v) rfl (by kernel_rfl) (by kernel_rfl) (by kernel_rfl) (fun _ _ _ h => h) (Or.inl ⟨by kernel_rfl, ?p15h⟩) (by assumption) ?p15r
          case p15h => ((intro w hSw; (try dsimp only at hSw); go_simp) <;> with_reducible rfl)
          (try simp only [List.getElem_toArray, List.getElem_cons_zero, List.getElem_cons_succ]); (try simp only [Act.put]); (try simp only [List.setIfInBounds_toArray]); (try simp only [List.set_cons_succ]); (try simp only [List.set_cons_zero])
          refine wpAnyH_done (by kernel_rfl) ?_ _
          go_wp2_with fail
          go_meet
          first
            | exact ⟨_, m1, A1, n1, c1, x, rfl, rfl, Lib.hid (half_heap (half_new kk1.lt kk0 kk1 ON9 KD9 OW9) rfl rfl rfl rfl)⟩
            | exact ⟨_, m1, A1, n1, c1, x, rfl, rfl, Lib.hid (half_heap (half_set (W := w9.alloc (.cells #[.int .i64 0, .slice none 0 0] 46)) kk1.lt (kk0.alloc _) (kk1.alloc _) (ON9.trans (Only.of_below (below_alloc w9 _) _)) (KD9.below (below_alloc w9 _) ON9.size) (ci_blk w9 _ _) (oneD_below OW9 (below_alloc w9 _)) (fun x0 => oneD_late OW9 x0)) rfl rfl rfl rfl)⟩
        · go_simp
          have BAp16 := Bp10.alloc Bp10.size (.cells #[.int .i64 0, .slice none 0 0] 46)
          have KAp16 : Blk (wp10.alloc (.cells #[.int .i64 0, .slice none 0 0] 46)) wp10.heap.size 46 [.int .i64 0, .slice none 0 0] := ci_blk wp10 #[.int .i64 0, .slice none 0 0] 46
          have x0 := cell_below BAp16 (p := ⟨w.heap.size, 0, none⟩) l0 z0
          have x1 := cell_below BAp16 (p := ⟨w.heap.size, 1, none⟩) l0 z1
          refine hK.out _ _ ?_ (fun hHeld => ?_)
          · (try dsimp only); exact ⟨x0, x1⟩
          clear hK K
          (try simp only [List.getElem_toArray, List.getElem_cons_zero, List.getElem_cons_succ]); (try simp only [Act.put]); (try simp only [List.setIfInBounds_toArray]); (try simp only [List.set_cons_succ]); (try simp only [List.set_cons_zero])
          refine wpAnyH_ready (rs := [10]) (by kernel_rfl) (by simp) ?_
          refine AllReadyH.cons (o := _) rfl (fun K hK => ?_) AllReadyH.nil
          go_simp
          refine (CC0.out _ BAp16).mono ?_
          rintro e w9 hG
          obtain ⟨m1, A1, n1, c1, x, rfl, on9, kd9, on1⟩ := gives_de_one rfl hG
          clear hG
          have kk0 := only_blk on9 (K0.out.below BAp16 l0) (fun q => NB.out _ (Nat.le_refl _) q)
          have kk1 := only_blk on9 (K1.out.below BAp16 K1.out.lt) (fun q => NB.out _ (Nat.le_succ _) q)
          have x0 := kk0.cell 0
          have x1 := kk0.cell 1
          simp only [List.getElem?_cons_zero, List.getElem?_cons_succ] at x0 x1
          have lw9 := kk0.lt
          have Bc := HB5.out.trans (BAp16.mono HB5.out.size)
          have ON9 := (Only.of_below Bc (bl (.slice A d.forks.length c))).trans on9
          have KD9 := (KeptD.of_below Bc (.slice A d.forks.length c) d.forks.length).trans kd9 Bc.size (Nat.le_refl _) (fun x e => .inl e)
          have OW9 : OneD base (.slice A d.forks.length c) (w.heap.size + 2) (runF 2 k d (atP d a v 0) (atP d b v 0)) m1 A1 n1 c1 x w9 := oneD_from on1 (Nat.le_trans K1.out.lt BAp16.size)
          have KH9 := only_blk on9 KAp16 (fun q => NB.out _ (Nat.le_trans HB5.out.size Bp10.size) q)
          have HY9 := oneD_far on1 KAp16.lt (fun q => NB.out _ (Nat.le_trans HB5.out.size Bp10.size) q)
          refine hK.out _ _ ?_ (fun hHeld => ?_)
          · (try dsimp only); exact ⟨x0, x1⟩
          clear hK K
          (try simp only [List.getElem_toArray, List.getElem_cons_zero, List.getElem_cons_succ]); (try simp only [Act.put]); (try simp only [List.setIfInBounds_toArray]); (try simp only [List.set_cons_succ]); (try simp only [List.set_cons_zero])
          refine wpAnyH_take (i := 11) (v := ?p17v) rfl (by kernel_rfl) (by kernel_rfl) (by kernel_rfl) (fun _ _ _ h => h) (Or.inl ⟨by kernel_rfl, ?p17h⟩) (by assumption) ?p17r
          case p17h => ((intro w hSw; (try dsimp only at hSw); go_simp) <;> with_reducible rfl)
          (try simp only [List.getElem_toArray, List.getElem_cons_zero, List.getElem_cons_succ]); (try simp only [Act.put]); (try simp only [List.setIfInBounds_toArray]); (try simp only [List.set_cons_succ]); (try simp only [List.set_cons_zero])
          refine wpAnyH_take (i := 12) (v := ?p18v) rfl (by kernel_rfl) (by kernel_rfl) (by kernel_rfl) (fun _ _ _ h => h) (Or.inl ⟨by kernel_rfl, ?p18h⟩) (by assumption) ?p18r
          case p18h => ((intro w hSw; (try dsimp only at hSw); go_simp) <;> with_reducible rfl)
          (try simp only [List.getElem_toArray, List.getElem_cons_zero, List.getElem_cons_succ]); (try simp only [Act.put]); (try simp only [List.setIfInBounds_toArray]); (try simp only [List.set_cons_succ]); (try simp only [List.set_cons_zero])
          refine wpAnyH_take (i := 13) (v := ?p19v) rfl (by kernel_rfl) (by kernel_rfl) (by kernel_rfl) (fun _ _ _ h => h) (Or.inl ⟨by kernel_rfl, ?p19h⟩) (by assumption) ?p19r
          case p19h => ((intro w hSw; (try dsimp only at hSw); go_simp) <;> with_reducible rfl)
          (try simp only [List.getElem_toArray, List.getElem_cons_zero, List.getElem_cons_succ]); (try simp only [Act.put]); (try simp only [List.setIfInBounds_toArray]); (try simp only [List.set_cons_succ]); (try simp only [List.set_cons_zero])
          have hc0 := KH9.cell 0
          have hc1 := KH9.cell 1
          have hf0 := KH9.frozen 0
          have hf1 := KH9.frozen 1
          simp only [List.getElem?_cons_zero, List.getElem?_cons_succ] at hc0 hc1
          refine wpAnyH_ready (rs := [15]) (by kernel_rfl) (by simp) ?_
          refine AllReadyH.cons (o := _) rfl (fun K hK => ?_) AllReadyH.nil
          go_simp
          refine hK.out _ _ ?_ (fun hHeld => ?_)
          · (try dsimp only)
            first
              | exact ⟨(half_set (Nat.lt_of_lt_of_le K1.out.lt Bp10.size) kk0 kk1 ON9 KD9 KH9 OW9 HY9).box.cell 0, (half_set (Nat.lt_of_lt_of_le K1.out.lt Bp10.size) kk0 kk1 ON9 KD9 KH9 OW9 HY9).box.cell 1⟩
          clear hK K
          (try simp only [List.getElem_toArray, List.getElem_cons_zero, List.getElem_cons_succ]); (try simp only [Act.put]); (try simp only [List.setIfInBounds_toArray]); (try simp only [List.set_cons_succ]); (try simp only [List.set_cons_zero])
          refine wpAnyH_take (i := 16) (v := ?p20v) rfl (by kernel_rfl) (by kernel_rfl) (by kernel_rfl) (fun _ _ _ h => h) (Or.inl ⟨by kernel_rfl, ?p20h⟩) (by assumption) ?p20r
          case p20h => ((intro w hSw; (try dsimp only at hSw); go_simp) <;> with_reducible rfl)
          (try simp only [List.getElem_toArray, List.getElem_cons_zero, List.getElem_cons_succ]); (try simp only [Act.put]); (try simp only [List.setIfInBounds_toArray]); (try simp only [List.set_cons_succ]); (try simp only [List.set_cons_zero])
          refine wpAnyH_done (by kernel_rfl) ?_ _
          go_wp2_with fail
          go_meet
          first
            | exact ⟨_, m1, A1, n1, c1, x, rfl, rfl, Lib.hid (half_heap (half_set (Nat.lt_of_lt_of_le K1.out.lt Bp10.size) kk0 kk1 ON9 KD9 KH9 OW9 HY9) rfl rfl rfl rfl)⟩
      · go_simp
        have BAp21 := Bp9.alloc Bp9.size (.cells #[.int .i64 0, .slice none 0 0] 46)
        have KAp21 : Blk (wp9.alloc (.cells #[.int .i64 0, .slice none 0 0] 46)) wp9.heap.size 46 [.int .i64 0, .slice none 0 0] := ci_blk wp9 #[.int .i64 0, .slice none 0 0] 46
        have x0 := cell_below BAp21 (p := ⟨w.heap.size, 0, none⟩) l0 z0
        have x1 := cell_below BAp21 (p := ⟨w.heap.size, 1, none⟩) l0 z1
        refine hK.out _ _ ?_ (fun hHeld => ?_)
        · (try dsimp only); exact ⟨x0, x1⟩
        clear hK K
        (try simp only [List.getElem_toArray, List.getElem_cons_zero, List.getElem_cons_succ]); (try simp only [Act.put]); (try simp only [List.setIfInBounds_toArray]); (try simp only [List.set_cons_succ]); (try simp only [List.set_cons_zero])
        refine wpAnyH_ready (rs := [9]) (by kernel_rfl) (by simp) ?_
        refine AllReadyH.cons (o := _) rfl (fun K hK => ?_) AllReadyH.nil
        go_simp
        refine (ATB.out _ BAp21).mono ?_
        rintro e wp22 ⟨rfl, cp22⟩
        have Bp22 := BAp21.trans (cp22.mono BAp21.size)
        have x0 := cell_below Bp22 (p := ⟨w.heap.size, 0, none⟩) l0 z0
        have x1 := cell_below Bp22 (p := ⟨w.heap.size, 1, none⟩) l0 z1
        have Kp22 := KAp21.below cp22 KAp21.lt
        refine hK.out _ _ ?_ (fun hHeld => ?_)
        · (try dsimp only); exact ⟨x0, x1⟩
        clear hK K
        (try simp only [List.getElem_toArray, List.getElem_cons_zero, List.getElem_cons_succ]); (try simp only [Act.put]); (try simp only [List.setIfInBounds_toArray]); (try simp only [List.set_cons_succ]); (try simp only [List.set_cons_zero])
        refine wpAnyH_ready (rs := [10]) (by kernel_rfl) (by simp) ?_
        refine AllReadyH.cons (o := _) rfl (fun K hK => ?_) AllReadyH.nil
        go_simp
        refine (CC0.out _ Bp22).mono ?_
        rintro e w9 hG
        obtain ⟨m1, A1, n1, c1, x, rfl, on9, kd9, on1⟩ := gives_de_one rfl hG
        clear hG
        have kk0 := only_blk on9 (K0.out.below Bp22 l0) (fun q => NB.out _ (Nat.le_refl _) q)
        have kk1 := only_blk on9 (K1.out.below Bp22 K1.out.lt) (fun q => NB.out _ (Nat.le_succ _) q)
        have x0 := kk0.cell 0
        have x1 := kk0.cell 1
        simp only [List.getElem?_cons_zero, List.getElem?_cons_succ] at x0 x1
        have lw9 := kk0.lt
        have Bc := HB5.out.trans (Bp22.mono HB5.out.size)
        have ON9 := (Only.of_below Bc (bl (.slice A d.forks.length c))).trans on9
        have KD9 := (KeptD.of_below Bc (.slice A d.forks.length c) d.forks.length).trans kd9 Bc.size (Nat.le_refl _) (fun x e => .inl e)
        have OW9 : OneD base (.slice A d.forks.length c) (w.heap.size + 2) (runF 2 k d (atP d a v 0) (atP d b v 0)) m1 A1 n1 c1 x w9 := oneD_from on1 (Nat.le_trans K1.out.lt Bp22.size)
        have KH9 := only_blk on9 Kp22 (fun q => NB.out _ (Nat.le_trans HB5.out.size Bp9.size) q)
        have HY9 := oneD_far on1 Kp22.lt (fun q => NB.out _ (Nat.le_trans HB5.out.size Bp9.size) q)
        refine hK.out _ _ ?_ (fun hHeld => ?_)
        · (try dsimp only); exact ⟨x0, x1⟩
        clear hK K
        (try simp only [List.getElem_toArray, List.getElem_cons_zero, List.getElem_cons_succ]); (try simp only [Act.put]); (try simp only [List.setIfInBounds_toArray]); (try simp only [List.set_cons_succ]); (try simp only [List.set_cons_zero])
        refine wpAnyH_take (i := 11) (v := ?p23v) rfl (by kernel_rfl) (by kernel_rfl) (by kernel_rfl) (fun _ _ _ h => h) (Or.inl ⟨by kernel_rfl, ?p23h⟩) (by assumption) ?p23r
        case p23h => ((intro w hSw; (try dsimp only at hSw); go_simp) <;> with_reducible rfl)
        (try simp only [List.getElem_toArray, List.getElem_cons_zero, List.getElem_cons_succ]); (try simp only [Act.put]); (try simp only [List.setIfInBounds_toArray]); (try simp only [List.set_cons_succ]); (try simp only [List.set_cons_zero])
        refine wpAnyH_take (i := 12) (v := ?p24v) rfl (by kernel_rfl) (by kernel_rfl) (by kernel_rfl) (fun _ _ _ h => h) (Or.inl ⟨by kernel_rfl, ?p24h⟩) (by assumption) ?p24r
        case p24h => ((intro w hSw; (try dsimp only at hSw); go_simp) <;> with_reducible rfl)
        (try simp only [List.getElem_toArray, List.getElem_cons_zero, List.getElem_cons_succ]); (try simp only [Act.put]); (try simp only [List.setIfInBounds_toArray]); (try simp only [List.set_cons_succ]); (try simp only [List.set_cons_zero])
        refine wpAnyH_take (i := 13) (v := ?p25v) rfl (by kernel_rfl) (by kernel_rfl) (by kernel_rfl) (fun _ _ _ h => h) (Or.inl ⟨by kernel_rfl, ?p25h⟩) (by assumption) ?p25r
        case p25h => ((intro w hSw; (try dsimp only at hSw); go_simp) <;> with_reducible rfl)
        (try simp only [List.getElem_toArray, List.getElem_cons_zero, List.getElem_cons_succ]); (try simp only [Act.put]); (try simp only [List.setIfInBounds_toArray]); (try simp only [List.set_cons_succ]); (try simp only [List.set_cons_zero])
        have hc0 := KH9.cell 0
        have hc1 := KH9.cell 1
        have hf0 := KH9.frozen 0
        have hf1 := KH9.frozen 1
        simp only [List.getElem?_cons_zero, List.getElem?_cons_succ] at hc0 hc1
        refine wpAnyH_ready (rs := [15]) (by kernel_rfl) (by simp) ?_
        refine AllReadyH.cons (o := _) rfl (fun K hK => ?_) AllReadyH.nil
        go_simp
        refine hK.out _ _ ?_ (fun hHeld => ?_)
        · (try dsimp only)
          first
            | exact ⟨(half_set (Nat.lt_of_lt_of_le K1.out.lt Bp9.size) kk0 kk1 ON9 KD9 KH9 OW9 HY9).box.cell 0, (half_set (Nat.lt_of_lt_of_le K1.out.lt Bp9.size) kk0 kk1 ON9 KD9 KH9 OW9 HY9).box.cell 1⟩
        clear hK K
        (try simp only [List.getElem_toArray, List.getElem_cons_zero, List.getElem_cons_succ]); (try simp only [Act.put]); (try simp only [List.setIfInBounds_toArray]); (try simp only [List.set_cons_succ]); (try simp only [List.set_cons_zero])
        refine wpAnyH_take (i := 16) (v := ?p26v) rfl (by kernel_rfl) (by kernel_rfl) (by kernel_rfl) (fun _ _ _ h => h) (Or.inl ⟨by kernel_rfl, ?p26h⟩) (by assumption) ?p26r
        case p26h => ((intro w hSw; (try dsimp only at hSw); go_simp) <;> with_reducible rfl)
        (try simp only [List.getElem_toArray, List.getElem_cons_zero, List.getElem_cons_succ]); (try simp only [Act.put]); (try simp only [List.setIfInBounds_toArray]); (try simp only [List.set_cons_succ]); (try simp only [List.set_cons_zero])
        refine wpAnyH_done (by kernel_rfl) ?_ _
        go_wp2_with fail
        go_meet
        first
          | exact ⟨_, m1, A1, n1, c1, x, rfl, rfl, Lib.hid (half_heap (half_set (Nat.lt_of_lt_of_le K1.out.lt Bp9.size) kk0 kk1 ON9 KD9 KH9 OW9 HY9) rfl rfl rfl rfl)⟩
    · go_simp
      have BAp27 := BW0.alloc BW0.size (.cells #[.int .i64 0, .slice none 0 0] 46)
      have KAp27 : Blk (w5.drew.alloc (.cells #[.int .i64 0, .slice none 0 0] 46)) w5.heap.size 46 [.int .i64 0, .slice none 0 0] := ci_blk w5.drew #[.int .i64 0, .slice none 0 0] 46
      have x0 := cell_below BAp27 (p := ⟨w.heap.size, 0, none⟩) l0 z0
      have x1 := cell_below BAp27 (p := ⟨w.heap.size, 1, none⟩) l0 z1
      refine hK.out _ _ ?_ (fun hHeld => ?_)
      · (try dsimp only); exact ⟨x0, x1⟩
      clear hK K
      (try simp only [List.getElem_toArray, List.getElem_cons_zero, List.getElem_cons_succ]); (try simp only [Act.put]); (try simp only [List.setIfInBounds_toArray]); (try simp only [List.set_cons_succ]); (try simp only [List.set_cons_zero])
      refine wpAnyH_ready (rs := [5]) (by kernel_rfl) (by simp) ?_
      refine AllReadyH.cons (o := _) rfl (fun K hK => ?_) AllReadyH.nil
      go_simp
      refine (ATA.out _ BAp27).mono ?_
      rintro e wp28 ⟨rfl, cp28⟩
      have Bp28 := BAp27.trans (cp28.mono BAp27.size)
      have x0 := cell_below Bp28 (p := ⟨w.heap.size, 0, none⟩) l0 z0
      have x1 := cell_below Bp28 (p := ⟨w.heap.size, 1, none⟩) l0 z1
      have Kp28 := KAp27.below cp28 KAp27.lt
      refine hK.out _ _ ?_ (fun hHeld => ?_)
      · (try dsimp only); exact ⟨x0, x1⟩
      clear hK K
      (try simp only [List.getElem_toArray, List.getElem_cons_zero, List.getElem_cons_succ]); (try simp only [Act.put]); (try simp only [List.setIfInBounds_toArray]); (try simp only [List.set_cons_succ]); (try simp only [List.set_cons_zero])
      refine wpAnyH_ready (rs := [9]) (by kernel_rfl) (by simp) ?_
      refine AllReadyH.cons (o := _) rfl (fun K hK => ?_) AllReadyH.nil
      go_simp
      refine (ATB.out _ Bp28).mono ?_
      rintro e wp29 ⟨rfl, cp29⟩
      have Bp29 := Bp28.trans (cp29.mono Bp28.size)
      have x0 := cell_below Bp29 (p := ⟨w.heap.size, 0, none⟩) l0 z0
      have x1 := cell_below Bp29 (p := ⟨w.heap.size, 1, none⟩) l0 z1
      have Kp29 := Kp28.below cp29 Kp28.lt
      refine hK.out _ _ ?_ (fun hHeld => ?_)
      · (try dsimp only); exact ⟨x0, x1⟩
      clear hK K
      (try simp only [List.getElem_toArray, List.getElem_cons_zero, List.getElem_cons_succ]); (try simp only [Act.put]); (try simp only [List.setIfInBounds_toArray]); (try simp only [List.set_cons_succ]); (try simp only [List.set_cons_zero])
      refine wpAnyH_ready (rs := [10]) (by kernel_rfl) (by simp) ?_
      refine AllReadyH.cons (o := _) rfl (fun K hK => ?_) AllReadyH.nil
      go_simp
      refine (CC0.out _ Bp29).mono ?_
      rintro e w9 hG
      obtain ⟨m1, A1, n1, c1, x, rfl, on9, kd9, on1⟩ := gives_de_one rfl hG
      clear hG
      have kk0 := only_blk on9 (K0.out.below Bp29 l0) (fun q => NB.out _ (Nat.le_refl _) q)
      have kk1 := only_blk on9 (K1.out.below Bp29 K1.out.lt) (fun q => NB.out _ (Nat.le_succ _) q)
      have x0 := kk0.cell 0
      have x1 := kk0.cell 1
      simp only [List.getElem?_cons_zero, List.getElem?_cons_succ] at x0 x1
      have lw9 := kk0.lt
      have Bc := HB5.out.trans (Bp29.mono HB5.out.size)
      have ON9 := (Only.of_below Bc (bl (.slice A d.forks.length c))).trans on9
      have KD9 := (KeptD.of_below Bc (.slice A d.forks.length c) d.forks.length).trans kd9 Bc.size (Nat.le_refl _) (fun x e => .inl e)
      have OW9 : OneD base (.slice A d.forks.length c) (w.heap.size + 2) (runF 2 k d (atP d a v 0) (atP d b v 0)) m1 A1 n1 c1 x w9 := oneD_from on1 (Nat.le_trans K1.out.lt Bp29.size)
      have KH9 := only_blk on9 Kp29 (fun q => NB.out _ (Nat.le_trans HB5.out.size BW0.size) q)
      have HY9 := oneD_far on1 Kp29.lt (fun q => NB.out _ (Nat.le_trans HB5.out.size BW0.size) q)
      refine hK.out _ _ ?_ (fun hHeld => ?_)
      · (try dsimp only); exact ⟨x0, x1⟩
      clear hK K
      (try simp only [List.getElem_toArray, List.getElem_cons_zero, List.getElem_cons_succ]); (try simp only [Act.put]); (try simp only [List.setIfInBounds_toArray]); (try simp only [List.set_cons_succ]); (try simp only [List.set_cons_zero])
      refine wpAnyH_take (i := 11) (v := ?p30v) rfl (by kernel_rfl) (by kernel_rfl) (by kernel_rfl) (fun _ _ _ h => h) (Or.inl ⟨by kernel_rfl, ?p30h⟩) (by assumption) ?p30r
      case p30h => ((intro w hSw; (try dsimp only at hSw); go_simp) <;> with_reducible rfl)
      (try simp only [List.getElem_toArray, List.getElem_cons_zero, List.getElem_cons_succ]); (try simp only [Act.put]); (try simp only [List.setIfInBounds_toArray]); (try simp only [List.set_cons_succ]); (try simp only [List.set_cons_zero])
      refine wpAnyH_take (i := 12) (v := ?p31v) rfl (by kernel_rfl) (by kernel_rfl) (by kernel_rfl) (fun _ _ _ h => h) (Or.inl ⟨by kernel_rfl, ?p31h⟩) (by assumption) ?p31r
      case p31h => ((intro w hSw; (try dsimp only at hSw); go_simp) <;> with_reducible rfl)
      (try simp only [List.getElem_toArray, List.getElem_cons_zero, List.getElem_cons_succ]); (try simp only [Act.put]); (try simp only [List.setIfInBounds_toArray]); (try simp only [List.set_cons_succ]); (try simp only [List.set_cons_zero])
      refine wpAnyH_take (i := 13) (v := ?p32v) rfl (by kernel_rfl) (by kernel_rfl) (by kernel_rfl) (fun _ _ _ h => h) (Or.inl ⟨by kernel_rfl, ?p32h⟩) (by assumption) ?p32r
      case p32h => ((intro w hSw; (try dsimp only at hSw); go_simp) <;> with_reducible rfl)
      (try simp only [List.getElem_toArray, List.getElem_cons_zero, List.getElem_cons_succ]); (try simp only [Act.put]); (try simp only [List.setIfInBounds_toArray]); (try simp only [List.set_cons_succ]); (try simp only [List.set_cons_zero])
      have hc0 := KH9.cell 0
      have hc1 := KH9.cell 1
      have hf0 := KH9.frozen 0
      have hf1 := KH9.frozen 1
      simp only [List.getElem?_cons_zero, List.getElem?_cons_succ] at hc0 hc1
      refine wpAnyH_ready (rs := [15]) (by kernel_rfl) (by simp) ?_
      refine AllReadyH.cons (o := _) rfl (fun K hK => ?_) AllReadyH.nil
      go_simp
      refine hK.out _ _ ?_ (fun hHeld => ?_)
      · (try dsimp only)
        first
          | exact ⟨(half_set (Nat.lt_of_lt_of_le K1.out.lt BW0.size) kk0 kk1 ON9 KD9 KH9 OW9 HY9).box.cell 0, (half_set (Nat.lt_of_lt_of_le K1.out.lt BW0.size) kk0 kk1 ON9 KD9 KH9 OW9 HY9).box.cell 1⟩
      clear hK K
      (try simp only [List.getElem_toArray, List.getElem_cons_zero, List.getElem_cons_succ]); (try simp only [Act.put]); (try simp only [List.setIfInBounds_toArray]); (try simp only [List.set_cons_succ]); (try simp only [List.set_cons_zero])
      refine wpAnyH_take (i := 16) (v := ?p33v) rfl (by kernel_rfl) (by kernel_rfl) (by kernel_rfl) (fun _ _ _ h => h) (Or.inl ⟨by kernel_rfl, ?p33h⟩) (by assumption) ?p33r
      case p33h => ((intro w hSw; (try dsimp only at hSw); go_simp) <;> with_reducible rfl)
      (try simp only [List.getElem_toArray, List.getElem_cons_zero, List.getElem_cons_succ]); (try simp only [Act.put]); (try simp only [List.setIfInBounds_toArray]); (try simp only [List.set_cons_succ]); (try simp only [List.set_cons_zero])
      refine wpAnyH_done (by kernel_rfl) ?_ _
      go_wp2_with fail
      go_meet
      first
        | exact ⟨_, m1, A1, n1, c1, x, rfl, rfl, Lib.hid (half_heap (half_set (Nat.lt_of_lt_of_le K1.out.lt BW0.size) kk0 kk1 ON9 KD9 KH9 OW9 HY9) rfl rfl rfl rfl)⟩
  case rest =>
    obtain ⟨h, m1, A1, n1, c1, x, rfl, rfl, H⟩ := hcut
    have k0 := H.out.box
    have k1 := H.out.res
    have kh := H.out.one
    have x0 := k0.cell 0
    have x1 := k0.cell 1
    have u0 := k1.cell 0
    have u1 := k1.cell 1
    have uf0 := k1.frozen 0
    have uf1 := k1.frozen 1
    have s0 := k0.lt
    have s1 := k1.lt
    simp only [List.getElem?_cons_zero, List.getElem?_cons_succ] at x0 x1 u0 u1
    have HL := Lib.hid H.out.only
    have HKE := Lib.hid H.out.kept
    have KK1 := Lib.hid k1
    clear z0 z1 l0 B3 B4 B5 b3 b4 b5
    rcases H.out.own with ⟨hx, hr⟩ | ⟨hx, ex, em, en, ho1, hy1⟩
    · have HF := Lib.hid (HR2.out.trans (if_pos hr))
      clear hr k0 k1 kh
      go_wp2
      have K2 := (KK1.out.set 0 (.int .i64 d.vars)).set 1 (.slice A d.forks.length c)
      have q8 := only_setD (only_setD HL.out (p := ⟨w.heap.size + 1, 0, none⟩) (.int .i64 d.vars) (Nat.le_succ _)) (p := ⟨w.heap.size + 1, 1, none⟩) (.slice A d.forks.length c) (Nat.le_succ _)
      have kd8 := (HKE.out.set (p := ⟨w.heap.size + 1, 0, none⟩) (.int .i64 d.vars) (Nat.le_succ _)).set (p := ⟨w.heap.size + 1, 1, none⟩) (.slice A d.forks.length c) (Nat.le_succ _)
      generalize (wc.setCell ⟨w.heap.size + 1, 0, none⟩ (.int .i64 d.vars)).setCell ⟨w.heap.size + 1, 1, none⟩ (.slice A d.forks.length c) = w8 at K2 q8 kd8 ⊢
      have r0 := K2.cell 0
      have r1 := K2.cell 1
      simp only [List.set_cons_zero, List.set_cons_succ, List.getElem?_cons_zero, List.getElem?_cons_succ] at r0 r1
      exact bodyPost_ret (v := .tuple #[.agg #[.int .i64 d.vars, .slice A d.forks.length c], .int .i64 (-1)]) (by simp [results, Try.results113, go_sem, r0, r1]) rfl (by rw [HF.out]; exact gives_de_no q8 kd8 (by show (-1 : Int) < 0; decide) _ _ _ _)
    · have hx0 := hx
      rw [ex] at hx0
      obtain ⟨E0, K0k, P0, V0⟩ := run_ok OK.out G0.out RR0.out hx0
      have HR3 := Lib.hid (HR2.out.trans (if_neg (by omega)))
      have HAP := Lib.hid (H.out.apart hx)
      have KH := Lib.hid kh
      have KB := Lib.hid k0
      have EL := Lib.hid E0.len
      have HRD1 := Lib.hid (rd_kept HO.out rfl (by omega) HKE.out HL.out.size)
      have RK1 : Hid (∀ X : Dg, X = (runF 2 k d (atP d a v 0) (atP d b v 0)).1 → X.vars - rk X 2 (atP d a v 1) (atP d b v 1) < k) := Lib.hid (fun X hX => by subst hX; rw [rk_ext G1.out E0, E0.vars]; have := RR1.out; have := HV.out; have := HK.out; omega)
      have GX := Lib.hid (G1.out.ext E0)
      have ran := run_ok K0k GX.out (RK1.out _ rfl)
      clear k0 k1 kh E0 V0 hx0
      generalize hR : runF 2 k d (atP d a v 0) (atP d b v 0) = R at *
      clear hR
      obtain ⟨⟨rv, rf⟩, rx⟩ := R
      dsimp only at *
      have ex2 := ex.symm
      have em2 := em.symm
      subst ex2
      subst em2
      subst en
      have few1 := K0k.few
      dsimp only at few1
      have HO1 := Lib.hid ho1
      have HY1 := Lib.hid hy1
      have NB1 : Hid (∀ y, w.heap.size ≤ y → y ≤ w.heap.size + 1 → y ∉ bl (.slice A1 rf.length c1)) := Lib.hid (fun y h1 h2 q => by
        rcases HY1.out y q with q | q
        · exact NB.out y h1 q
        · omega)
      have CC1 := Lib.hid (fun W (B : Below wc.heap.size wc W) => IH ⟨rv, rf⟩ A1 c1 (atP d a v 1) (atP d b v 1) base W (own_below HO1.out B) (Nat.le_trans hb (Nat.le_trans HL.out.size B.size)) K0k GX.out (RK1.out _ rfl))
      have ATA1 := Lib.hid (fun W (B : Below wc.heap.size wc W) => AT.out a 1 W (Mem.rd_on HRD1.out B) pa.2)
      have ATB1 := Lib.hid (fun W (B : Below wc.heap.size wc W) => AT.out b 1 W (Mem.rd_on HRD1.out B) pb.2)
      have h0 := KH.out.cell 0
      have h1 := KH.out.cell 1
      have sh := KH.out.lt
      simp only [List.getElem?_cons_zero, List.getElem?_cons_succ] at h0 h1
      dsimp only at CC1
      have hxn : ¬ rx < 0 := by omega
      have FAR := Lib.hid H.out.far
      have RAN := Lib.hid ran
      clear ran ho1 hy1 K0k P0 H
      have BW0 : Below wc.heap.size wc wc.drew := (Below.refl _ _).drew
      have z0 := x0
      have z1 := x1
      have zh0 := h0
      have zh1 := h1
      go_upto_region 13 with fail
      go_cut [13, 14] from 89 to 101 (fun a13 a14 wx => ∃ (h2 : Nat) (m2 : Int) (A2 : Option Addr) (n2 c2 : Nat) (x2 : Int), a13 = .pointer (some ⟨h2, 0, none⟩) ∧ a14 = .int .i64 x2 ∧ Hid (HalfD base (.slice A d.forks.length c) d.forks.length d.vars w (runF 2 k ⟨rv, rf⟩ (atP d a v 1) (atP d b v 1)) wx h2 m2 A2 n2 c2 x2))
      case first =>
        refine wp_region_held_drew (S := (fun w' => w'.cell? ⟨w.heap.size, 0, none⟩ = some (.int .i64 d.vars) ∧ w'.cell? ⟨w.heap.size, 1, none⟩ = some (.slice A d.forks.length c) ∧ w'.cell? ⟨h, 0, none⟩ = some (.int .i64 rv) ∧ w'.cell? ⟨h, 1, none⟩ = some (.slice A1 rf.length c1))) (by kernel_rfl) ?_ (fun hHeld => ?_)
        · (try dsimp only); exact ⟨x0, x1, h0, h1⟩
        refine wpAnyH_take (i := 0) (v := ?q1v) rfl (by kernel_rfl) (by kernel_rfl) (by kernel_rfl) (fun _ _ _ h => h) (Or.inl ⟨by kernel_rfl, ?q1h⟩) (by assumption) ?q1r
        case q1h => ((intro w hSw; (try dsimp only at hSw); go_simp) <;> with_reducible rfl)
        (try simp only [List.getElem_toArray, List.getElem_cons_zero]); (try simp only [Act.put]); (try simp only [List.setIfInBounds_toArray]); (try simp only [List.set_cons_succ]); (try simp only [List.set_cons_zero])
        refine wpAnyH_take (i := 1) (v := ?q2v) rfl (by kernel_rfl) (by kernel_rfl) (by kernel_rfl) (fun _ _ _ h => h) (Or.inl ⟨by kernel_rfl, ?q2h⟩) (by assumption) ?q2r
        case q2h => ((intro w hSw; (try dsimp only at hSw); go_simp) <;> with_reducible rfl)
        (try simp only [List.getElem_toArray, List.getElem_cons_zero, List.getElem_cons_succ]); (try simp only [Act.put]); (try simp only [List.setIfInBounds_toArray]); (try simp only [List.set_cons_succ]); (try simp only [List.set_cons_zero])
        refine wpAnyH_take (i := 2) (v := ?q3v) rfl (by kernel_rfl) (by kernel_rfl) (by kernel_rfl) (fun _ _ _ h => h) (Or.inl ⟨by kernel_rfl, ?q3h⟩) (by assumption) ?q3r
        case q3h => ((intro w hSw; (try dsimp only at hSw); go_simp) <;> with_reducible rfl)
        (try simp only [List.getElem_toArray, List.getElem_cons_zero, List.getElem_cons_succ]); (try simp only [Act.put]); (try simp only [List.setIfInBounds_toArray]); (try simp only [List.set_cons_succ]); (try simp only [List.set_cons_zero])
        refine wpAnyH_take (i := 3) (v := ?q4v) rfl (by kernel_rfl) (by kernel_rfl) (by kernel_rfl) (fun _ _ _ h => h) (Or.inl ⟨by kernel_rfl, ?q4h⟩) (by assumption) ?q4r
        case q4h => ((intro w hSw; (try dsimp only at hSw); go_simp) <;> with_reducible rfl)
        (try simp only [List.getElem_toArray, List.getElem_cons_zero, List.getElem_cons_succ]); (try simp only [Act.put]); (try simp only [List.setIfInBounds_toArray]); (try simp only [List.set_cons_succ]); (try simp only [List.set_cons_zero])
        refine wpAnyH_take (i := 4) (v := ?q5v) rfl (by kernel_rfl) (by kernel_rfl) (by kernel_rfl) (fun _ _ _ h => h) (Or.inl ⟨by kernel_rfl, ?q5h⟩) (by assumption) ?q5r
        case q5h => ((intro w hSw; (try dsimp only at hSw); go_simp) <;> with_reducible rfl)
        (try simp only [List.getElem_toArray, List.getElem_cons_zero, List.getElem_cons_succ]); (try simp only [Act.put]); (try simp only [List.setIfInBounds_toArray]); (try simp only [List.set_cons_succ]); (try simp only [List.set_cons_zero])
        refine wpAnyH_take (i := 6) (v := ?q6v) rfl (by kernel_rfl) (by kernel_rfl) (by kernel_rfl) (fun _ _ _ h => h) (Or.inl ⟨by kernel_rfl, ?q6h⟩) (by assumption) ?q6r
        case q6h => ((intro w hSw; (try dsimp only at hSw); go_simp) <;> with_reducible rfl)
        (try simp only [List.getElem_toArray, List.getElem_cons_zero, List.getElem_cons_succ]); (try simp only [Act.put]); (try simp only [List.setIfInBounds_toArray]); (try simp only [List.set_cons_succ]); (try simp only [List.set_cons_zero])
        refine wpAnyH_take (i := 7) (v := ?q7v) rfl (by kernel_rfl) (by kernel_rfl) (by kernel_rfl) (fun _ _ _ h => h) (Or.inl ⟨by kernel_rfl, ?q7h⟩) (by assumption) ?q7r
        case q7h => ((intro w hSw; (try dsimp only at hSw); go_simp) <;> with_reducible rfl)
        (try simp only [List.getElem_toArray, List.getElem_cons_zero, List.getElem_cons_succ]); (try simp only [Act.put]); (try simp only [List.setIfInBounds_toArray]); (try simp only [List.set_cons_succ]); (try simp only [List.set_cons_zero])
        refine wpAnyH_take (i := 8) (v := ?q8v) rfl (by kernel_rfl) (by kernel_rfl) (by kernel_rfl) (fun _ _ _ h => h) (Or.inl ⟨by kernel_rfl, ?q8h⟩) (by assumption) ?q8r
        case q8h => ((intro w hSw; (try dsimp only at hSw); go_simp) <;> with_reducible rfl)
        (try simp only [List.getElem_toArray, List.getElem_cons_zero, List.getElem_cons_succ]); (try simp only [Act.put]); (try simp only [List.setIfInBounds_toArray]); (try simp only [List.set_cons_succ]); (try simp only [List.set_cons_zero])
        refine wpAnyH_ready (rs := [5, 14]) (by kernel_rfl) (by simp) ?_
        refine AllReadyH.cons (o := _) rfl (fun K hK => ?_) (AllReadyH.cons (o := _) rfl (fun K hK => ?_) AllReadyH.nil)
        · go_simp
          refine (ATA1.out _ BW0).mono ?_
          rintro e wq9 ⟨rfl, cq9⟩
          have Bq9 := BW0.trans (cq9.mono BW0.size)
          have x0 := cell_below Bq9 (p := ⟨w.heap.size, 0, none⟩) s0 z0
          have x1 := cell_below Bq9 (p := ⟨w.heap.size, 1, none⟩) s0 z1
          have h0 := cell_below Bq9 (p := ⟨h, 0, none⟩) sh zh0
          have h1 := cell_below Bq9 (p := ⟨h, 1, none⟩) sh zh1
          refine hK.out _ _ ?_ (fun hHeld => ?_)
          · (try dsimp only); exact ⟨x0, x1, h0, h1⟩
          clear hK K
          (try simp only [List.getElem_toArray, List.getElem_cons_zero, List.getElem_cons_succ]); (try simp only [Act.put]); (try simp only [List.setIfInBounds_toArray]); (try simp only [List.set_cons_succ]); (try simp only [List.set_cons_zero])
          refine wpAnyH_ready (rs := [9, 14]) (by kernel_rfl) (by simp) ?_
          refine AllReadyH.cons (o := _) rfl (fun K hK => ?_) (AllReadyH.cons (o := _) rfl (fun K hK => ?_) AllReadyH.nil)
          · go_simp
            refine (ATB1.out _ Bq9).mono ?_
            rintro e wq10 ⟨rfl, cq10⟩
            have Bq10 := Bq9.trans (cq10.mono Bq9.size)
            have x0 := cell_below Bq10 (p := ⟨w.heap.size, 0, none⟩) s0 z0
            have x1 := cell_below Bq10 (p := ⟨w.heap.size, 1, none⟩) s0 z1
            have h0 := cell_below Bq10 (p := ⟨h, 0, none⟩) sh zh0
            have h1 := cell_below Bq10 (p := ⟨h, 1, none⟩) sh zh1
            refine hK.out _ _ ?_ (fun hHeld => ?_)
            · (try dsimp only); exact ⟨x0, x1, h0, h1⟩
            clear hK K
            (try simp only [List.getElem_toArray, List.getElem_cons_zero, List.getElem_cons_succ]); (try simp only [Act.put]); (try simp only [List.setIfInBounds_toArray]); (try simp only [List.set_cons_succ]); (try simp only [List.set_cons_zero])
            refine wpAnyH_ready (rs := [10, 14]) (by kernel_rfl) (by simp) ?_
            refine AllReadyH.cons (o := _) rfl (fun K hK => ?_) (AllReadyH.cons (o := _) rfl (fun K hK => ?_) AllReadyH.nil)
            · go_simp
              refine (CC1.out _ Bq10).mono ?_
              rintro e w9 hG
              obtain ⟨m2, A2, n2, c2, x2, rfl, on9, kd9, on1⟩ := gives_de_one rfl hG
              clear hG
              have kk0 := only_blk on9 (KB.out.below Bq10 s0) (NB1.out _ (Nat.le_refl _) (Nat.le_succ _))
              have kk1 := only_blk on9 (KK1.out.below Bq10 s1) (NB1.out _ (Nat.le_succ _) (Nat.le_refl _))
              have kkh := only_blk on9 (KH.out.below Bq10 sh) (fun q => HAP.out (mem_bl.1 q))
              have x0 := kk0.cell 0
              have x1 := kk0.cell 1
              have h0 := kkh.cell 0
              have h1 := kkh.cell 1
              simp only [List.getElem?_cons_zero, List.getElem?_cons_succ] at x0 x1 h0 h1
              have lw9 := kk0.lt
              have lh9 := kkh.lt
              have ON9 := only_trans2 (HL.out.trans (Only.of_below Bq10 _)) on9 (fun y hy => (HY1.out y hy).imp id (fun q => by omega))
              have KD9 := (HKE.out.below Bq10 HL.out.size).trans kd9 (Nat.le_trans HL.out.size Bq10.size) EL.out (fun x e => (HY1.out x (mem_bl.2 e)).imp mem_bl.1 (fun q => by omega))
              have OW9 : OneD base (.slice A d.forks.length c) (w.heap.size + 2) (runF 2 k ⟨rv, rf⟩ (atP d a v 1) (atP d b v 1)) m2 A2 n2 c2 x2 w9 := oneD_via on1 (by have := s1; have := Bq10.size; omega) HY1.out
              refine hK.out _ _ ?_ (fun hHeld => ?_)
              · (try dsimp only); exact ⟨x0, x1, h0, h1⟩
              clear hK K
              (try simp only [List.getElem_toArray, List.getElem_cons_zero, List.getElem_cons_succ]); (try simp only [Act.put]); (try simp only [List.setIfInBounds_toArray]); (try simp only [List.set_cons_succ]); (try simp only [List.set_cons_zero])
              refine wpAnyH_take (i := 11) (v := ?q11v) rfl (by kernel_rfl) (by kernel_rfl) (by kernel_rfl) (fun _ _ _ h => h) (Or.inl ⟨by kernel_rfl, ?q11h⟩) (by assumption) ?q11r
              case q11h => ((intro w hSw; (try dsimp only at hSw); go_simp) <;> with_reducible rfl)
              (try simp only [List.getElem_toArray, List.getElem_cons_zero, List.getElem_cons_succ]); (try simp only [Act.put]); (try simp only [List.setIfInBounds_toArray]); (try simp only [List.set_cons_succ]); (try simp only [List.set_cons_zero])
              refine wpAnyH_take (i := 12) (v := ?q12v) rfl (by kernel_rfl) (by kernel_rfl) (by kernel_rfl) (fun _ _ _ h => h) (Or.inl ⟨by kernel_rfl, ?q12h⟩) (by assumption) ?q12r
              case q12h => ((intro w hSw; (try dsimp only at hSw); go_simp) <;> with_reducible rfl)
              (try simp only [List.getElem_toArray, List.getElem_cons_zero, List.getElem_cons_succ]); (try simp only [Act.put]); (try simp only [List.setIfInBounds_toArray]); (try simp only [List.set_cons_succ]); (try simp only [List.set_cons_zero])
              refine wpAnyH_take (i := 13) (v := ?q13v) rfl (by kernel_rfl) (by kernel_rfl) (by kernel_rfl) (fun _ _ _ h => h) (Or.inl ⟨by kernel_rfl, ?q13h⟩) (by assumption) ?q13r
              case q13h => ((intro w hSw; (try dsimp only at hSw); go_simp) <;> with_reducible rfl)
              (try simp only [List.getElem_toArray, List.getElem_cons_zero, List.getElem_cons_succ]); (try simp only [Act.put]); (try simp only [List.setIfInBounds_toArray]); (try simp only [List.set_cons_succ]); (try simp only [List.set_cons_zero])
              refine wpAnyH_ready (rs := [14]) (by kernel_rfl) (by simp) ?_
              refine AllReadyH.cons (o := _) rfl (fun K hK => ?_) AllReadyH.nil
              go_simp
              have KAq14 : Blk (w9.alloc (.cells #[.int .i64 0, .slice none 0 0] 46)) w9.heap.size 46 [.int .i64 0, .slice none 0 0] := ci_blk w9 #[.int .i64 0, .slice none 0 0] 46
              have x0 := cell_below (below_alloc w9 (.cells #[.int .i64 0, .slice none 0 0] 46)) (p := ⟨w.heap.size, 0, none⟩) lw9 x0
              have x1 := cell_below (below_alloc w9 (.cells #[.int .i64 0, .slice none 0 0] 46)) (p := ⟨w.heap.size, 1, none⟩) lw9 x1
              have h0 := cell_below (below_alloc w9 (.cells #[.int .i64 0, .slice none 0 0] 46)) (p := ⟨h, 0, none⟩) lh9 h0
              have h1 := cell_below (below_alloc w9 (.cells #[.int .i64 0, .slice none 0 0] 46)) (p := ⟨h, 1, none⟩) lh9 h1
              refine hK.out _ _ ?_ (fun hHeld => ?_)
              · (try dsimp only); exact ⟨x0, x1, h0, h1⟩
              clear hK K
              (try simp only [List.getElem_toArray, List.getElem_cons_zero, List.getElem_cons_succ]); (try simp only [Act.put]); (try simp only [List.setIfInBounds_toArray]); (try simp only [List.set_cons_succ]); (try simp only [List.set_cons_zero])
              have hc0 := KAq14.cell 0
              have hc1 := KAq14.cell 1
              have hf0 := KAq14.frozen 0
              have hf1 := KAq14.frozen 1
              simp only [List.getElem?_cons_zero, List.getElem?_cons_succ] at hc0 hc1
              refine wpAnyH_ready (rs := [15]) (by kernel_rfl) (by simp) ?_
              refine AllReadyH.cons (o := _) rfl (fun K hK => ?_) AllReadyH.nil
              go_simp
              refine hK.out _ _ ?_ (fun hHeld => ?_)
              · (try dsimp only)
                first
                  | exact ⟨(half_new kk1.lt kk0 kk1 ON9 KD9 OW9).box.cell 0, (half_new kk1.lt kk0 kk1 ON9 KD9 OW9).box.cell 1, (kkh.alloc _).cell 0, (kkh.alloc _).cell 1⟩
                  | exact ⟨(half_new kk1.lt kk0 kk1 ON9 KD9 OW9).box.cell 0, (half_new kk1.lt kk0 kk1 ON9 KD9 OW9).box.cell 1, (two_far (by omega) (kkh.alloc _)).cell 0, (two_far (by omega) (kkh.alloc _)).cell 1⟩
                  | exact ⟨(half_set (W := w9.alloc (.cells #[.int .i64 0, .slice none 0 0] 46)) kk1.lt (kk0.alloc _) (kk1.alloc _) (ON9.trans (Only.of_below (below_alloc w9 _) _)) (KD9.below (below_alloc w9 _) ON9.size) (ci_blk w9 _ _) (oneD_below OW9 (below_alloc w9 _)) (fun x0 => oneD_late OW9 x0)).box.cell 0, (half_set (W := w9.alloc (.cells #[.int .i64 0, .slice none 0 0] 46)) kk1.lt (kk0.alloc _) (kk1.alloc _) (ON9.trans (Only.of_below (below_alloc w9 _) _)) (KD9.below (below_alloc w9 _) ON9.size) (ci_blk w9 _ _) (oneD_below OW9 (below_alloc w9 _)) (fun x0 => oneD_late OW9 x0)).box.cell 1, (kkh.alloc _).cell 0, (kkh.alloc _).cell 1⟩
                  | exact ⟨(half_set (W := w9.alloc (.cells #[.int .i64 0, .slice none 0 0] 46)) kk1.lt (kk0.alloc _) (kk1.alloc _) (ON9.trans (Only.of_below (below_alloc w9 _) _)) (KD9.below (below_alloc w9 _) ON9.size) (ci_blk w9 _ _) (oneD_below OW9 (below_alloc w9 _)) (fun x0 => oneD_late OW9 x0)).box.cell 0, (half_set (W := w9.alloc (.cells #[.int .i64 0, .slice none 0 0] 46)) kk1.lt (kk0.alloc _) (kk1.alloc _) (ON9.trans (Only.of_below (below_alloc w9 _) _)) (KD9.below (below_alloc w9 _) ON9.size) (ci_blk w9 _ _) (oneD_below OW9 (below_alloc w9 _)) (fun x0 => oneD_late OW9 x0)).box.cell 1, (two_far (by omega) (kkh.alloc _)).cell 0, (two_far (by omega) (kkh.alloc _)).cell 1⟩
              clear hK K
              (try simp only [List.getElem_toArray, List.getElem_cons_zero, List.getElem_cons_succ]); (try simp only [Act.put]); (try simp only [List.setIfInBounds_toArray]); (try simp only [List.set_cons_succ]); (try simp only [List.set_cons_zero])
              refine wpAnyH_take (i := 16) (v := ?q15v) rfl (by kernel_rfl) (by kernel_rfl) (by kernel_rfl) (fun _ _ _ h => h) (Or.inl ⟨by kernel_rfl, ?q15h⟩) (by assumption) ?q15r
              case q15h => ((intro w hSw; (try dsimp only at hSw); go_simp) <;> with_reducible rfl)
              (try simp only [List.getElem_toArray, List.getElem_cons_zero, List.getElem_cons_succ]); (try simp only [Act.put]); (try simp only [List.setIfInBounds_toArray]); (try simp only [List.set_cons_succ]); (try simp only [List.set_cons_zero])
              refine wpAnyH_done (by kernel_rfl) ?_ _
              go_wp2_with fail
              go_meet
              first
                | exact ⟨_, m2, A2, n2, c2, x2, rfl, rfl, Lib.hid (half_heap (half_new kk1.lt kk0 kk1 ON9 KD9 OW9) rfl rfl rfl rfl)⟩
                | exact ⟨_, m2, A2, n2, c2, x2, rfl, rfl, Lib.hid (half_heap (half_set (W := w9.alloc (.cells #[.int .i64 0, .slice none 0 0] 46)) kk1.lt (kk0.alloc _) (kk1.alloc _) (ON9.trans (Only.of_below (below_alloc w9 _) _)) (KD9.below (below_alloc w9 _) ON9.size) (ci_blk w9 _ _) (oneD_below OW9 (below_alloc w9 _)) (fun x0 => oneD_late OW9 x0)) rfl rfl rfl rfl)⟩
            · go_simp
              have BAq16 := Bq10.alloc Bq10.size (.cells #[.int .i64 0, .slice none 0 0] 46)
              have KAq16 : Blk (wq10.alloc (.cells #[.int .i64 0, .slice none 0 0] 46)) wq10.heap.size 46 [.int .i64 0, .slice none 0 0] := ci_blk wq10 #[.int .i64 0, .slice none 0 0] 46
              have x0 := cell_below BAq16 (p := ⟨w.heap.size, 0, none⟩) s0 z0
              have x1 := cell_below BAq16 (p := ⟨w.heap.size, 1, none⟩) s0 z1
              have h0 := cell_below BAq16 (p := ⟨h, 0, none⟩) sh zh0
              have h1 := cell_below BAq16 (p := ⟨h, 1, none⟩) sh zh1
              refine hK.out _ _ ?_ (fun hHeld => ?_)
              · (try dsimp only); exact ⟨x0, x1, h0, h1⟩
              clear hK K
              (try simp only [List.getElem_toArray, List.getElem_cons_zero, List.getElem_cons_succ]); (try simp only [Act.put]); (try simp only [List.setIfInBounds_toArray]); (try simp only [List.set_cons_succ]); (try simp only [List.set_cons_zero])
              refine wpAnyH_ready (rs := [10]) (by kernel_rfl) (by simp) ?_
              refine AllReadyH.cons (o := _) rfl (fun K hK => ?_) AllReadyH.nil
              go_simp
              refine (CC1.out _ BAq16).mono ?_
              rintro e w9 hG
              obtain ⟨m2, A2, n2, c2, x2, rfl, on9, kd9, on1⟩ := gives_de_one rfl hG
              clear hG
              have kk0 := only_blk on9 (KB.out.below BAq16 s0) (NB1.out _ (Nat.le_refl _) (Nat.le_succ _))
              have kk1 := only_blk on9 (KK1.out.below BAq16 s1) (NB1.out _ (Nat.le_succ _) (Nat.le_refl _))
              have kkh := only_blk on9 (KH.out.below BAq16 sh) (fun q => HAP.out (mem_bl.1 q))
              have x0 := kk0.cell 0
              have x1 := kk0.cell 1
              have h0 := kkh.cell 0
              have h1 := kkh.cell 1
              simp only [List.getElem?_cons_zero, List.getElem?_cons_succ] at x0 x1 h0 h1
              have lw9 := kk0.lt
              have lh9 := kkh.lt
              have ON9 := only_trans2 (HL.out.trans (Only.of_below BAq16 _)) on9 (fun y hy => (HY1.out y hy).imp id (fun q => by omega))
              have KD9 := (HKE.out.below BAq16 HL.out.size).trans kd9 (Nat.le_trans HL.out.size BAq16.size) EL.out (fun x e => (HY1.out x (mem_bl.2 e)).imp mem_bl.1 (fun q => by omega))
              have OW9 : OneD base (.slice A d.forks.length c) (w.heap.size + 2) (runF 2 k ⟨rv, rf⟩ (atP d a v 1) (atP d b v 1)) m2 A2 n2 c2 x2 w9 := oneD_via on1 (by have := s1; have := BAq16.size; omega) HY1.out
              have KH9 := only_blk on9 KAq16 (fun q => by have := (HO1.out.lt _ (mem_bl.1 q)).2; have := Bq10.size; omega)
              have HY9 := oneD_far on1 KAq16.lt (fun q => by have := (HO1.out.lt _ (mem_bl.1 q)).2; have := Bq10.size; omega)
              refine hK.out _ _ ?_ (fun hHeld => ?_)
              · (try dsimp only); exact ⟨x0, x1, h0, h1⟩
              clear hK K
              (try simp only [List.getElem_toArray, List.getElem_cons_zero, List.getElem_cons_succ]); (try simp only [Act.put]); (try simp only [List.setIfInBounds_toArray]); (try simp only [List.set_cons_succ]); (try simp only [List.set_cons_zero])
              refine wpAnyH_take (i := 11) (v := ?q17v) rfl (by kernel_rfl) (by kernel_rfl) (by kernel_rfl) (fun _ _ _ h => h) (Or.inl ⟨by kernel_rfl, ?q17h⟩) (by assumption) ?q17r
              case q17h => ((intro w hSw; (try dsimp only at hSw); go_simp) <;> with_reducible rfl)
              (try simp only [List.getElem_toArray, List.getElem_cons_zero, List.getElem_cons_succ]); (try simp only [Act.put]); (try simp only [List.setIfInBounds_toArray]); (try simp only [List.set_cons_succ]); (try simp only [List.set_cons_zero])
              refine wpAnyH_take (i := 12) (v := ?q18v) rfl (by kernel_rfl) (by kernel_rfl) (by kernel_rfl) (fun _ _ _ h => h) (Or.inl ⟨by kernel_rfl, ?q18h⟩) (by assumption) ?q18r
              case q18h => ((intro w hSw; (try dsimp only at hSw); go_simp) <;> with_reducible rfl)
              (try simp only [List.getElem_toArray, List.getElem_cons_zero, List.getElem_cons_succ]); (try simp only [Act.put]); (try simp only [List.setIfInBounds_toArray]); (try simp only [List.set_cons_succ]); (try simp only [List.set_cons_zero])
              refine wpAnyH_take (i := 13) (v := ?q19v) rfl (by kernel_rfl) (by kernel_rfl) (by kernel_rfl) (fun _ _ _ h => h) (Or.inl ⟨by kernel_rfl, ?q19h⟩) (by assumption) ?q19r
              case q19h => ((intro w hSw; (try dsimp only at hSw); go_simp) <;> with_reducible rfl)
              (try simp only [List.getElem_toArray, List.getElem_cons_zero, List.getElem_cons_succ]); (try simp only [Act.put]); (try simp only [List.setIfInBounds_toArray]); (try simp only [List.set_cons_succ]); (try simp only [List.set_cons_zero])
              have hc0 := KH9.cell 0
              have hc1 := KH9.cell 1
              have hf0 := KH9.frozen 0
              have hf1 := KH9.frozen 1
              simp only [List.getElem?_cons_zero, List.getElem?_cons_succ] at hc0 hc1
              refine wpAnyH_ready (rs := [15]) (by kernel_rfl) (by simp) ?_
              refine AllReadyH.cons (o := _) rfl (fun K hK => ?_) AllReadyH.nil
              go_simp
              refine hK.out _ _ ?_ (fun hHeld => ?_)
              · (try dsimp only)
                first
                  | exact ⟨(half_set (by have := s1; have := Bq10.size; omega) kk0 kk1 ON9 KD9 KH9 OW9 HY9).box.cell 0, (half_set (by have := s1; have := Bq10.size; omega) kk0 kk1 ON9 KD9 KH9 OW9 HY9).box.cell 1, (two_far (by have := Bq10.size; omega) kkh).cell 0, (two_far (by have := Bq10.size; omega) kkh).cell 1⟩
              clear hK K
              (try simp only [List.getElem_toArray, List.getElem_cons_zero, List.getElem_cons_succ]); (try simp only [Act.put]); (try simp only [List.setIfInBounds_toArray]); (try simp only [List.set_cons_succ]); (try simp only [List.set_cons_zero])
              refine wpAnyH_take (i := 16) (v := ?q20v) rfl (by kernel_rfl) (by kernel_rfl) (by kernel_rfl) (fun _ _ _ h => h) (Or.inl ⟨by kernel_rfl, ?q20h⟩) (by assumption) ?q20r
              case q20h => ((intro w hSw; (try dsimp only at hSw); go_simp) <;> with_reducible rfl)
              (try simp only [List.getElem_toArray, List.getElem_cons_zero, List.getElem_cons_succ]); (try simp only [Act.put]); (try simp only [List.setIfInBounds_toArray]); (try simp only [List.set_cons_succ]); (try simp only [List.set_cons_zero])
              refine wpAnyH_done (by kernel_rfl) ?_ _
              go_wp2_with fail
              go_meet
              first
                | exact ⟨_, m2, A2, n2, c2, x2, rfl, rfl, Lib.hid (half_heap (half_set (by have := s1; have := Bq10.size; omega) kk0 kk1 ON9 KD9 KH9 OW9 HY9) rfl rfl rfl rfl)⟩
          · go_simp
            have BAq21 := Bq9.alloc Bq9.size (.cells #[.int .i64 0, .slice none 0 0] 46)
            have KAq21 : Blk (wq9.alloc (.cells #[.int .i64 0, .slice none 0 0] 46)) wq9.heap.size 46 [.int .i64 0, .slice none 0 0] := ci_blk wq9 #[.int .i64 0, .slice none 0 0] 46
            have x0 := cell_below BAq21 (p := ⟨w.heap.size, 0, none⟩) s0 z0
            have x1 := cell_below BAq21 (p := ⟨w.heap.size, 1, none⟩) s0 z1
            have h0 := cell_below BAq21 (p := ⟨h, 0, none⟩) sh zh0
            have h1 := cell_below BAq21 (p := ⟨h, 1, none⟩) sh zh1
            refine hK.out _ _ ?_ (fun hHeld => ?_)
            · (try dsimp only); exact ⟨x0, x1, h0, h1⟩
            clear hK K
            (try simp only [List.getElem_toArray, List.getElem_cons_zero, List.getElem_cons_succ]); (try simp only [Act.put]); (try simp only [List.setIfInBounds_toArray]); (try simp only [List.set_cons_succ]); (try simp only [List.set_cons_zero])
            refine wpAnyH_ready (rs := [9]) (by kernel_rfl) (by simp) ?_
            refine AllReadyH.cons (o := _) rfl (fun K hK => ?_) AllReadyH.nil
            go_simp
            refine (ATB1.out _ BAq21).mono ?_
            rintro e wq22 ⟨rfl, cq22⟩
            have Bq22 := BAq21.trans (cq22.mono BAq21.size)
            have x0 := cell_below Bq22 (p := ⟨w.heap.size, 0, none⟩) s0 z0
            have x1 := cell_below Bq22 (p := ⟨w.heap.size, 1, none⟩) s0 z1
            have h0 := cell_below Bq22 (p := ⟨h, 0, none⟩) sh zh0
            have h1 := cell_below Bq22 (p := ⟨h, 1, none⟩) sh zh1
            have Kq22 := KAq21.below cq22 KAq21.lt
            refine hK.out _ _ ?_ (fun hHeld => ?_)
            · (try dsimp only); exact ⟨x0, x1, h0, h1⟩
            clear hK K
            (try simp only [List.getElem_toArray, List.getElem_cons_zero, List.getElem_cons_succ]); (try simp only [Act.put]); (try simp only [List.setIfInBounds_toArray]); (try simp only [List.set_cons_succ]); (try simp only [List.set_cons_zero])
            refine wpAnyH_ready (rs := [10]) (by kernel_rfl) (by simp) ?_
            refine AllReadyH.cons (o := _) rfl (fun K hK => ?_) AllReadyH.nil
            go_simp
            refine (CC1.out _ Bq22).mono ?_
            rintro e w9 hG
            obtain ⟨m2, A2, n2, c2, x2, rfl, on9, kd9, on1⟩ := gives_de_one rfl hG
            clear hG
            have kk0 := only_blk on9 (KB.out.below Bq22 s0) (NB1.out _ (Nat.le_refl _) (Nat.le_succ _))
            have kk1 := only_blk on9 (KK1.out.below Bq22 s1) (NB1.out _ (Nat.le_succ _) (Nat.le_refl _))
            have kkh := only_blk on9 (KH.out.below Bq22 sh) (fun q => HAP.out (mem_bl.1 q))
            have x0 := kk0.cell 0
            have x1 := kk0.cell 1
            have h0 := kkh.cell 0
            have h1 := kkh.cell 1
            simp only [List.getElem?_cons_zero, List.getElem?_cons_succ] at x0 x1 h0 h1
            have lw9 := kk0.lt
            have lh9 := kkh.lt
            have ON9 := only_trans2 (HL.out.trans (Only.of_below Bq22 _)) on9 (fun y hy => (HY1.out y hy).imp id (fun q => by omega))
            have KD9 := (HKE.out.below Bq22 HL.out.size).trans kd9 (Nat.le_trans HL.out.size Bq22.size) EL.out (fun x e => (HY1.out x (mem_bl.2 e)).imp mem_bl.1 (fun q => by omega))
            have OW9 : OneD base (.slice A d.forks.length c) (w.heap.size + 2) (runF 2 k ⟨rv, rf⟩ (atP d a v 1) (atP d b v 1)) m2 A2 n2 c2 x2 w9 := oneD_via on1 (by have := s1; have := Bq22.size; omega) HY1.out
            have KH9 := only_blk on9 Kq22 (fun q => by have := (HO1.out.lt _ (mem_bl.1 q)).2; have := Bq9.size; omega)
            have HY9 := oneD_far on1 Kq22.lt (fun q => by have := (HO1.out.lt _ (mem_bl.1 q)).2; have := Bq9.size; omega)
            refine hK.out _ _ ?_ (fun hHeld => ?_)
            · (try dsimp only); exact ⟨x0, x1, h0, h1⟩
            clear hK K
            (try simp only [List.getElem_toArray, List.getElem_cons_zero, List.getElem_cons_succ]); (try simp only [Act.put]); (try simp only [List.setIfInBounds_toArray]); (try simp only [List.set_cons_succ]); (try simp only [List.set_cons_zero])
            refine wpAnyH_take (i := 11) (v := ?q23v) rfl (by kernel_rfl) (by kernel_rfl) (by kernel_rfl) (fun _ _ _ h => h) (Or.inl ⟨by kernel_rfl, ?q23h⟩) (by assumption) ?q23r
            case q23h => ((intro w hSw; (try dsimp only at hSw); go_simp) <;> with_reducible rfl)
            (try simp only [List.getElem_toArray, List.getElem_cons_zero, List.getElem_cons_succ]); (try simp only [Act.put]); (try simp only [List.setIfInBounds_toArray]); (try simp only [List.set_cons_succ]); (try simp only [List.set_cons_zero])
            refine wpAnyH_take (i := 12) (v := ?q24v) rfl (by kernel_rfl) (by kernel_rfl) (by kernel_rfl) (fun _ _ _ h => h) (Or.inl ⟨by kernel_rfl, ?q24h⟩) (by assumption) ?q24r
            case q24h => ((intro w hSw; (try dsimp only at hSw); go_simp) <;> with_reducible rfl)
            (try simp only [List.getElem_toArray, List.getElem_cons_zero, List.getElem_cons_succ]); (try simp only [Act.put]); (try simp only [List.setIfInBounds_toArray]); (try simp only [List.set_cons_succ]); (try simp only [List.set_cons_zero])
            refine wpAnyH_take (i := 13) (v := ?q25v) rfl (by kernel_rfl) (by kernel_rfl) (by kernel_rfl) (fun _ _ _ h => h) (Or.inl ⟨by kernel_rfl, ?q25h⟩) (by assumption) ?q25r
            case q25h => ((intro w hSw; (try dsimp only at hSw); go_simp) <;> with_reducible rfl)
            (try simp only [List.getElem_toArray, List.getElem_cons_zero, List.getElem_cons_succ]); (try simp only [Act.put]); (try simp only [List.setIfInBounds_toArray]); (try simp only [List.set_cons_succ]); (try simp only [List.set_cons_zero])
            have hc0 := KH9.cell 0
            have hc1 := KH9.cell 1
            have hf0 := KH9.frozen 0
            have hf1 := KH9.frozen 1
            simp only [List.getElem?_cons_zero, List.getElem?_cons_succ] at hc0 hc1
            refine wpAnyH_ready (rs := [15]) (by kernel_rfl) (by simp) ?_
            refine AllReadyH.cons (o := _) rfl (fun K hK => ?_) AllReadyH.nil
            go_simp
            refine hK.out _ _ ?_ (fun hHeld => ?_)
            · (try dsimp only)
              first
                | exact ⟨(half_set (by have := s1; have := Bq9.size; omega) kk0 kk1 ON9 KD9 KH9 OW9 HY9).box.cell 0, (half_set (by have := s1; have := Bq9.size; omega) kk0 kk1 ON9 KD9 KH9 OW9 HY9).box.cell 1, (two_far (by have := Bq9.size; omega) kkh).cell 0, (two_far (by have := Bq9.size; omega) kkh).cell 1⟩
            clear hK K
            (try simp only [List.getElem_toArray, List.getElem_cons_zero, List.getElem_cons_succ]); (try simp only [Act.put]); (try simp only [List.setIfInBounds_toArray]); (try simp only [List.set_cons_succ]); (try simp only [List.set_cons_zero])
            refine wpAnyH_take (i := 16) (v := ?q26v) rfl (by kernel_rfl) (by kernel_rfl) (by kernel_rfl) (fun _ _ _ h => h) (Or.inl ⟨by kernel_rfl, ?q26h⟩) (by assumption) ?q26r
            case q26h => ((intro w hSw; (try dsimp only at hSw); go_simp) <;> with_reducible rfl)
            (try simp only [List.getElem_toArray, List.getElem_cons_zero, List.getElem_cons_succ]); (try simp only [Act.put]); (try simp only [List.setIfInBounds_toArray]); (try simp only [List.set_cons_succ]); (try simp only [List.set_cons_zero])
            refine wpAnyH_done (by kernel_rfl) ?_ _
            go_wp2_with fail
            go_meet
            first
              | exact ⟨_, m2, A2, n2, c2, x2, rfl, rfl, Lib.hid (half_heap (half_set (by have := s1; have := Bq9.size; omega) kk0 kk1 ON9 KD9 KH9 OW9 HY9) rfl rfl rfl rfl)⟩
        · go_simp
          have BAq27 := BW0.alloc BW0.size (.cells #[.int .i64 0, .slice none 0 0] 46)
          have KAq27 : Blk (wc.drew.alloc (.cells #[.int .i64 0, .slice none 0 0] 46)) wc.heap.size 46 [.int .i64 0, .slice none 0 0] := ci_blk wc.drew #[.int .i64 0, .slice none 0 0] 46
          have x0 := cell_below BAq27 (p := ⟨w.heap.size, 0, none⟩) s0 z0
          have x1 := cell_below BAq27 (p := ⟨w.heap.size, 1, none⟩) s0 z1
          have h0 := cell_below BAq27 (p := ⟨h, 0, none⟩) sh zh0
          have h1 := cell_below BAq27 (p := ⟨h, 1, none⟩) sh zh1
          refine hK.out _ _ ?_ (fun hHeld => ?_)
          · (try dsimp only); exact ⟨x0, x1, h0, h1⟩
          clear hK K
          (try simp only [List.getElem_toArray, List.getElem_cons_zero, List.getElem_cons_succ]); (try simp only [Act.put]); (try simp only [List.setIfInBounds_toArray]); (try simp only [List.set_cons_succ]); (try simp only [List.set_cons_zero])
          refine wpAnyH_ready (rs := [5]) (by kernel_rfl) (by simp) ?_
          refine AllReadyH.cons (o := _) rfl (fun K hK => ?_) AllReadyH.nil
          go_simp
          refine (ATA1.out _ BAq27).mono ?_
          rintro e wq28 ⟨rfl, cq28⟩
          have Bq28 := BAq27.trans (cq28.mono BAq27.size)
          have x0 := cell_below Bq28 (p := ⟨w.heap.size, 0, none⟩) s0 z0
          have x1 := cell_below Bq28 (p := ⟨w.heap.size, 1, none⟩) s0 z1
          have h0 := cell_below Bq28 (p := ⟨h, 0, none⟩) sh zh0
          have h1 := cell_below Bq28 (p := ⟨h, 1, none⟩) sh zh1
          have Kq28 := KAq27.below cq28 KAq27.lt
          refine hK.out _ _ ?_ (fun hHeld => ?_)
          · (try dsimp only); exact ⟨x0, x1, h0, h1⟩
          clear hK K
          (try simp only [List.getElem_toArray, List.getElem_cons_zero, List.getElem_cons_succ]); (try simp only [Act.put]); (try simp only [List.setIfInBounds_toArray]); (try simp only [List.set_cons_succ]); (try simp only [List.set_cons_zero])
          refine wpAnyH_ready (rs := [9]) (by kernel_rfl) (by simp) ?_
          refine AllReadyH.cons (o := _) rfl (fun K hK => ?_) AllReadyH.nil
          go_simp
          refine (ATB1.out _ Bq28).mono ?_
          rintro e wq29 ⟨rfl, cq29⟩
          have Bq29 := Bq28.trans (cq29.mono Bq28.size)
          have x0 := cell_below Bq29 (p := ⟨w.heap.size, 0, none⟩) s0 z0
          have x1 := cell_below Bq29 (p := ⟨w.heap.size, 1, none⟩) s0 z1
          have h0 := cell_below Bq29 (p := ⟨h, 0, none⟩) sh zh0
          have h1 := cell_below Bq29 (p := ⟨h, 1, none⟩) sh zh1
          have Kq29 := Kq28.below cq29 Kq28.lt
          refine hK.out _ _ ?_ (fun hHeld => ?_)
          · (try dsimp only); exact ⟨x0, x1, h0, h1⟩
          clear hK K
          (try simp only [List.getElem_toArray, List.getElem_cons_zero, List.getElem_cons_succ]); (try simp only [Act.put]); (try simp only [List.setIfInBounds_toArray]); (try simp only [List.set_cons_succ]); (try simp only [List.set_cons_zero])
          refine wpAnyH_ready (rs := [10]) (by kernel_rfl) (by simp) ?_
          refine AllReadyH.cons (o := _) rfl (fun K hK => ?_) AllReadyH.nil
          go_simp
          refine (CC1.out _ Bq29).mono ?_
          rintro e w9 hG
          obtain ⟨m2, A2, n2, c2, x2, rfl, on9, kd9, on1⟩ := gives_de_one rfl hG
          clear hG
          have kk0 := only_blk on9 (KB.out.below Bq29 s0) (NB1.out _ (Nat.le_refl _) (Nat.le_succ _))
          have kk1 := only_blk on9 (KK1.out.below Bq29 s1) (NB1.out _ (Nat.le_succ _) (Nat.le_refl _))
          have kkh := only_blk on9 (KH.out.below Bq29 sh) (fun q => HAP.out (mem_bl.1 q))
          have x0 := kk0.cell 0
          have x1 := kk0.cell 1
          have h0 := kkh.cell 0
          have h1 := kkh.cell 1
          simp only [List.getElem?_cons_zero, List.getElem?_cons_succ] at x0 x1 h0 h1
          have lw9 := kk0.lt
          have lh9 := kkh.lt
          have ON9 := only_trans2 (HL.out.trans (Only.of_below Bq29 _)) on9 (fun y hy => (HY1.out y hy).imp id (fun q => by omega))
          have KD9 := (HKE.out.below Bq29 HL.out.size).trans kd9 (Nat.le_trans HL.out.size Bq29.size) EL.out (fun x e => (HY1.out x (mem_bl.2 e)).imp mem_bl.1 (fun q => by omega))
          have OW9 : OneD base (.slice A d.forks.length c) (w.heap.size + 2) (runF 2 k ⟨rv, rf⟩ (atP d a v 1) (atP d b v 1)) m2 A2 n2 c2 x2 w9 := oneD_via on1 (by have := s1; have := Bq29.size; omega) HY1.out
          have KH9 := only_blk on9 Kq29 (fun q => by have := (HO1.out.lt _ (mem_bl.1 q)).2; have := BW0.size; omega)
          have HY9 := oneD_far on1 Kq29.lt (fun q => by have := (HO1.out.lt _ (mem_bl.1 q)).2; have := BW0.size; omega)
          refine hK.out _ _ ?_ (fun hHeld => ?_)
          · (try dsimp only); exact ⟨x0, x1, h0, h1⟩
          clear hK K
          (try simp only [List.getElem_toArray, List.getElem_cons_zero, List.getElem_cons_succ]); (try simp only [Act.put]); (try simp only [List.setIfInBounds_toArray]); (try simp only [List.set_cons_succ]); (try simp only [List.set_cons_zero])
          refine wpAnyH_take (i := 11) (v := ?q30v) rfl (by kernel_rfl) (by kernel_rfl) (by kernel_rfl) (fun _ _ _ h => h) (Or.inl ⟨by kernel_rfl, ?q30h⟩) (by assumption) ?q30r
          case q30h => ((intro w hSw; (try dsimp only at hSw); go_simp) <;> with_reducible rfl)
          (try simp only [List.getElem_toArray, List.getElem_cons_zero, List.getElem_cons_succ]); (try simp only [Act.put]); (try simp only [List.setIfInBounds_toArray]); (try simp only [List.set_cons_succ]); (try simp only [List.set_cons_zero])
          refine wpAnyH_take (i := 12) (v := ?q31v) rfl (by kernel_rfl) (by kernel_rfl) (by kernel_rfl) (fun _ _ _ h => h) (Or.inl ⟨by kernel_rfl, ?q31h⟩) (by assumption) ?q31r
          case q31h => ((intro w hSw; (try dsimp only at hSw); go_simp) <;> with_reducible rfl)
          (try simp only [List.getElem_toArray, List.getElem_cons_zero, List.getElem_cons_succ]); (try simp only [Act.put]); (try simp only [List.setIfInBounds_toArray]); (try simp only [List.set_cons_succ]); (try simp only [List.set_cons_zero])
          refine wpAnyH_take (i := 13) (v := ?q32v) rfl (by kernel_rfl) (by kernel_rfl) (by kernel_rfl) (fun _ _ _ h => h) (Or.inl ⟨by kernel_rfl, ?q32h⟩) (by assumption) ?q32r
          case q32h => ((intro w hSw; (try dsimp only at hSw); go_simp) <;> with_reducible rfl)
          (try simp only [List.getElem_toArray, List.getElem_cons_zero, List.getElem_cons_succ]); (try simp only [Act.put]); (try simp only [List.setIfInBounds_toArray]); (try simp only [List.set_cons_succ]); (try simp only [List.set_cons_zero])
          have hc0 := KH9.cell 0
          have hc1 := KH9.cell 1
          have hf0 := KH9.frozen 0
          have hf1 := KH9.frozen 1
          simp only [List.getElem?_cons_zero, List.getElem?_cons_succ] at hc0 hc1
          refine wpAnyH_ready (rs := [15]) (by kernel_rfl) (by simp) ?_
          refine AllReadyH.cons (o := _) rfl (fun K hK => ?_) AllReadyH.nil
          go_simp
          refine hK.out _ _ ?_ (fun hHeld => ?_)
          · (try dsimp only)
            first
              | exact ⟨(half_set (by have := s1; have := BW0.size; omega) kk0 kk1 ON9 KD9 KH9 OW9 HY9).box.cell 0, (half_set (by have := s1; have := BW0.size; omega) kk0 kk1 ON9 KD9 KH9 OW9 HY9).box.cell 1, (two_far (by have := BW0.size; omega) kkh).cell 0, (two_far (by have := BW0.size; omega) kkh).cell 1⟩
          clear hK K
          (try simp only [List.getElem_toArray, List.getElem_cons_zero, List.getElem_cons_succ]); (try simp only [Act.put]); (try simp only [List.setIfInBounds_toArray]); (try simp only [List.set_cons_succ]); (try simp only [List.set_cons_zero])
          refine wpAnyH_take (i := 16) (v := ?q33v) rfl (by kernel_rfl) (by kernel_rfl) (by kernel_rfl) (fun _ _ _ h => h) (Or.inl ⟨by kernel_rfl, ?q33h⟩) (by assumption) ?q33r
          case q33h => ((intro w hSw; (try dsimp only at hSw); go_simp) <;> with_reducible rfl)
          (try simp only [List.getElem_toArray, List.getElem_cons_zero, List.getElem_cons_succ]); (try simp only [Act.put]); (try simp only [List.setIfInBounds_toArray]); (try simp only [List.set_cons_succ]); (try simp only [List.set_cons_zero])
          refine wpAnyH_done (by kernel_rfl) ?_ _
          go_wp2_with fail
          go_meet
          first
            | exact ⟨_, m2, A2, n2, c2, x2, rfl, rfl, Lib.hid (half_heap (half_set (by have := s1; have := BW0.size; omega) kk0 kk1 ON9 KD9 KH9 OW9 HY9) rfl rfl rfl rfl)⟩
      case rest =>
        obtain ⟨h2, m2, A2, n2, c2, x2, rfl, rfl, H2⟩ := hcut
        have kr := H2.out.res
        have kg := H2.out.one
        have j0 := kg.cell 0
        have j1 := kg.cell 1
        have u0 := kr.cell 0
        have u1 := kr.cell 1
        simp only [List.getElem?_cons_zero, List.getElem?_cons_succ] at j0 j1 u0 u1
        have HL2 := Lib.hid H2.out.only
        have HKE2 := Lib.hid H2.out.kept
        have KR := Lib.hid kr
        rcases H2.out.own with ⟨hx2, hr2⟩ | ⟨hx2, ex2, em2, en2, ho2, hy2⟩
        · subst hx2
          have HF : Hid ((runF 2 (k + 1) d a b).2 < 0) := Lib.hid (by rw [HR3.out]; unfold adF; rw [if_pos (.inr hr2)]; show (-1 : Int) < 0; decide)
          clear hr2 kr kg
          go_wp2_with fail
          refine (l8Add_neg m2 A2 n2 c2 ⟨v, rx, -1⟩ _ (.inr (by show (-1 : Int) < 0; decide))).mono ?_
          rintro e w7 ⟨rfl, c7⟩
          have kr7 := KR.out.below c7 KR.out.lt
          have u0 := kr7.cell 0
          have u1 := kr7.cell 1
          have uf0 := kr7.frozen 0
          have uf1 := kr7.frozen 1
          simp only [List.getElem?_cons_zero, List.getElem?_cons_succ] at u0 u1
          have KR7 := Lib.hid kr7
          clear kr7
          go_wp2
          have K2 := (KR7.out.set 0 (.int .i64 m2)).set 1 (.slice A2 n2 c2)
          have q8 := only_setD (only_setD (HL2.out.trans (Only.of_below c7 _)) (p := ⟨w.heap.size + 1, 0, none⟩) (.int .i64 m2) (Nat.le_succ _)) (p := ⟨w.heap.size + 1, 1, none⟩) (.slice A2 n2 c2) (Nat.le_succ _)
          have kd8 := ((HKE2.out.below c7 HL2.out.size).set (p := ⟨w.heap.size + 1, 0, none⟩) (.int .i64 m2) (Nat.le_succ _)).set (p := ⟨w.heap.size + 1, 1, none⟩) (.slice A2 n2 c2) (Nat.le_succ _)
          generalize (w7.setCell ⟨w.heap.size + 1, 0, none⟩ (.int .i64 m2)).setCell ⟨w.heap.size + 1, 1, none⟩ (.slice A2 n2 c2) = w8 at K2 q8 kd8 ⊢
          have r0 := K2.cell 0
          have r1 := K2.cell 1
          simp only [List.set_cons_zero, List.set_cons_succ, List.getElem?_cons_zero, List.getElem?_cons_succ] at r0 r1
          exact bodyPost_ret (v := .tuple #[.agg #[.int .i64 m2, .slice A2 n2 c2], .int .i64 (-1)]) (by simp [results, Try.results113, go_sem, r0, r1]) rfl (gives_de_no q8 kd8 HF.out _ _ _ _)
        · have hx20 := hx2
          rw [ex2] at hx20
          obtain ⟨E1, K2k, _, _⟩ := RAN.out hx20
          have EL2 := Lib.hid (Nat.le_trans EL.out E1.len)
          have few2 := K2k.few
          have HF := Lib.hid HR3.out
          clear E1 K2k hx20 kr kg RAN HR3
          generalize hR2 : runF 2 k ⟨rv, rf⟩ (atP d a v 1) (atP d b v 1) = R2 at *
          clear hR2
          obtain ⟨⟨sv, sf⟩, sx⟩ := R2
          dsimp only at *
          have ex3 := ex2.symm
          have em3 := em2.symm
          subst ex3
          subst em3
          subst en2
          have HY2 := Lib.hid hy2
          have LA := Lib.hid (l8Add_any ⟨sv, sf⟩ A2 c2 ⟨v, rx, sx⟩ base wc ho2 (Nat.le_trans hb HL2.out.size) few2 hx hx2)
          dsimp only at LA
          clear ho2 hy2
          go_wp2_with fail
          refine LA.out.mono ?_
          rintro e w7 hG
          obtain ⟨m3, A3, n3, c3, x3, rfl, on7, kd7, on1⟩ := gives_de_one rfl hG
          clear hG
          have kr7 := only_blk on7 KR.out (fun q => (HY2.out _ q).elim (NB.out _ (Nat.le_succ _)) (fun q => by omega))
          have u0 := kr7.cell 0
          have u1 := kr7.cell 1
          have uf0 := kr7.frozen 0
          have uf1 := kr7.frozen 1
          simp only [List.getElem?_cons_zero, List.getElem?_cons_succ] at u0 u1
          have KR7 := Lib.hid kr7
          have ON7 := Lib.hid (only_trans2 HL2.out on7 (fun y hy => (HY2.out y hy).imp id (fun q => by omega)))
          have KD7 := Lib.hid (HKE2.out.trans kd7 HL2.out.size EL2.out (fun x e => (HY2.out x (mem_bl.2 e)).imp mem_bl.1 (fun q => by omega)))
          have OD7 := Lib.hid (oneD_via (v := .slice A d.forks.length c) (L := w.heap.size) on1 HL2.out.size (fun y hy => (HY2.out y hy).imp id (fun q => by omega)))
          have APT : Hid (x3 = -1 ∨ (Value.slice A3 n3 c3).ownBlock ≠ some (w.heap.size + 1)) := Lib.hid (by
            rcases on1 with ⟨q, _⟩ | ⟨_, _, _, _, _, q⟩
            · exact .inl q
            · refine .inr fun e => ?_
              rcases q _ (mem_bl.2 e) with q | q
              · exact (HY2.out _ q).elim (NB.out _ (Nat.le_succ _)) (fun q => by omega)
              · have := KR.out.lt; omega)
          clear kr7 on7 kd7 on1
          go_wp2
          have K2 := (KR7.out.set 0 (.int .i64 m3)).set 1 (.slice A3 n3 c3)
          have q8 := only_setD (only_setD ON7.out (p := ⟨w.heap.size + 1, 0, none⟩) (.int .i64 m3) (Nat.le_succ _)) (p := ⟨w.heap.size + 1, 1, none⟩) (.slice A3 n3 c3) (Nat.le_succ _)
          have kd8 := (KD7.out.set (p := ⟨w.heap.size + 1, 0, none⟩) (.int .i64 m3) (Nat.le_succ _)).set (p := ⟨w.heap.size + 1, 1, none⟩) (.slice A3 n3 c3) (Nat.le_succ _)
          have OD8 : OneD base (.slice A d.forks.length c) w.heap.size (adF ⟨sv, sf⟩ ⟨v, rx, sx⟩) m3 A3 n3 c3 x3 ((w7.setCell ⟨w.heap.size + 1, 0, none⟩ (.int .i64 m3)).setCell ⟨w.heap.size + 1, 1, none⟩ (.slice A3 n3 c3)) := by
            rcases APT.out with q | q
            · rcases OD7.out with o | o
              · exact .inl o
              · omega
            · exact oneD_set (oneD_set OD7.out _ q) _ q
          generalize (w7.setCell ⟨w.heap.size + 1, 0, none⟩ (.int .i64 m3)).setCell ⟨w.heap.size + 1, 1, none⟩ (.slice A3 n3 c3) = w8 at K2 q8 kd8 OD8 ⊢
          have r0 := K2.cell 0
          have r1 := K2.cell 1
          simp only [List.set_cons_zero, List.set_cons_succ, List.getElem?_cons_zero, List.getElem?_cons_succ] at r0 r1
          exact bodyPost_ret (v := .tuple #[.agg #[.int .i64 m3, .slice A3 n3 c3], .int .i64 x3]) (by simp [results, Try.results113, go_sem, r0, r1]) rfl (by rw [HF.out]; exact de_of_one q8 kd8 OD8)
end Go.Proofs.Ytnpdeliaefjmlaa
