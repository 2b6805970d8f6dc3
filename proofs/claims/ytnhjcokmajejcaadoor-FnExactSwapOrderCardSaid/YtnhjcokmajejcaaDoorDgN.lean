/- Diagrams: a fork is added, in the program. -/
import Derived.Test.YtnhjcokmajejcaaDoorDgM
import Derived.BigQuiet
namespace Go.Proofs.YtnhjcokmajejcaaDoor
open Go.RowKit
set_option maxRecDepth 100000

/-- What is known when a maker has added a fork: the place x, the diagram d' and whether it is full now. -/
structure Added (d : Dg) (f : Fk) (full : Bool) (x : Int) (d' : Dg) (full' : Bool) : Prop where
  ext : Ext d d'
  isP : isP d' x = true
  old : full = true → d' = d ∧ full' = true
  new : full' = false → full = false ∧ adF d f = (d', x)
  no : full' = true → full = true ∨ (adF d f).2 < 0
def GivesAd (base g : Nat) (d : Dg) (f : Fk) (full : Bool) (m : Nat) (w : World) (e : Ending) (w' : World) : Prop :=
  ∃ x d' full', e = .returned (.int .i64 x) ∧ MkD w' base g d' full' m ∧ Below base w w' ∧ Added d f full x d' full' ∧ Frame g w w'
theorem mkD_snoc {w : World} {base g : Nat} {v : Int} {fs : List Fk} {f : Fk} {full : Bool} {m : Nat} {A : Option Addr} {cc bp cp br cr : Nat} {Dp Dr : DataW Unit} (ok : Dg.Ok ⟨v, fs ++ [f]⟩) (fu : full = true → 2000 ≤ (fs ++ [f]).length)
    (k : Blk w g 122 [.int .i64 v, .slice A (fs.length + 1) cc, .map (some bp), .map (some br), .bool full])
    (o : w.ownsRow base 108 3 (.slice A (fs.length + 1) cc) (fs.length + 1) (fl (fs ++ [f]))) (mp : w.ownsMap Tryd.prog 108 (plainElem Tryd.prog 3) bp cp Dp) (hc : cp ≤ fs.length + 1) (F : FitP Dp ⟨v, fs ++ [f]⟩)
    (mr : w.ownsMap Tryd.prog 145 (plainElem Tryd.prog 3) br cr Dr) (hr : cr ≤ m) (R : FitR Dr ⟨v, fs ++ [f]⟩ full) (hd : base ≤ g ∧ base ≤ bp ∧ base ≤ br ∧ g ≠ bp ∧ g ≠ br ∧ bp ≠ br)
    (hrow : ∀ b ∈ bl (.slice A (fs.length + 1) cc), b ≠ g ∧ b ≠ bp ∧ b ≠ br) : MkD w base g ⟨v, fs ++ [f]⟩ full m := by
  have e : (fs ++ [f]).length = fs.length + 1 := by rw [List.length_append]; rfl
  refine ⟨ok, fu, A, cc, bp, cp, Dp, br, cr, Dr, ?_, ?_, mp, ?_, F, mr, hr, R, hd, ?_⟩
  · dsimp only; rw [e]; exact k
  · dsimp only; rw [e]; exact o
  · dsimp only; rw [e]; exact hc
  · dsimp only; rw [e]; exact hrow

set_option maxRecDepth 100000 in
set_option maxHeartbeats 4000000 in
theorem addD_any (d : Dg) (f : Fk) (full : Bool) (m base g : Nat) (w : World) (hM : MkD w base g d full m) (hb : base ≤ w.heap.size) (hfit : full = false → fitK d f (d.forks.length + 1)) (hlo : isP d f.lo = true) (sv : sml f.v) (sl : sml f.lo) (sh : sml f.hi) :
    Calls Tryd.prog 86 #[.pointer (some ⟨g, 0, none⟩), f.u] w (GivesAd base g d f full m w) := by
  by_cases e : f.lo = f.hi
  · have P : Added d f full f.lo d full := ⟨Ext.refl d, hlo, fun h => ⟨rfl, h⟩, fun h => ⟨h, by unfold adF; rw [if_neg (by have := sl.1; have := sh.1; omega), if_pos e]⟩, fun h => .inl h⟩
    have HM := Lib.hid (mkD_below hM (below_alloc w (.cells #[.int .i64 f.v, .int .i64 f.lo, .int .i64 f.hi] 108)))
    have HP := Lib.hid P
    have HFR := Lib.hid (Frame.of_below (below_alloc w (.cells #[.int .i64 f.v, .int .i64 f.lo, .int .i64 f.hi] 108)) (mkD_lt hM).1)
    obtain ⟨x, y, z⟩ := f
    dsimp only [Fk.u] at *
    have g1 : (y == z) = true := by simp [e]
    clear hM P hfit hlo e
    go_enter Tryd.func86, Tryd.ntmps86
    go_wp2
    go_ret
    exact ⟨y, d, full, rfl, HM.out, (below_alloc w _).mono hb, HP.out, HFR.out⟩
  · obtain ⟨kl, hk⟩ := fk_key sv sl sh
    have HE := Lib.hid hM
    obtain ⟨A, cc, bp, cp, Dp, br, cr, Dr, kg, ho, hp, c1, f1, hr, c2, f2, hd, hrow⟩ := hM.mem
    have lg := kg.lt
    have lp := hp.lt
    have lr := hr.lt
    have hp1 := mp_below hp (below_alloc w (.cells #[.int .i64 f.v, .int .i64 f.lo, .int .i64 f.hi] 108))
    obtain ⟨v, hv, HL⟩ := mp_look hp1 fk_law Tryd.underlying119 hk
    rw [f1.has f kl hk] at HL
    have LK := fun k => HL ((w.alloc (.cells #[.int .i64 f.v, .int .i64 f.lo, .int .i64 f.hi] 108)).drewN k) rfl
    have g1 : (f.lo == f.hi) = false := by simp [e]
    have z0 := kg.cell 0
    have z1 := kg.cell 1
    have z2 := kg.cell 2
    simp only [List.getElem?_cons_zero, List.getElem?_cons_succ] at z0 z1 z2
    cases q : fkB d.forks f with
    | some i =>
      have hi := (fkTo_some q).1
      rw [q] at LK
      have ev := f1.at_ f kl i hk q
      rw [hv] at ev
      injection ev with ev
      injection ev with _ ev
      have P : Added d f full (2 + i) d full := ⟨Ext.refl d, isP_iff.2 (by omega), fun h => ⟨rfl, h⟩, fun h => ⟨h, by unfold adF; rw [if_neg (by have := sl.1; have := sh.1; omega), if_neg e, q]; dsimp only; rw [show (i : Int) + 2 = 2 + i by omega]⟩, fun h => .inl h⟩
      have HP := Lib.hid P
      have HM := Lib.hid (fun k => mkD_of_heap (w' := (w.alloc (.cells #[.int .i64 f.v, .int .i64 f.lo, .int .i64 f.hi] 108)).drewN k) (mkD_below hM (below_alloc w (.cells #[.int .i64 f.v, .int .i64 f.lo, .int .i64 f.hi] 108))) rfl)
      simp only [Option.isSome_some] at LK
      subst ev
      obtain ⟨x, y, z⟩ := f
      obtain ⟨vs, fs⟩ := d
      dsimp only [Fk.u] at *
      clear hM P HL HE hfit hlo kg ho hp c1 f1 hr c2 f2 hd hrow hp1 hv q hk
      go_enter Tryd.func86, Tryd.ntmps86
      go_wp2
      go_quiet (fail)
      go_wp2
      go_ret
      have BB := below_alloc w (.cells #[.int .i64 x, .int .i64 y, .int .i64 z] 108)
      exact ⟨_, _, full, rfl, HM.out _, ⟨BB.os, BB.tape, BB.output, BB.size, fun b hb' => BB.block b (by omega)⟩, HP.out, frame_of_heap (Frame.of_below BB lg) rfl⟩
    | none =>
      rw [q] at LK
      simp only [Option.isSome_none] at LK
      by_cases hl : d.forks.length = 2000
      · have P : Added d f full 0 d true := ⟨Ext.refl d, isP_iff.2 (by omega), fun h => ⟨rfl, rfl⟩, fun h => (by cases h), fun h => .inr (by
          unfold adF; rw [if_neg (by have := sl.1; have := sh.1; omega), if_neg e, q]; dsimp only; rw [if_pos (by omega)]; show (-1 : Int) < 0; decide)⟩
        have HP := Lib.hid P
        have HM : Hid (∀ W : World, W.heap = (w.alloc (.cells #[.int .i64 f.v, .int .i64 f.lo, .int .i64 f.hi] 108)).heap → MkD (W.setCell ⟨g, 4, none⟩ (.bool true)) base g d true m) := Lib.hid (fun (W : World) hW => by
          have B := below_alloc w (.cells #[.int .i64 f.v, .int .i64 f.lo, .int .i64 f.hi] 108)
          refine ⟨hM.ok, fun _ => Nat.le_of_eq hl.symm, A, cc, bp, cp, Dp, br, cr, Dr, ((blk_of_heap (kg.below B lg) hW).set 4 (.bool true)), own_away (own_of_heap (own_below ho B) hW) _ (fun e => (hrow g (mem_bl.2 e)).1 rfl), (mp_of_heap (mp_below hp B) hW).setCell (fun e => hd.2.2.2.1 e.symm) _, c1, f1, (mp_of_heap (mp_below hr B) hW).setCell (fun e => hd.2.2.2.2.1 e.symm) _, c2, fitR_full f2, hd, hrow⟩)
        have hbg := hd.1
        have HFR : Hid (∀ W : World, W.heap = (w.alloc (.cells #[.int .i64 f.v, .int .i64 f.lo, .int .i64 f.hi] 108)).heap → Frame g w (W.setCell ⟨g, 4, none⟩ (.bool true))) := Lib.hid (fun (W : World) hW => by
          have B := below_alloc w (.cells #[.int .i64 f.v, .int .i64 f.lo, .int .i64 f.hi] 108)
          refine frame_of kg ((blk_of_heap (kg.below B lg) hW).set 4 (.bool true)) (by rw [World.size_setCell, hW]; exact B.size) (fun b hb1 hb2 _ _ _ => ?_) (fun b _ e => e)
          rw [setCell_heap _ _ _ (show b ≠ g from hb2), hW]
          exact B.block b hb1)
        have hl2 : ((d.forks.length : Int) == 2000) = true := by simp [hl]
        have z4 := kg.cell 4
        have fz4 := kg.frozen 4
        simp only [List.getElem?_cons_zero, List.getElem?_cons_succ] at z4
        obtain ⟨x, y, z⟩ := f
        obtain ⟨vs, fs⟩ := d
        dsimp only [Fk.u] at *
        clear hM P HL HE hfit hlo kg ho hp c1 f1 hr c2 f2 hd hrow hp1 hv q hk
        go_enter Tryd.func86, Tryd.ntmps86
        go_wp2
        go_quiet (fail)
        go_wp2
        go_ret
        have BB := below_alloc w (.cells #[.int .i64 x, .int .i64 y, .int .i64 z] 108)
        have B2 : Below base w ((w.alloc (.cells #[.int .i64 x, .int .i64 y, .int .i64 z] 108)).drewN nq) := ⟨BB.os, BB.tape, BB.output, BB.size, fun b hb' => BB.block b (by omega)⟩
        exact ⟨_, _, true, rfl, HM.out _ rfl, B2.setCell hbg _, HP.out, HFR.out _ rfl⟩
      · have hl3 : d.forks.length < 2000 := by have := hM.ok.few; omega
        have fu : full = false := by
          cases full with
          | false => rfl
          | true => have := hM.full_ rfl; omega
        subst fu
        have fit := hfit rfl
        have ok' := ok_snoc hM.ok fit e q hl3
        have P : Added d f false (2 + d.forks.length) ⟨d.vars, d.forks ++ [f]⟩ false := ⟨ext_snoc d f, isP_iff.2 (by dsimp only; rw [List.length_append]; simp only [List.length_cons, List.length_nil]; omega), fun h => (by cases h), fun _ => ⟨rfl, by
          unfold adF; rw [if_neg (by have := sl.1; have := sh.1; omega), if_neg e, q]; dsimp only; rw [if_neg (by omega), show (d.forks.length : Int) + 2 = 2 + d.forks.length by omega]⟩, fun h => (by cases h)⟩
        have HP := Lib.hid P
        have HOK := Lib.hid ok'
        have SZ := Lib.hid (fun W => size_d d A cc W (by omega))
        have HR := Lib.hid (fitR_ext hM.ok (ext_snoc d f) f2 false)
        have FN := Lib.hid (fitP_new f1 q hk)
        have hl2 : ((d.forks.length : Int) == 2000) = false := by simp; omega
        obtain ⟨p1, p2, p3, p4, p5, p6⟩ := hd
        have BX := Lib.hid (fun W (B : Below ((w.alloc (.cells #[.int .i64 f.v, .int .i64 f.lo, .int .i64 f.hi] 108)).drewN 0).heap.size (w.alloc (.cells #[.int .i64 f.v, .int .i64 f.lo, .int .i64 f.hi] 108)) W) => (⟨below_call B, (fk_blk w f).below B (by show w.heap.size < (w.alloc _).heap.size; simp)⟩ : Below w.heap.size w W ∧ Blk W w.heap.size 108 f.cs))
        have HKG := Lib.hid kg
        have HO := Lib.hid ho
        have HMP := Lib.hid hp
        have HMR := Lib.hid hr
        have HROW := Lib.hid hrow
        have HKL := Lib.hid hk
        have HSM := Lib.hid (show sml (2 + (d.forks.length : Int)) from ⟨by omega, by omega⟩)
        have hlen : d.forks.length < 1000000000 := by omega
        obtain ⟨x, y, z⟩ := f
        obtain ⟨vs, fs⟩ := d
        dsimp only [Fk.u, Fk.cs] at *
        clear hM P HL HE hfit hlo kg ho hp f1 hr f2 hrow hp1 hv q hk fit ok' e
        go_enter Tryd.func86, Tryd.ntmps86
        go_wp2
        go_quiet (fail)
        go_wp2_with fail
        refine (SZ.out _).mono ?_
        rintro e w1 ⟨rfl, b1⟩
        obtain ⟨B1, kb1⟩ := BX.out w1 ⟨b1.os, b1.tape, b1.output, b1.size, b1.block⟩
        have k1 := HKG.out.below B1 lg
        have z1 := k1.cell 1
        have f1 := k1.frozen 1
        have x0 := kb1.cell 0
        have x1 := kb1.cell 1
        have x2 := kb1.cell 2
        simp only [List.getElem?_cons_zero, List.getElem?_cons_succ] at z1 x0 x1 x2
        have O1 := Lib.hid (own_below HO.out B1)
        have M1 := Lib.hid (mp_below HMP.out B1)
        have R1 := Lib.hid (mp_below HMR.out B1)
        have K1 := Lib.hid k1
        have KB := Lib.hid kb1
        have lb := B1.size
        have NR := Lib.hid (fun b (hb : b ∈ bl (.slice A fs.length cc)) => HROW.out b hb)
        have NL := Lib.hid (fun b (e : (Value.slice A fs.length cc).ownBlock = some b) => HO.out.lt b e)
        have ng : (Value.slice A fs.length cc).ownBlock ≠ some g := fun e => (HROW.out g (mem_bl.2 e)).1 rfl
        have nm : (Value.slice A fs.length cc).ownBlock ≠ some bp := fun e => (HROW.out bp (mem_bl.2 e)).2.1 rfl
        have nr : (Value.slice A fs.length cc).ownBlock ≠ some br := fun e => (HROW.out br (mem_bl.2 e)).2.2 rfl
        have nw : (Value.slice A fs.length cc).ownBlock ≠ some w.heap.size := fun e => by have := (HO.out.lt _ e).2; omega
        have NG := Lib.hid (⟨ng, nm, nr, nw⟩ : _ ∧ _ ∧ _ ∧ _)
        clear ng nm nr nw
        have lg1 := K1.out.lt
        have hsz : base ≤ w1.heap.size := Nat.le_trans hb lb
        have lp1 : bp < w1.heap.size := by omega
        have lr1 : br < w1.heap.size := by omega
        clear k1 kb1
        go_wp2
        go_region_law (first
          | (refine step_app_fk (by rfl) _ _ (by rfl) base _ fs.length fs ⟨x, y, z⟩ w1.heap.size (by rfl) (own_of_heap (O1.out.alloc _) rfl) (by rfl) (blk_of_heap (ci_blk w1 _ _) rfl) hlen (by simp; omega) ?_; intro A8 c8 w8 ho8 hg8 hl8
             have k8 := blk_on hg8 (K1.out.alloc _) rfl NG.out.1
             have z8 := k8.cell 1
             have f8 := k8.frozen 1
             simp only [List.getElem?_cons_zero, List.getElem?_cons_succ] at z8))
        all_goals
          have n8 : ∀ b, b < w1.heap.size → (Value.slice A fs.length cc).ownBlock ≠ some b → (Value.slice A8 (fs.length + 1) c8).ownBlock ≠ some b := fun b hb1 hb2 e => by
            rcases hl8 with q | q
            · rw [q] at e; exact hb2 e
            · rw [q] at e
              injection e with e
              first
                | (have q2 : (w1.alloc (.cells #[.int .i64 x, .int .i64 y, .int .i64 z] 108)).heap.size = b := e; rw [World.size_alloc] at q2; omega)
          have k9 := k8.set 1 (.slice A8 (fs.length + 1) c8)
          have o9 := own_away ho8 (p := ⟨g, 1, none⟩) (.slice A8 (fs.length + 1) c8) (n8 g lg1 NG.out.1)
          have m9 := (mp_on hg8 (M1.out.alloc _) rfl NG.out.2.1).setCell (a := ⟨g, 1, none⟩) (fun e => p4 e.symm) (.slice A8 (fs.length + 1) c8)
          have r9 := (mp_on hg8 (R1.out.alloc _) rfl NG.out.2.2.1).setCell (a := ⟨g, 1, none⟩) (fun e => p5 e.symm) (.slice A8 (fs.length + 1) c8)
          have kb9 : Blk (w8.setCell ⟨g, 1, none⟩ (.slice A8 (fs.length + 1) c8)) w.heap.size _ _ := (setCell_heap _ _ _ (by show w.heap.size ≠ g; omega)).trans (blk_on hg8 (KB.out.alloc _) rfl NG.out.2.2.2)
          have b9 : Below base w (w8.setCell ⟨g, 1, none⟩ (.slice A8 (fs.length + 1) c8)) := by
            refine Below.setCell ?_ p1 _
            have q := (B1.mono hb).alloc (Nat.le_trans hb lb) (.cells #[.int .i64 x, .int .i64 y, .int .i64 z] 108)
            have q2 : ∀ b, (Value.slice A fs.length cc).ownBlock = some b → base ≤ b := fun b e => (NL.out b e).1
            first
              | exact q.grown hg8 (by rw [World.size_alloc]; omega) q2
              | exact q.drew.grown hg8 (by show base ≤ (w1.alloc _).heap.size; rw [World.size_alloc]; omega) q2
          have rr9 : ∀ b ∈ bl (.slice A8 (fs.length + 1) c8), b ≠ g ∧ b ≠ bp ∧ b ≠ br := fun b hb1 => by
            refine ⟨fun e => ?_, fun e => ?_, fun e => ?_⟩
            · subst e; exact n8 _ lg1 NG.out.1 (mem_bl.1 hb1)
            · subst e; exact n8 _ lp1 NG.out.2.1 (mem_bl.1 hb1)
            · subst e; exact n8 _ lr1 NG.out.2.2.1 (mem_bl.1 hb1)
          have fr9 : ∀ b, b < w.heap.size → b ≠ g → (Value.slice A fs.length cc).ownBlock ≠ some b → (w8.setCell ⟨g, 1, none⟩ (.slice A8 (fs.length + 1) c8)).heap[b]? = w.heap[b]? := fun b hb1 hb2 hb3 => by
            rw [setCell_heap _ _ _ (show b ≠ g from hb2)]
            have q := hg8.block b (by first | (rw [World.size_alloc]; omega) | (show b < (w1.alloc _).heap.size; rw [World.size_alloc]; omega)) (fun q => hb3 (by first | exact q | exact q.symm))
            refine q.trans ?_
            exact (Below.heap_alloc w1 _ b (by omega)).trans (B1.block b hb1)
          have rr8 : ∀ b, b < w.heap.size → (Value.slice A8 (fs.length + 1) c8).ownBlock = some b → (Value.slice A fs.length cc).ownBlock = some b := fun b hb1 e => by
            rcases hl8 with q | q
            · rw [q] at e; exact e
            · rw [q] at e
              injection e with e
              have q2 : (w1.alloc (.cells #[.int .i64 x, .int .i64 y, .int .i64 z] 108)).heap.size = b := e
              rw [World.size_alloc] at q2
              omega
          have FR9 := Lib.hid fr9
          have RR8 := Lib.hid rr8
          clear k8 z8 f8 n8 fr9 rr8
          generalize w8.setCell ⟨g, 1, none⟩ (.slice A8 (fs.length + 1) c8) = w9 at k9 o9 m9 r9 kb9 b9 FR9 ⊢
          have x90 := kb9.cell 0
          have x91 := kb9.cell 1
          have x92 := kb9.cell 2
          have z2 := k9.cell 2
          simp only [List.set_cons_zero, List.set_cons_succ, List.getElem?_cons_zero, List.getElem?_cons_succ] at x90 x91 x92 z2 k9
          have K9 := Lib.hid k9
          have O9 := Lib.hid o9
          have M9 := Lib.hid m9
          have R9 := Lib.hid r9
          have B9 := Lib.hid b9
          have RR9 := Lib.hid rr9
          have UP := Lib.hid (fun (W : World) (e : W.heap = w9.heap) => (mp_of_heap M9.out e).update fk_law Tryd.underlying119 (by unfold maxLen; omega) HKL.out (plainElem_int Tryd.underlying3 (a := 2 + fs.length) (int_wf HSM.out.1 HSM.out.2)))
          clear k9 o9 m9 r9 b9 rr9
          obtain ⟨w10, hrun, hm10, hg10⟩ := UP.out w9.drew rfl
          go_wp2
          go_region_law (fail)
          all_goals
            go_wp2
            go_ret
            have nb : ∀ b, b ≠ bp → some bp ≠ some b := fun b h e => by injection e with e; exact h e.symm
            refine ⟨2 + fs.length, ⟨vs, fs ++ [⟨x, y, z⟩]⟩, false, rfl, mkD_snoc HOK.out (fun h => (by cases h)) (blk_on hg10 K9.out rfl (nb _ p4)) (rw_on hg10 O9.out rfl (fun e => (RR9.out bp (mem_bl.2 e)).2.1 rfl)) hm10 (by omega) FN.out (mp_on hg10 R9.out rfl (nb _ (fun e => p6 e.symm))) c2 HR.out ⟨p1, p2, p3, p4, p5, p6⟩ RR9.out, ?_, HP.out, frame_of HKG.out (blk_on hg10 K9.out rfl (nb _ p4)) (Nat.le_trans B9.out.size hg10.size) (fun b hb1 hb2 hb3 hb4 hb5 => (hg10.block b (Nat.lt_of_lt_of_le hb1 B9.out.size) (fun q => (nb b hb3) (by first | exact q | exact q.symm))).trans (FR9.out b hb1 hb2 hb5)) RR8.out⟩
            have q9 : Below base w w9.drew := ⟨B9.out.os, B9.out.tape, B9.out.output, B9.out.size, B9.out.block⟩
            exact q9.grown hg10 (Nat.le_trans hb B9.out.size) (fun b e => by injection e with e; omega)
end Go.Proofs.YtnhjcokmajejcaaDoor
