/- Diagrams: what is one, in the model. -/
import Derived.Test.YtnhjcokmajejcaaDoorDgW
namespace Go.Proofs.YtnhjcokmajejcaaDoor
open Go.RowKit
set_option maxRecDepth 100000

theorem l8Place_any (d : Dg) (A : Option Addr) (c : Nat) (x : Int) (w : World) (hn : d.forks.length ≤ 100000) :
    Calls Tryd.prog 47 #[.agg #[.int .i64 d.vars, .slice A d.forks.length c], .int .i64 x] w (GivesBool w (isP d x)) := by
  cases hp : isP d x
  · have hx := isP_no hp
    obtain ⟨m, fs⟩ := d
    dsimp only at *
    generalize fs.length = n at *
    clear hp
    go_enter Tryd.func47, Tryd.ntmps47
    go_wp2_with (first | (go_at_call 54; refine (l1In_no (by omega) _).mono ?_; rintro e w4 ⟨rfl, rfl⟩))
    go_ret
    exact ⟨rfl, below_alloc _ _⟩
  · have hx := isP_iff.1 hp
    obtain ⟨m, fs⟩ := d
    dsimp only at *
    generalize fs.length = n at *
    clear hp
    go_enter Tryd.func47, Tryd.ntmps47
    go_wp2_with (first | (go_at_call 54; refine (l1In_yes (by omega) _).mono ?_; rintro e w4 ⟨rfl, rfl⟩))
    go_ret
    exact ⟨rfl, below_alloc _ _⟩
theorem l8Var_any (d : Dg) (A : Option Addr) (n c : Nat) (x : Int) (w : World) (h : Mem.rd w w.heap.size [.slice A n c] d.forks) (hn : n ≤ 100000) (hx : x < 2 + n) :
    Calls Tryd.prog 87 #[.agg #[.int .i64 d.vars, .slice A n c], .int .i64 x] w (GivesInt w (varP d x)) := by
  unfold varP
  by_cases h2 : x < 2
  · rw [if_pos h2]
    obtain ⟨m, fs⟩ := d
    dsimp only at *
    clear h
    go_enter Tryd.func87, Tryd.ntmps87
    go_wp2
    go_ret
    exact ⟨rfl, below_alloc _ _⟩
  · rw [if_neg h2]
    obtain ⟨k, rfl⟩ : ∃ k : Nat, x = 2 + k := ⟨(x - 2).toNat, by omega⟩
    have hk : k < n := by omega
    obtain ⟨ad, rfl, hbl, d0, d1, d2⟩ := fk_at h hk
    have hbl' : (ad.add (k * 3)).block < w.heap.size := by rw [add_block]; exact hbl
    unfold fkA
    rw [show ((2 + (k : Int)) - 2).toNat = k by omega]
    obtain ⟨m, fs⟩ := d
    dsimp only at *
    generalize el fs k = G at *
    obtain ⟨a, b, z⟩ := G
    dsimp only at *
    have w1 : IntKind.i64.wrap (2 + (k : Int) - 2) = (k : Int) := by rw [show 2 + (k : Int) - 2 = k by omega]; exact IntWalk.i64_in _ (by omega)
    clear h
    go_enter Tryd.func87, Tryd.ntmps87
    go_wp2
    go_ret
    exact ⟨rfl, below_alloc _ _⟩
theorem fitK_dec (d : Dg) (f : Fk) (m : Int) : fitK d f m ↔ ((0 ≤ f.v ∧ f.v ≤ d.vars - 1) ∧ (0 ≤ f.lo ∧ f.lo ≤ m) ∧ (0 ≤ f.hi ∧ f.hi ≤ m)) ∧ f.v < varP d f.lo ∧ f.v < varP d f.hi := by
  constructor
  · rintro ⟨a, b, c, d, e, f, g, h⟩
    exact ⟨⟨⟨a, by omega⟩, ⟨c, d⟩, ⟨e, f⟩⟩, g, h⟩
  · rintro ⟨⟨⟨a, b⟩, ⟨c, d⟩, ⟨e, f⟩⟩, g, h⟩
    exact ⟨a, by omega, c, d, e, f, g, h⟩
noncomputable def fitX (d : Dg) (f : Fk) (m : Int) : Bool := @decide (fitK d f m) (Classical.propDecidable _)
theorem fitX_yes {d : Dg} {f : Fk} {m : Int} (h : fitK d f m) : fitX d f m = true := by unfold fitX; exact @decide_eq_true _ (Classical.propDecidable _) h
theorem fitX_no {d : Dg} {f : Fk} {m : Int} (h : ¬ fitK d f m) : fitX d f m = false := by unfold fitX; exact @decide_eq_false _ (Classical.propDecidable _) h
theorem fitX_iff {d : Dg} {f : Fk} {m : Int} : fitX d f m = true ↔ fitK d f m := by
  by_cases h : fitK d f m
  · simp [fitX_yes h, h]
  · simp [fitX_no h, h]

set_option maxRecDepth 100000 in
set_option maxHeartbeats 4000000 in
theorem l8Fork_any (d : Dg) (A : Option Addr) (n c : Nat) (f : Fk) (m : Int) (w : World) (h : Mem.rd w w.heap.size [.slice A n c] d.forks) (hn : n ≤ 100000) (hm : m ≤ n + 1) (hv0 : 0 ≤ d.vars) (hv1 : d.vars ≤ 12) :
    Calls Tryd.prog 76 #[.agg #[.int .i64 d.vars, .slice A n c], f.u, .int .i64 m] w (GivesBool w (fitX d f m)) := by
  have BX := Lib.hid (two_boxes w #[.int .i64 d.vars, .slice A n c] #[.int .i64 f.v, .int .i64 f.lo, .int .i64 f.hi] 35 108)
  have VL := Lib.hid (fun W (B : Below w.heap.size w W) (hx : f.lo < 2 + n) => l8Var_any d A n c f.lo W (Mem.rd_on h B) hn hx)
  have VH := Lib.hid (fun W (B : Below w.heap.size w W) (hx : f.hi < 2 + n) => l8Var_any d A n c f.hi W (Mem.rd_on h B) hn hx)
  have KD := fitK_dec d f m
  have W0 := Lib.hid ((below_alloc w (.cells #[.int .i64 d.vars, .slice A n c] 35)).alloc (by simp) (.cells #[.int .i64 f.v, .int .i64 f.lo, .int .i64 f.hi] 108))
  by_cases p1 : 0 ≤ f.v ∧ f.v ≤ d.vars - 1
  · by_cases p2 : 0 ≤ f.lo ∧ f.lo ≤ m
    · by_cases p3 : 0 ≤ f.hi ∧ f.hi ≤ m
      · have VL := Lib.hid (fun W B => VL.out W B (by omega))
        have VH := Lib.hid (fun W B => VH.out W B (by omega))
        by_cases p4 : f.v < varP d f.lo
        · by_cases p5 : f.v < varP d f.hi
          · rw [fitX_yes (KD.2 ⟨⟨p1, p2, p3⟩, p4, p5⟩)]
            clear KD h
            generalize varP d f.lo = V1 at *
            generalize varP d f.hi = V2 at *
            obtain ⟨v, fs⟩ := d
            obtain ⟨a, b, z⟩ := f
            dsimp only [Fk.u] at *
            have VLK := Lib.hid (VL.out _ W0.out.drew)
            have g4 : decide (a < V1) = true := decide_eq_true p4
            have g5 : decide (a < V2) = true := decide_eq_true p5
            go_enter Tryd.func76, Tryd.ntmps76
            go_wp2_with (first | (go_at_call 54; refine (l1In_yes (by omega) _).mono ?_; rintro e w4 ⟨rfl, rfl⟩))
            obtain ⟨_, k0, k1⟩ := BX.out _ (Below.refl _ _)
            have x0 := k0.cell 0
            have x1 := k0.cell 1
            have y0 := k1.cell 0
            have y1 := k1.cell 1
            have y2 := k1.cell 2
            simp only [List.getElem?_cons_zero, List.getElem?_cons_succ] at x0 x1 y0 y1 y2
            refine wp_region_held_drew (S := (fun w' => w'.cell? ⟨w.heap.size, 0, none⟩ = some (.int .i64 v) ∧ w'.cell? ⟨w.heap.size, 1, none⟩ = some (.slice A n c) ∧ w'.cell? ⟨w.heap.size + 1, 0, none⟩ = some (.int .i64 a) ∧ w'.cell? ⟨w.heap.size + 1, 1, none⟩ = some (.int .i64 b) ∧ w'.cell? ⟨w.heap.size + 1, 2, none⟩ = some (.int .i64 z))) (by kernel_rfl) ?_ (fun hHeld => ?_)
            · (try dsimp only); exact ⟨x0, x1, y0, y1, y2⟩
            refine wpAnyH_take (i := 0) (v := ?av0) rfl (by kernel_rfl) (by kernel_rfl) (by kernel_rfl) (fun _ _ _ h => h) (Or.inl ⟨by kernel_rfl, ?ah0⟩) (by assumption) ?ar0
            case ah0 => ((intro w hSw; (try dsimp only at hSw); go_simp) <;> with_reducible rfl)
            (try simp only [List.getElem_toArray, List.getElem_cons_zero]); (try simp only [Act.put]); (try simp only [List.setIfInBounds_toArray]); (try simp only [List.set_cons_succ]); (try simp only [List.set_cons_zero])
            refine wpAnyH_take (i := 1) (v := ?av1) rfl (by kernel_rfl) (by kernel_rfl) (by kernel_rfl) (fun _ _ _ h => h) (Or.inl ⟨by kernel_rfl, ?ah1⟩) (by assumption) ?ar1
            case ah1 => ((intro w hSw; (try dsimp only at hSw); go_simp) <;> with_reducible rfl)
            (try simp only [List.getElem_toArray, List.getElem_cons_zero, List.getElem_cons_succ]); (try simp only [Act.put]); (try simp only [List.setIfInBounds_toArray]); (try simp only [List.set_cons_succ]); (try simp only [List.set_cons_zero])
            refine wpAnyH_take (i := 2) (v := ?av2) rfl (by kernel_rfl) (by kernel_rfl) (by kernel_rfl) (fun _ _ _ h => h) (Or.inl ⟨by kernel_rfl, ?ah2⟩) (by assumption) ?ar2
            case ah2 => ((intro w hSw; (try dsimp only at hSw); go_simp) <;> with_reducible rfl)
            (try simp only [List.getElem_toArray, List.getElem_cons_zero, List.getElem_cons_succ]); (try simp only [Act.put]); (try simp only [List.setIfInBounds_toArray]); (try simp only [List.set_cons_succ]); (try simp only [List.set_cons_zero])
            refine wpAnyH_take (i := 4) (v := ?av4) rfl (by kernel_rfl) (by kernel_rfl) (by kernel_rfl) (fun _ _ _ h => h) (Or.inl ⟨by kernel_rfl, ?ah4⟩) (by assumption) ?ar4
            case ah4 => ((intro w hSw; (try dsimp only at hSw); go_simp) <;> with_reducible rfl)
            (try simp only [List.getElem_toArray, List.getElem_cons_zero, List.getElem_cons_succ]); (try simp only [Act.put]); (try simp only [List.setIfInBounds_toArray]); (try simp only [List.set_cons_succ]); (try simp only [List.set_cons_zero])
            refine wpAnyH_take (i := 5) (v := ?av5) rfl (by kernel_rfl) (by kernel_rfl) (by kernel_rfl) (fun _ _ _ h => h) (Or.inl ⟨by kernel_rfl, ?ah5⟩) (by assumption) ?ar5
            case ah5 => ((intro w hSw; (try dsimp only at hSw); go_simp) <;> with_reducible rfl)
            (try simp only [List.getElem_toArray, List.getElem_cons_zero, List.getElem_cons_succ]); (try simp only [Act.put]); (try simp only [List.setIfInBounds_toArray]); (try simp only [List.set_cons_succ]); (try simp only [List.set_cons_zero])
            refine wpAnyH_ready (rs := [3]) (by kernel_rfl) (by simp) ?_
            refine AllReadyH.cons (o := _) rfl (fun K hK => ?_) AllReadyH.nil
            go_simp
            refine (VLK.out).mono ?_
            rintro e w3 ⟨rfl, b3⟩
            have b3' : Below ((w.alloc (.cells #[.int .i64 v, .slice A n c] 35)).alloc (.cells #[.int .i64 a, .int .i64 b, .int .i64 z] 108)).heap.size ((w.alloc (.cells #[.int .i64 v, .slice A n c] 35)).alloc (.cells #[.int .i64 a, .int .i64 b, .int .i64 z] 108)) w3 := ⟨b3.os, b3.tape, b3.output, b3.size, b3.block⟩
            obtain ⟨B3, k0, k1⟩ := BX.out _ b3'
            have x0 := k0.cell 0
            have x1 := k0.cell 1
            have y0 := k1.cell 0
            have y1 := k1.cell 1
            have y2 := k1.cell 2
            simp only [List.getElem?_cons_zero, List.getElem?_cons_succ] at x0 x1 y0 y1 y2
            have VHK := Lib.hid (VH.out w3 B3)
            refine hK.out _ _ ?_ (fun hHeld => ?_)
            · (try dsimp only); exact ⟨x0, x1, y0, y1, y2⟩
            clear hK K
            (try simp only [List.getElem_toArray, List.getElem_cons_zero, List.getElem_cons_succ]); (try simp only [Act.put]); (try simp only [List.setIfInBounds_toArray]); (try simp only [List.set_cons_succ]); (try simp only [List.set_cons_zero])
            refine wpAnyH_take (i := 6) (v := ?av6) rfl (by kernel_rfl) (by kernel_rfl) (by kernel_rfl) (fun _ _ _ h => h) (Or.inl ⟨by kernel_rfl, ?ah6⟩) (by assumption) ?ar6
            case ah6 => ((intro w hSw; (try dsimp only at hSw); go_simp) <;> with_reducible rfl)
            (try simp only [List.getElem_toArray, List.getElem_cons_zero, List.getElem_cons_succ]); (try simp only [Act.put]); (try simp only [List.setIfInBounds_toArray]); (try simp only [List.set_cons_succ]); (try simp only [List.set_cons_zero])
            refine wpAnyH_take (i := 7) (v := ?av7) rfl (by kernel_rfl) (by kernel_rfl) (by kernel_rfl) (fun _ _ _ h => h) (Or.inl ⟨by kernel_rfl, ?ah7⟩) (by assumption) ?ar7
            case ah7 => ((intro w hSw; (try dsimp only at hSw); go_simp) <;> with_reducible rfl)
            (try simp only [List.getElem_toArray, List.getElem_cons_zero, List.getElem_cons_succ]); (try simp only [Act.put]); (try simp only [List.setIfInBounds_toArray]); (try simp only [List.set_cons_succ]); (try simp only [List.set_cons_zero])
            refine wpAnyH_take (i := 8) (v := ?av8) rfl (by kernel_rfl) (by kernel_rfl) (by kernel_rfl) (fun _ _ _ h => h) (Or.inl ⟨by kernel_rfl, ?ah8⟩) (by assumption) ?ar8
            case ah8 => ((intro w hSw; (try dsimp only at hSw); go_simp) <;> with_reducible rfl)
            (try simp only [List.getElem_toArray, List.getElem_cons_zero, List.getElem_cons_succ]); (try simp only [Act.put]); (try simp only [List.setIfInBounds_toArray]); (try simp only [List.set_cons_succ]); (try simp only [List.set_cons_zero])
            refine wpAnyH_take (i := 9) (v := ?av9) rfl (by kernel_rfl) (by kernel_rfl) (by kernel_rfl) (fun _ _ _ h => h) (Or.inl ⟨by kernel_rfl, ?ah9⟩) (by assumption) ?ar9
            case ah9 => ((intro w hSw; (try dsimp only at hSw); go_simp) <;> with_reducible rfl)
            (try simp only [List.getElem_toArray, List.getElem_cons_zero, List.getElem_cons_succ]); (try simp only [Act.put]); (try simp only [List.setIfInBounds_toArray]); (try simp only [List.set_cons_succ]); (try simp only [List.set_cons_zero])
            refine wpAnyH_take (i := 10) (v := ?av10) rfl (by kernel_rfl) (by kernel_rfl) (by kernel_rfl) (fun _ _ _ h => h) (Or.inl ⟨by kernel_rfl, ?ah10⟩) (by assumption) ?ar10
            case ah10 => ((intro w hSw; (try dsimp only at hSw); go_simp) <;> with_reducible rfl)
            (try simp only [List.getElem_toArray, List.getElem_cons_zero, List.getElem_cons_succ]); (try simp only [Act.put]); (try simp only [List.setIfInBounds_toArray]); (try simp only [List.set_cons_succ]); (try simp only [List.set_cons_zero])
            refine wpAnyH_take (i := 12) (v := ?av12) rfl (by kernel_rfl) (by kernel_rfl) (by kernel_rfl) (fun _ _ _ h => h) (Or.inl ⟨by kernel_rfl, ?ah12⟩) (by assumption) ?ar12
            case ah12 => ((intro w hSw; (try dsimp only at hSw); go_simp) <;> with_reducible rfl)
            (try simp only [List.getElem_toArray, List.getElem_cons_zero, List.getElem_cons_succ]); (try simp only [Act.put]); (try simp only [List.setIfInBounds_toArray]); (try simp only [List.set_cons_succ]); (try simp only [List.set_cons_zero])
            refine wpAnyH_take (i := 13) (v := ?av13) rfl (by kernel_rfl) (by kernel_rfl) (by kernel_rfl) (fun _ _ _ h => h) (Or.inl ⟨by kernel_rfl, ?ah13⟩) (by assumption) ?ar13
            case ah13 => ((intro w hSw; (try dsimp only at hSw); go_simp) <;> with_reducible rfl)
            (try simp only [List.getElem_toArray, List.getElem_cons_zero, List.getElem_cons_succ]); (try simp only [Act.put]); (try simp only [List.setIfInBounds_toArray]); (try simp only [List.set_cons_succ]); (try simp only [List.set_cons_zero])
            refine wpAnyH_ready (rs := [11]) (by kernel_rfl) (by simp) ?_
            refine AllReadyH.cons (o := _) rfl (fun K hK => ?_) AllReadyH.nil
            go_simp
            refine (VHK.out).mono ?_
            rintro e w5 ⟨rfl, b5⟩
            have b5' := b3'.trans (b5.mono b3'.size)
            obtain ⟨B5, k0, k1⟩ := BX.out _ b5'
            have x0 := k0.cell 0
            have x1 := k0.cell 1
            have y0 := k1.cell 0
            have y1 := k1.cell 1
            have y2 := k1.cell 2
            simp only [List.getElem?_cons_zero, List.getElem?_cons_succ] at x0 x1 y0 y1 y2
            refine hK.out _ _ ?_ (fun hHeld => ?_)
            · (try dsimp only); exact ⟨x0, x1, y0, y1, y2⟩
            clear hK K
            (try simp only [List.getElem_toArray, List.getElem_cons_zero, List.getElem_cons_succ]); (try simp only [Act.put]); (try simp only [List.setIfInBounds_toArray]); (try simp only [List.set_cons_succ]); (try simp only [List.set_cons_zero])
            refine wpAnyH_take (i := 14) (v := ?av14) rfl (by kernel_rfl) (by kernel_rfl) (by kernel_rfl) (fun _ _ _ h => h) (Or.inl ⟨by kernel_rfl, ?ah14⟩) (by assumption) ?ar14
            case ah14 => ((intro w hSw; (try dsimp only at hSw); go_simp) <;> with_reducible rfl)
            (try simp only [List.getElem_toArray, List.getElem_cons_zero, List.getElem_cons_succ]); (try simp only [Act.put]); (try simp only [List.setIfInBounds_toArray]); (try simp only [List.set_cons_succ]); (try simp only [List.set_cons_zero])
            refine wpAnyH_take (i := 15) (v := ?av15) rfl (by kernel_rfl) (by kernel_rfl) (by kernel_rfl) (fun _ _ _ h => h) (Or.inl ⟨by kernel_rfl, ?ah15⟩) (by assumption) ?ar15
            case ah15 => ((intro w hSw; (try dsimp only at hSw); go_simp) <;> with_reducible rfl)
            (try simp only [List.getElem_toArray, List.getElem_cons_zero, List.getElem_cons_succ]); (try simp only [Act.put]); (try simp only [List.setIfInBounds_toArray]); (try simp only [List.set_cons_succ]); (try simp only [List.set_cons_zero])
            refine wpAnyH_take (i := 16) (v := ?av16) rfl (by kernel_rfl) (by kernel_rfl) (by kernel_rfl) (fun _ _ _ h => h) (Or.inl ⟨by kernel_rfl, ?ah16⟩) (by assumption) ?ar16
            case ah16 => ((intro w hSw; (try dsimp only at hSw); go_simp) <;> with_reducible rfl)
            (try simp only [List.getElem_toArray, List.getElem_cons_zero, List.getElem_cons_succ]); (try simp only [Act.put]); (try simp only [List.setIfInBounds_toArray]); (try simp only [List.set_cons_succ]); (try simp only [List.set_cons_zero])
            refine wpAnyH_done (by kernel_rfl) ?_ _
            go_wp2
            go_ret
            exact ⟨rfl, B5⟩
          · rw [fitX_no (fun q => p5 ((KD.1 q).2.2))]
            clear KD h
            generalize varP d f.lo = V1 at *
            generalize varP d f.hi = V2 at *
            obtain ⟨v, fs⟩ := d
            obtain ⟨a, b, z⟩ := f
            dsimp only [Fk.u] at *
            have VLK := Lib.hid (VL.out _ W0.out.drew)
            have g4 : decide (a < V1) = true := decide_eq_true p4
            have g5 : decide (a < V2) = false := decide_eq_false p5
            go_enter Tryd.func76, Tryd.ntmps76
            go_wp2_with (first | (go_at_call 54; refine (l1In_yes (by omega) _).mono ?_; rintro e w4 ⟨rfl, rfl⟩))
            obtain ⟨_, k0, k1⟩ := BX.out _ (Below.refl _ _)
            have x0 := k0.cell 0
            have x1 := k0.cell 1
            have y0 := k1.cell 0
            have y1 := k1.cell 1
            have y2 := k1.cell 2
            simp only [List.getElem?_cons_zero, List.getElem?_cons_succ] at x0 x1 y0 y1 y2
            refine wp_region_held_drew (S := (fun w' => w'.cell? ⟨w.heap.size, 0, none⟩ = some (.int .i64 v) ∧ w'.cell? ⟨w.heap.size, 1, none⟩ = some (.slice A n c) ∧ w'.cell? ⟨w.heap.size + 1, 0, none⟩ = some (.int .i64 a) ∧ w'.cell? ⟨w.heap.size + 1, 1, none⟩ = some (.int .i64 b) ∧ w'.cell? ⟨w.heap.size + 1, 2, none⟩ = some (.int .i64 z))) (by kernel_rfl) ?_ (fun hHeld => ?_)
            · (try dsimp only); exact ⟨x0, x1, y0, y1, y2⟩
            refine wpAnyH_take (i := 0) (v := ?bv0) rfl (by kernel_rfl) (by kernel_rfl) (by kernel_rfl) (fun _ _ _ h => h) (Or.inl ⟨by kernel_rfl, ?bh0⟩) (by assumption) ?br0
            case bh0 => ((intro w hSw; (try dsimp only at hSw); go_simp) <;> with_reducible rfl)
            (try simp only [List.getElem_toArray, List.getElem_cons_zero]); (try simp only [Act.put]); (try simp only [List.setIfInBounds_toArray]); (try simp only [List.set_cons_succ]); (try simp only [List.set_cons_zero])
            refine wpAnyH_take (i := 1) (v := ?bv1) rfl (by kernel_rfl) (by kernel_rfl) (by kernel_rfl) (fun _ _ _ h => h) (Or.inl ⟨by kernel_rfl, ?bh1⟩) (by assumption) ?br1
            case bh1 => ((intro w hSw; (try dsimp only at hSw); go_simp) <;> with_reducible rfl)
            (try simp only [List.getElem_toArray, List.getElem_cons_zero, List.getElem_cons_succ]); (try simp only [Act.put]); (try simp only [List.setIfInBounds_toArray]); (try simp only [List.set_cons_succ]); (try simp only [List.set_cons_zero])
            refine wpAnyH_take (i := 2) (v := ?bv2) rfl (by kernel_rfl) (by kernel_rfl) (by kernel_rfl) (fun _ _ _ h => h) (Or.inl ⟨by kernel_rfl, ?bh2⟩) (by assumption) ?br2
            case bh2 => ((intro w hSw; (try dsimp only at hSw); go_simp) <;> with_reducible rfl)
            (try simp only [List.getElem_toArray, List.getElem_cons_zero, List.getElem_cons_succ]); (try simp only [Act.put]); (try simp only [List.setIfInBounds_toArray]); (try simp only [List.set_cons_succ]); (try simp only [List.set_cons_zero])
            refine wpAnyH_take (i := 4) (v := ?bv4) rfl (by kernel_rfl) (by kernel_rfl) (by kernel_rfl) (fun _ _ _ h => h) (Or.inl ⟨by kernel_rfl, ?bh4⟩) (by assumption) ?br4
            case bh4 => ((intro w hSw; (try dsimp only at hSw); go_simp) <;> with_reducible rfl)
            (try simp only [List.getElem_toArray, List.getElem_cons_zero, List.getElem_cons_succ]); (try simp only [Act.put]); (try simp only [List.setIfInBounds_toArray]); (try simp only [List.set_cons_succ]); (try simp only [List.set_cons_zero])
            refine wpAnyH_take (i := 5) (v := ?bv5) rfl (by kernel_rfl) (by kernel_rfl) (by kernel_rfl) (fun _ _ _ h => h) (Or.inl ⟨by kernel_rfl, ?bh5⟩) (by assumption) ?br5
            case bh5 => ((intro w hSw; (try dsimp only at hSw); go_simp) <;> with_reducible rfl)
            (try simp only [List.getElem_toArray, List.getElem_cons_zero, List.getElem_cons_succ]); (try simp only [Act.put]); (try simp only [List.setIfInBounds_toArray]); (try simp only [List.set_cons_succ]); (try simp only [List.set_cons_zero])
            refine wpAnyH_ready (rs := [3]) (by kernel_rfl) (by simp) ?_
            refine AllReadyH.cons (o := _) rfl (fun K hK => ?_) AllReadyH.nil
            go_simp
            refine (VLK.out).mono ?_
            rintro e w3 ⟨rfl, b3⟩
            have b3' : Below ((w.alloc (.cells #[.int .i64 v, .slice A n c] 35)).alloc (.cells #[.int .i64 a, .int .i64 b, .int .i64 z] 108)).heap.size ((w.alloc (.cells #[.int .i64 v, .slice A n c] 35)).alloc (.cells #[.int .i64 a, .int .i64 b, .int .i64 z] 108)) w3 := ⟨b3.os, b3.tape, b3.output, b3.size, b3.block⟩
            obtain ⟨B3, k0, k1⟩ := BX.out _ b3'
            have x0 := k0.cell 0
            have x1 := k0.cell 1
            have y0 := k1.cell 0
            have y1 := k1.cell 1
            have y2 := k1.cell 2
            simp only [List.getElem?_cons_zero, List.getElem?_cons_succ] at x0 x1 y0 y1 y2
            have VHK := Lib.hid (VH.out w3 B3)
            refine hK.out _ _ ?_ (fun hHeld => ?_)
            · (try dsimp only); exact ⟨x0, x1, y0, y1, y2⟩
            clear hK K
            (try simp only [List.getElem_toArray, List.getElem_cons_zero, List.getElem_cons_succ]); (try simp only [Act.put]); (try simp only [List.setIfInBounds_toArray]); (try simp only [List.set_cons_succ]); (try simp only [List.set_cons_zero])
            refine wpAnyH_take (i := 6) (v := ?bv6) rfl (by kernel_rfl) (by kernel_rfl) (by kernel_rfl) (fun _ _ _ h => h) (Or.inl ⟨by kernel_rfl, ?bh6⟩) (by assumption) ?br6
            case bh6 => ((intro w hSw; (try dsimp only at hSw); go_simp) <;> with_reducible rfl)
            (try simp only [List.getElem_toArray, List.getElem_cons_zero, List.getElem_cons_succ]); (try simp only [Act.put]); (try simp only [List.setIfInBounds_toArray]); (try simp only [List.set_cons_succ]); (try simp only [List.set_cons_zero])
            refine wpAnyH_take (i := 7) (v := ?bv7) rfl (by kernel_rfl) (by kernel_rfl) (by kernel_rfl) (fun _ _ _ h => h) (Or.inl ⟨by kernel_rfl, ?bh7⟩) (by assumption) ?br7
            case bh7 => ((intro w hSw; (try dsimp only at hSw); go_simp) <;> with_reducible rfl)
            (try simp only [List.getElem_toArray, List.getElem_cons_zero, List.getElem_cons_succ]); (try simp only [Act.put]); (try simp only [List.setIfInBounds_toArray]); (try simp only [List.set_cons_succ]); (try simp only [List.set_cons_zero])
            refine wpAnyH_take (i := 8) (v := ?bv8) rfl (by kernel_rfl) (by kernel_rfl) (by kernel_rfl) (fun _ _ _ h => h) (Or.inl ⟨by kernel_rfl, ?bh8⟩) (by assumption) ?br8
            case bh8 => ((intro w hSw; (try dsimp only at hSw); go_simp) <;> with_reducible rfl)
            (try simp only [List.getElem_toArray, List.getElem_cons_zero, List.getElem_cons_succ]); (try simp only [Act.put]); (try simp only [List.setIfInBounds_toArray]); (try simp only [List.set_cons_succ]); (try simp only [List.set_cons_zero])
            refine wpAnyH_take (i := 9) (v := ?bv9) rfl (by kernel_rfl) (by kernel_rfl) (by kernel_rfl) (fun _ _ _ h => h) (Or.inl ⟨by kernel_rfl, ?bh9⟩) (by assumption) ?br9
            case bh9 => ((intro w hSw; (try dsimp only at hSw); go_simp) <;> with_reducible rfl)
            (try simp only [List.getElem_toArray, List.getElem_cons_zero, List.getElem_cons_succ]); (try simp only [Act.put]); (try simp only [List.setIfInBounds_toArray]); (try simp only [List.set_cons_succ]); (try simp only [List.set_cons_zero])
            refine wpAnyH_take (i := 10) (v := ?bv10) rfl (by kernel_rfl) (by kernel_rfl) (by kernel_rfl) (fun _ _ _ h => h) (Or.inl ⟨by kernel_rfl, ?bh10⟩) (by assumption) ?br10
            case bh10 => ((intro w hSw; (try dsimp only at hSw); go_simp) <;> with_reducible rfl)
            (try simp only [List.getElem_toArray, List.getElem_cons_zero, List.getElem_cons_succ]); (try simp only [Act.put]); (try simp only [List.setIfInBounds_toArray]); (try simp only [List.set_cons_succ]); (try simp only [List.set_cons_zero])
            refine wpAnyH_take (i := 12) (v := ?bv12) rfl (by kernel_rfl) (by kernel_rfl) (by kernel_rfl) (fun _ _ _ h => h) (Or.inl ⟨by kernel_rfl, ?bh12⟩) (by assumption) ?br12
            case bh12 => ((intro w hSw; (try dsimp only at hSw); go_simp) <;> with_reducible rfl)
            (try simp only [List.getElem_toArray, List.getElem_cons_zero, List.getElem_cons_succ]); (try simp only [Act.put]); (try simp only [List.setIfInBounds_toArray]); (try simp only [List.set_cons_succ]); (try simp only [List.set_cons_zero])
            refine wpAnyH_take (i := 13) (v := ?bv13) rfl (by kernel_rfl) (by kernel_rfl) (by kernel_rfl) (fun _ _ _ h => h) (Or.inl ⟨by kernel_rfl, ?bh13⟩) (by assumption) ?br13
            case bh13 => ((intro w hSw; (try dsimp only at hSw); go_simp) <;> with_reducible rfl)
            (try simp only [List.getElem_toArray, List.getElem_cons_zero, List.getElem_cons_succ]); (try simp only [Act.put]); (try simp only [List.setIfInBounds_toArray]); (try simp only [List.set_cons_succ]); (try simp only [List.set_cons_zero])
            refine wpAnyH_ready (rs := [11]) (by kernel_rfl) (by simp) ?_
            refine AllReadyH.cons (o := _) rfl (fun K hK => ?_) AllReadyH.nil
            go_simp
            refine (VHK.out).mono ?_
            rintro e w5 ⟨rfl, b5⟩
            have b5' := b3'.trans (b5.mono b3'.size)
            obtain ⟨B5, k0, k1⟩ := BX.out _ b5'
            have x0 := k0.cell 0
            have x1 := k0.cell 1
            have y0 := k1.cell 0
            have y1 := k1.cell 1
            have y2 := k1.cell 2
            simp only [List.getElem?_cons_zero, List.getElem?_cons_succ] at x0 x1 y0 y1 y2
            refine hK.out _ _ ?_ (fun hHeld => ?_)
            · (try dsimp only); exact ⟨x0, x1, y0, y1, y2⟩
            clear hK K
            (try simp only [List.getElem_toArray, List.getElem_cons_zero, List.getElem_cons_succ]); (try simp only [Act.put]); (try simp only [List.setIfInBounds_toArray]); (try simp only [List.set_cons_succ]); (try simp only [List.set_cons_zero])
            refine wpAnyH_take (i := 14) (v := ?bv14) rfl (by kernel_rfl) (by kernel_rfl) (by kernel_rfl) (fun _ _ _ h => h) (Or.inl ⟨by kernel_rfl, ?bh14⟩) (by assumption) ?br14
            case bh14 => ((intro w hSw; (try dsimp only at hSw); go_simp) <;> with_reducible rfl)
            (try simp only [List.getElem_toArray, List.getElem_cons_zero, List.getElem_cons_succ]); (try simp only [Act.put]); (try simp only [List.setIfInBounds_toArray]); (try simp only [List.set_cons_succ]); (try simp only [List.set_cons_zero])
            refine wpAnyH_take (i := 15) (v := ?bv15) rfl (by kernel_rfl) (by kernel_rfl) (by kernel_rfl) (fun _ _ _ h => h) (Or.inl ⟨by kernel_rfl, ?bh15⟩) (by assumption) ?br15
            case bh15 => ((intro w hSw; (try dsimp only at hSw); go_simp) <;> with_reducible rfl)
            (try simp only [List.getElem_toArray, List.getElem_cons_zero, List.getElem_cons_succ]); (try simp only [Act.put]); (try simp only [List.setIfInBounds_toArray]); (try simp only [List.set_cons_succ]); (try simp only [List.set_cons_zero])
            refine wpAnyH_take (i := 16) (v := ?bv16) rfl (by kernel_rfl) (by kernel_rfl) (by kernel_rfl) (fun _ _ _ h => h) (Or.inl ⟨by kernel_rfl, ?bh16⟩) (by assumption) ?br16
            case bh16 => ((intro w hSw; (try dsimp only at hSw); go_simp) <;> with_reducible rfl)
            (try simp only [List.getElem_toArray, List.getElem_cons_zero, List.getElem_cons_succ]); (try simp only [Act.put]); (try simp only [List.setIfInBounds_toArray]); (try simp only [List.set_cons_succ]); (try simp only [List.set_cons_zero])
            refine wpAnyH_done (by kernel_rfl) ?_ _
            go_wp2
            go_ret
            exact ⟨rfl, B5⟩
        · rw [fitX_no (fun q => p4 ((KD.1 q).2.1))]
          clear KD h
          generalize varP d f.lo = V1 at *
          generalize varP d f.hi = V2 at *
          obtain ⟨v, fs⟩ := d
          obtain ⟨a, b, z⟩ := f
          dsimp only [Fk.u] at *
          have VLK := Lib.hid (VL.out _ W0.out.drew)
          have g4 : decide (a < V1) = false := decide_eq_false p4
          go_enter Tryd.func76, Tryd.ntmps76
          go_wp2_with (first | (go_at_call 54; refine (l1In_yes (by omega) _).mono ?_; rintro e w4 ⟨rfl, rfl⟩))
          obtain ⟨_, k0, k1⟩ := BX.out _ (Below.refl _ _)
          have x0 := k0.cell 0
          have x1 := k0.cell 1
          have y0 := k1.cell 0
          have y1 := k1.cell 1
          have y2 := k1.cell 2
          simp only [List.getElem?_cons_zero, List.getElem?_cons_succ] at x0 x1 y0 y1 y2
          refine wp_region_held_drew (S := (fun w' => w'.cell? ⟨w.heap.size, 0, none⟩ = some (.int .i64 v) ∧ w'.cell? ⟨w.heap.size, 1, none⟩ = some (.slice A n c) ∧ w'.cell? ⟨w.heap.size + 1, 0, none⟩ = some (.int .i64 a) ∧ w'.cell? ⟨w.heap.size + 1, 1, none⟩ = some (.int .i64 b) ∧ w'.cell? ⟨w.heap.size + 1, 2, none⟩ = some (.int .i64 z))) (by kernel_rfl) ?_ (fun hHeld => ?_)
          · (try dsimp only); exact ⟨x0, x1, y0, y1, y2⟩
          refine wpAnyH_take (i := 0) (v := ?cv0) rfl (by kernel_rfl) (by kernel_rfl) (by kernel_rfl) (fun _ _ _ h => h) (Or.inl ⟨by kernel_rfl, ?ch0⟩) (by assumption) ?cr0
          case ch0 => ((intro w hSw; (try dsimp only at hSw); go_simp) <;> with_reducible rfl)
          (try simp only [List.getElem_toArray, List.getElem_cons_zero]); (try simp only [Act.put]); (try simp only [List.setIfInBounds_toArray]); (try simp only [List.set_cons_succ]); (try simp only [List.set_cons_zero])
          refine wpAnyH_take (i := 1) (v := ?cv1) rfl (by kernel_rfl) (by kernel_rfl) (by kernel_rfl) (fun _ _ _ h => h) (Or.inl ⟨by kernel_rfl, ?ch1⟩) (by assumption) ?cr1
          case ch1 => ((intro w hSw; (try dsimp only at hSw); go_simp) <;> with_reducible rfl)
          (try simp only [List.getElem_toArray, List.getElem_cons_zero, List.getElem_cons_succ]); (try simp only [Act.put]); (try simp only [List.setIfInBounds_toArray]); (try simp only [List.set_cons_succ]); (try simp only [List.set_cons_zero])
          refine wpAnyH_take (i := 2) (v := ?cv2) rfl (by kernel_rfl) (by kernel_rfl) (by kernel_rfl) (fun _ _ _ h => h) (Or.inl ⟨by kernel_rfl, ?ch2⟩) (by assumption) ?cr2
          case ch2 => ((intro w hSw; (try dsimp only at hSw); go_simp) <;> with_reducible rfl)
          (try simp only [List.getElem_toArray, List.getElem_cons_zero, List.getElem_cons_succ]); (try simp only [Act.put]); (try simp only [List.setIfInBounds_toArray]); (try simp only [List.set_cons_succ]); (try simp only [List.set_cons_zero])
          refine wpAnyH_take (i := 4) (v := ?cv4) rfl (by kernel_rfl) (by kernel_rfl) (by kernel_rfl) (fun _ _ _ h => h) (Or.inl ⟨by kernel_rfl, ?ch4⟩) (by assumption) ?cr4
          case ch4 => ((intro w hSw; (try dsimp only at hSw); go_simp) <;> with_reducible rfl)
          (try simp only [List.getElem_toArray, List.getElem_cons_zero, List.getElem_cons_succ]); (try simp only [Act.put]); (try simp only [List.setIfInBounds_toArray]); (try simp only [List.set_cons_succ]); (try simp only [List.set_cons_zero])
          refine wpAnyH_take (i := 5) (v := ?cv5) rfl (by kernel_rfl) (by kernel_rfl) (by kernel_rfl) (fun _ _ _ h => h) (Or.inl ⟨by kernel_rfl, ?ch5⟩) (by assumption) ?cr5
          case ch5 => ((intro w hSw; (try dsimp only at hSw); go_simp) <;> with_reducible rfl)
          (try simp only [List.getElem_toArray, List.getElem_cons_zero, List.getElem_cons_succ]); (try simp only [Act.put]); (try simp only [List.setIfInBounds_toArray]); (try simp only [List.set_cons_succ]); (try simp only [List.set_cons_zero])
          refine wpAnyH_ready (rs := [3]) (by kernel_rfl) (by simp) ?_
          refine AllReadyH.cons (o := _) rfl (fun K hK => ?_) AllReadyH.nil
          go_simp
          refine (VLK.out).mono ?_
          rintro e w3 ⟨rfl, b3⟩
          have b3' : Below ((w.alloc (.cells #[.int .i64 v, .slice A n c] 35)).alloc (.cells #[.int .i64 a, .int .i64 b, .int .i64 z] 108)).heap.size ((w.alloc (.cells #[.int .i64 v, .slice A n c] 35)).alloc (.cells #[.int .i64 a, .int .i64 b, .int .i64 z] 108)) w3 := ⟨b3.os, b3.tape, b3.output, b3.size, b3.block⟩
          obtain ⟨B3, k0, k1⟩ := BX.out _ b3'
          have x0 := k0.cell 0
          have x1 := k0.cell 1
          have y0 := k1.cell 0
          have y1 := k1.cell 1
          have y2 := k1.cell 2
          simp only [List.getElem?_cons_zero, List.getElem?_cons_succ] at x0 x1 y0 y1 y2
          refine hK.out _ _ ?_ (fun hHeld => ?_)
          · (try dsimp only); exact ⟨x0, x1, y0, y1, y2⟩
          clear hK K
          (try simp only [List.getElem_toArray, List.getElem_cons_zero, List.getElem_cons_succ]); (try simp only [Act.put]); (try simp only [List.setIfInBounds_toArray]); (try simp only [List.set_cons_succ]); (try simp only [List.set_cons_zero])
          refine wpAnyH_take (i := 6) (v := ?cv6) rfl (by kernel_rfl) (by kernel_rfl) (by kernel_rfl) (fun _ _ _ h => h) (Or.inl ⟨by kernel_rfl, ?ch6⟩) (by assumption) ?cr6
          case ch6 => ((intro w hSw; (try dsimp only at hSw); go_simp) <;> with_reducible rfl)
          (try simp only [List.getElem_toArray, List.getElem_cons_zero, List.getElem_cons_succ]); (try simp only [Act.put]); (try simp only [List.setIfInBounds_toArray]); (try simp only [List.set_cons_succ]); (try simp only [List.set_cons_zero])
          refine wpAnyH_take (i := 7) (v := ?cv7) rfl (by kernel_rfl) (by kernel_rfl) (by kernel_rfl) (fun _ _ _ h => h) (Or.inl ⟨by kernel_rfl, ?ch7⟩) (by assumption) ?cr7
          case ch7 => ((intro w hSw; (try dsimp only at hSw); go_simp) <;> with_reducible rfl)
          (try simp only [List.getElem_toArray, List.getElem_cons_zero, List.getElem_cons_succ]); (try simp only [Act.put]); (try simp only [List.setIfInBounds_toArray]); (try simp only [List.set_cons_succ]); (try simp only [List.set_cons_zero])
          refine wpAnyH_take (i := 8) (v := undef) rfl (by kernel_rfl) (by kernel_rfl) (by kernel_rfl) (fun _ _ _ h => h) (Or.inr ⟨by kernel_rfl, rfl⟩) (by assumption) ?_
          (try simp only [List.getElem_toArray, List.getElem_cons_zero, List.getElem_cons_succ]); (try simp only [Act.put]); (try simp only [List.setIfInBounds_toArray]); (try simp only [List.set_cons_succ]); (try simp only [List.set_cons_zero])
          refine wpAnyH_take (i := 9) (v := undef) rfl (by kernel_rfl) (by kernel_rfl) (by kernel_rfl) (fun _ _ _ h => h) (Or.inr ⟨by kernel_rfl, rfl⟩) (by assumption) ?_
          (try simp only [List.getElem_toArray, List.getElem_cons_zero, List.getElem_cons_succ]); (try simp only [Act.put]); (try simp only [List.setIfInBounds_toArray]); (try simp only [List.set_cons_succ]); (try simp only [List.set_cons_zero])
          refine wpAnyH_take (i := 10) (v := undef) rfl (by kernel_rfl) (by kernel_rfl) (by kernel_rfl) (fun _ _ _ h => h) (Or.inr ⟨by kernel_rfl, rfl⟩) (by assumption) ?_
          (try simp only [List.getElem_toArray, List.getElem_cons_zero, List.getElem_cons_succ]); (try simp only [Act.put]); (try simp only [List.setIfInBounds_toArray]); (try simp only [List.set_cons_succ]); (try simp only [List.set_cons_zero])
          refine wpAnyH_take (i := 11) (v := undef) rfl (by kernel_rfl) (by kernel_rfl) (by kernel_rfl) (fun _ _ _ h => h) (Or.inr ⟨by kernel_rfl, rfl⟩) (by assumption) ?_
          (try simp only [List.getElem_toArray, List.getElem_cons_zero, List.getElem_cons_succ]); (try simp only [Act.put]); (try simp only [List.setIfInBounds_toArray]); (try simp only [List.set_cons_succ]); (try simp only [List.set_cons_zero])
          refine wpAnyH_take (i := 12) (v := undef) rfl (by kernel_rfl) (by kernel_rfl) (by kernel_rfl) (fun _ _ _ h => h) (Or.inr ⟨by kernel_rfl, rfl⟩) (by assumption) ?_
          (try simp only [List.getElem_toArray, List.getElem_cons_zero, List.getElem_cons_succ]); (try simp only [Act.put]); (try simp only [List.setIfInBounds_toArray]); (try simp only [List.set_cons_succ]); (try simp only [List.set_cons_zero])
          refine wpAnyH_take (i := 13) (v := undef) rfl (by kernel_rfl) (by kernel_rfl) (by kernel_rfl) (fun _ _ _ h => h) (Or.inr ⟨by kernel_rfl, rfl⟩) (by assumption) ?_
          (try simp only [List.getElem_toArray, List.getElem_cons_zero, List.getElem_cons_succ]); (try simp only [Act.put]); (try simp only [List.setIfInBounds_toArray]); (try simp only [List.set_cons_succ]); (try simp only [List.set_cons_zero])
          refine wpAnyH_take (i := 14) (v := undef) rfl (by kernel_rfl) (by kernel_rfl) (by kernel_rfl) (fun _ _ _ h => h) (Or.inr ⟨by kernel_rfl, rfl⟩) (by assumption) ?_
          (try simp only [List.getElem_toArray, List.getElem_cons_zero, List.getElem_cons_succ]); (try simp only [Act.put]); (try simp only [List.setIfInBounds_toArray]); (try simp only [List.set_cons_succ]); (try simp only [List.set_cons_zero])
          refine wpAnyH_take (i := 15) (v := ?cv15) rfl (by kernel_rfl) (by kernel_rfl) (by kernel_rfl) (fun _ _ _ h => h) (Or.inl ⟨by kernel_rfl, ?ch15⟩) (by assumption) ?cr15
          case ch15 => ((intro w hSw; (try dsimp only at hSw); go_simp) <;> with_reducible rfl)
          (try simp only [List.getElem_toArray, List.getElem_cons_zero, List.getElem_cons_succ]); (try simp only [Act.put]); (try simp only [List.setIfInBounds_toArray]); (try simp only [List.set_cons_succ]); (try simp only [List.set_cons_zero])
          refine wpAnyH_take (i := 16) (v := ?cv16) rfl (by kernel_rfl) (by kernel_rfl) (by kernel_rfl) (fun _ _ _ h => h) (Or.inl ⟨by kernel_rfl, ?ch16⟩) (by assumption) ?cr16
          case ch16 => ((intro w hSw; (try dsimp only at hSw); go_simp) <;> with_reducible rfl)
          (try simp only [List.getElem_toArray, List.getElem_cons_zero, List.getElem_cons_succ]); (try simp only [Act.put]); (try simp only [List.setIfInBounds_toArray]); (try simp only [List.set_cons_succ]); (try simp only [List.set_cons_zero])
          refine wpAnyH_done (by kernel_rfl) ?_ _
          go_wp2
          go_ret
          exact ⟨rfl, B3⟩
      · rw [fitX_no (fun q => p3 (KD.1 q).1.2.2)]
        clear KD h VL VH
        obtain ⟨v, fs⟩ := d
        obtain ⟨a, b, z⟩ := f
        dsimp only [Fk.u] at *
        go_enter Tryd.func76, Tryd.ntmps76
        go_wp2_with (first | (go_at_call 54; first | (refine (l1In_yes (by omega) _).mono ?_; rintro e w4 ⟨rfl, rfl⟩) | (refine (l1In_no (by omega) _).mono ?_; rintro e w4 ⟨rfl, rfl⟩)))
        go_ret
        exact ⟨rfl, W0.out⟩
    · rw [fitX_no (fun q => p2 (KD.1 q).1.2.1)]
      clear KD h VL VH
      obtain ⟨v, fs⟩ := d
      obtain ⟨a, b, z⟩ := f
      dsimp only [Fk.u] at *
      go_enter Tryd.func76, Tryd.ntmps76
      go_wp2_with (first | (go_at_call 54; first | (refine (l1In_yes (by omega) _).mono ?_; rintro e w4 ⟨rfl, rfl⟩) | (refine (l1In_no (by omega) _).mono ?_; rintro e w4 ⟨rfl, rfl⟩)))
      go_ret
      exact ⟨rfl, W0.out⟩
  · rw [fitX_no (fun q => p1 (KD.1 q).1.1)]
    clear KD h VL VH
    obtain ⟨v, fs⟩ := d
    obtain ⟨a, b, z⟩ := f
    dsimp only [Fk.u] at *
    go_enter Tryd.func76, Tryd.ntmps76
    go_wp2_with (first | (go_at_call 54; first | (refine (l1In_yes (by omega) _).mono ?_; rintro e w4 ⟨rfl, rfl⟩) | (refine (l1In_no (by omega) _).mono ?_; rintro e w4 ⟨rfl, rfl⟩)))
    go_ret
    exact ⟨rfl, W0.out⟩
end Go.Proofs.YtnhjcokmajejcaaDoor
