/- Diagrams: a maker of a diagram that is given, and what is one, in the program. -/
import Derived.Test.YtnhjcokmajejcaaDoorDgN
namespace Go.Proofs.YtnhjcokmajejcaaDoor
open Go.RowKit
set_option maxRecDepth 100000

theorem take_len {fs : List Fk} {k : Nat} (h : k ≤ fs.length) : (fs.take k).length = k := by rw [List.length_take]; omega
theorem el_take {fs : List Fk} {k j : Nat} (h : j < k) : el (fs.take k) j = el fs j := by unfold el; rw [List.getElem?_take_of_lt h]
theorem ext_take (v : Int) (fs : List Fk) (k : Nat) : Ext ⟨v, fs.take k⟩ ⟨v, fs⟩ := ⟨rfl, fs.drop k, (List.take_append_drop k fs).symm⟩
theorem ok_take {v : Int} {fs : List Fk} {k : Nat} (h : Dg.Ok ⟨v, fs⟩) (hk : k < fs.length) :
    fitK ⟨v, fs.take k⟩ (el fs k) (k + 1) ∧ (el fs k).lo ≠ (el fs k).hi ∧ fkB (fs.take k) (el fs k) = none := by
  have l := take_len (Nat.le_of_lt hk)
  refine ⟨(h.fork k hk).back (ext_take v fs k) (by dsimp only; rw [l]; exact Int.le_refl _), h.apart k hk, fkTo_none fun j hj => ?_⟩
  rw [l] at hj
  rw [el_take hj]
  exact h.one j k hj hk
theorem adF_own {d : Dg} {f : Fk} (hf : fitK d f (d.forks.length + 1)) (hl : d.forks.length < 2000) :
    (f.lo ≠ f.hi ∧ fkB d.forks f = none ∧ adF d f = (⟨d.vars, d.forks ++ [f]⟩, (d.forks.length : Int) + 2)) ∨ ((f.lo = f.hi ∨ fkB d.forks f ≠ none) ∧ (adF d f).2 < d.forks.length + 2 ∧ 0 ≤ (adF d f).2) := by
  have l0 := hf.l0
  have l1 := hf.l1
  have h0 := hf.h0
  unfold adF
  rw [if_neg (by omega)]
  by_cases e : f.lo = f.hi
  · rw [if_pos e]
    exact .inr ⟨.inl e, by dsimp only; omega, l0⟩
  · rw [if_neg e]
    cases q : fkB d.forks f with
    | some i =>
      have := (fkTo_some q).1
      exact .inr ⟨.inr (by simp), by dsimp only; omega, by dsimp only; omega⟩
    | none =>
      dsimp only
      rw [if_neg (by omega)]
      exact .inl ⟨e, rfl, rfl⟩
theorem fitK.sml {d : Dg} {f : Fk} {m : Int} (h : fitK d f m) (hm : m ≤ 100000) (hv : d.vars ≤ 12) : sml f.v ∧ sml f.lo ∧ sml f.hi := by
  have := h.v0
  have := h.v1
  have := h.l0
  have := h.l1
  have := h.h0
  have := h.h1
  exact ⟨⟨by omega, by omega⟩, ⟨by omega, by omega⟩, ⟨by omega, by omega⟩⟩

/-- All of these are places. -/
def areP (d : Dg) (l : List Int) : Bool := l.all (isP d)
theorem areP_no {d : Dg} {l : List Int} {k : Nat} (hk : k < l.length) (h : isP d (ix l k) = false) : areP d l = false := by
  cases q : areP d l
  · rfl
  · have := List.all_eq_true.1 q (ix l k) (by rw [ix_lt hk]; exact List.getElem_mem hk)
    rw [h] at this; cases this
theorem areP_yes {d : Dg} {l : List Int} (h : ∀ k, k < l.length → isP d (ix l k) = true) : areP d l = true := by
  unfold areP
  rw [List.all_eq_true]
  intro x hx
  obtain ⟨j, hj, rfl⟩ := List.getElem_of_mem hx
  have := h j hj
  rwa [ix_lt hj] at this
/-- The call gives a maker, or none. -/
def GivesDM (d : Dg) (l : List Int) (w : World) (e : Ending) (w' : World) : Prop :=
  ((dgB d && areP d l) = false ∧ e = .returned (.tuple #[.pointer none, .bool false]) ∧ Below w.heap.size w w') ∨
    ((dgB d && areP d l) = true ∧ ∃ g, e = .returned (.tuple #[.pointer (some ⟨g, 0, none⟩), .bool true]) ∧ MkD w' w.heap.size g d false 0 ∧ Below w.heap.size w w')
theorem gives_dm_no {d : Dg} {l : List Int} {w w' : World} (h : ¬ d.Ok) (b : Below w.heap.size w w') : GivesDM d l w (.returned (.tuple #[.pointer none, .bool false])) w' := .inl ⟨by rw [dgB_no h]; rfl, rfl, b⟩

theorem added_own {d D : Dg} {f : Fk} {x X : Int} {d' : Dg} {full' : Bool} (P : Added d f false x d' full') (h : adF d f = (D, X)) (hX : 0 ≤ X) : x = X ∧ d' = D ∧ full' = false := by
  cases full' with
  | true =>
    rcases P.no rfl with q | q
    · cases q
    · rw [h] at q; dsimp only at q; omega
  | false =>
    have q := (P.new rfl).2
    rw [h] at q
    injection q with q1 q2
    exact ⟨q2.symm, q1.symm, rfl⟩

set_option maxRecDepth 100000 in
set_option maxHeartbeats 4000000 in
theorem makerD_any (d : Dg) (l : List Int) (A : Option Addr) (n c : Nat) (A2 : Option Addr) (n2 c2 : Nat) (w : World) (h1 : Mem.rd w w.heap.size [.slice A n c] d.forks) (h2 : Mem.rd w w.heap.size [.slice A2 n2 c2] l) :
    Calls Tryd.prog 80 #[.agg #[.int .i64 d.vars, .slice A n c], .slice A2 n2 c2] w (GivesDM d l w) := by
  obtain rfl : d.forks.length = n := rd_len h1
  have l2 := rd_len h2
  have m1 := rd_max h1
  have m2 := rd_max h2
  unfold maxLen at m1 m2
  by_cases g0 : 0 ≤ d.vars
  · by_cases g1 : d.vars ≤ 12
    · by_cases g2 : d.forks.length ≤ 2000
      · have HPL := Lib.hid (fun x W => hasPlace_any d A c x W (by omega))
        have h2' := (rd_ints.1 h2).2
        obtain ⟨v, fs⟩ := d
        dsimp only at *
        have BX := Lib.hid (ci_box (w := w) (v1 := .int .i64 v) (v2 := .slice A fs.length c) (t := 35))
        have EM := Lib.hid (fun W => empty_any v fs.length W g0 g1 (by omega))
        have SZ := Lib.hid (fun k (hk : k ≤ fs.length) A' c' W => size_d ⟨v, fs.take k⟩ A' c' W (by show (fs.take k).length ≤ _; rw [take_len hk]; omega))
        have FT := Lib.hid (fun k (hk : k ≤ fs.length) A' c' f W (h : Mem.rd W W.heap.size [.slice A' (fs.take k).length c'] (fs.take k)) => fits_any ⟨v, fs.take k⟩ A' c' f W h (by show (fs.take k).length ≤ _; rw [take_len hk]; omega))
        have L2 := Lib.hid l2
        clear l2
        go_enter Tryd.func80, Tryd.ntmps80
        go_wp2_with fail
        refine (EM.out _).mono ?_
        rintro e w1 ⟨g, rfl, hm1, b1⟩
        obtain ⟨B1, x0, x1⟩ := BX.out _ b1
        have hs1 := b1.size
        rw [World.size_alloc] at hm1 hs1
        have lg : w.heap.size + 1 ≤ g := (mkD_lt hm1).2
        go_wp2_with fail
        go_loopg [35] fs.length (fun r i wr => ∃ k : Nat, k + r = fs.length ∧ i = .int .i64 k ∧ MkD wr (w.heap.size + 1) g ⟨v, fs.take k⟩ false 0 ∧ Below (w.alloc (.cells #[.int .i64 v, .slice A fs.length c] 35)).heap.size (w.alloc (.cells #[.int .i64 v, .slice A fs.length c] 35)) wr)
        case atStart => exact ⟨0, by omega, rfl, hm1, b1⟩
        case round =>
          clear hm1 b1 B1 x0 x1 hs1
          obtain ⟨k, hk, rfl, hM, hb⟩ := hrel
          obtain ⟨B, x0, x1⟩ := BX.out _ hb
          have hs := hb.size
          rw [World.size_alloc] at hs
          by_cases hlt : k < fs.length
          · obtain ⟨ad, rfl, hbl, d0, d1, d2⟩ := fk_at (Mem.rd_below h1 B) hlt
            have hbl' : (ad.add (k * 3)).block < wr.heap.size := by rw [add_block]; have := B.size; omega
            have HOKT := Lib.hid (fun (ok : Dg.Ok ⟨v, fs⟩) => ok_take ok hlt)
            have HT : Hid (fs.take (k + 1) = fs.take k ++ [el fs k]) := Lib.hid (take_fk hlt)
            have LT : Hid ((fs.take k).length = k) := Lib.hid (take_len (Nat.le_of_lt hlt))
            have HOk := Lib.hid hM.ok
            have HM0 := Lib.hid hM
            obtain ⟨A', cc, bp, cp, Dp, br, cr, Dr, kg, ho, _⟩ := hM.mem
            have lg1 := kg.lt
            have z0 := kg.cell 0
            have z1 := kg.cell 1
            simp only [List.getElem?_cons_zero, List.getElem?_cons_succ] at z0 z1
            have HS := Lib.hid (SZ.out k (Nat.le_of_lt hlt) A' cc)
            have HRD := Lib.hid (rd_forks ho rfl (by rw [LT.out]; omega))
            have HF := Lib.hid (FT.out k (Nat.le_of_lt hlt) A' cc (el fs k))
            have HKG := Lib.hid kg

            rw [LT.out] at HS HF HRD z1
            generalize el fs k = G at *
            have kn : (k : Int) < fs.length := by omega
            have BB := Lib.hid (fun W (B : Below (wr.alloc (.cells #[.int .i64 G.v, .int .i64 G.lo, .int .i64 G.hi] 108)).heap.size (wr.alloc (.cells #[.int .i64 G.v, .int .i64 G.lo, .int .i64 G.hi] 108)) W) => (⟨below_call B, (fk_blk wr G).below B (by simp)⟩ : Below wr.heap.size wr W ∧ Blk W wr.heap.size 108 G.cs))
            have HB := Lib.hid hb
            clear hM kg ho
            cases hfit : fitB ⟨v, fs.take k⟩ G
            · rw [hfit] at HF
              have HNO : Hid (¬ Dg.Ok ⟨v, fs⟩) := Lib.hid (fun ok => by
                have := (HOKT.out ok).1
                have := fitB_iff.2 (show fitK ⟨v, fs.take k⟩ G ((fs.take k).length + 1) by rw [LT.out]; exact this)
                rw [hfit] at this; cases this)
              obtain ⟨ga, gb, gc⟩ := G
              dsimp only [Fk.u, Fk.cs] at *
              clear hfit
              go_wp2_with fail
              refine (HS.out _).mono ?_
              rintro e w3 ⟨rfl, b3⟩
              obtain ⟨B3, kb3⟩ := BB.out _ b3
              have k3 := HKG.out.below B3 lg1
              have z0 := k3.cell 0
              have z1 := k3.cell 1
              have y0 := kb3.cell 0
              have y1 := kb3.cell 1
              have y2 := kb3.cell 2
              simp only [List.getElem?_cons_zero, List.getElem?_cons_succ] at z0 z1 y0 y1 y2
              rw [LT.out] at z1
              have lg3 := k3.lt
              have lb3 := kb3.lt
              have HB3 := Lib.hid (HB.out.trans (B3.mono HB.out.size))
              have HB3' := Lib.hid B3
              have HF3 := Lib.hid (HF.out w3.drew (Mem.rd_drew (Mem.rd_on HRD.out B3)))
              have K3 := Lib.hid k3
              have KB3 := Lib.hid kb3
              go_wp2
              refine wp_region_held_drew (S := (fun w' => w'.cell? ⟨g, 0, none⟩ = some (.int .i64 v) ∧ w'.cell? ⟨g, 1, none⟩ = some (.slice A' k cc) ∧ w'.cell? ⟨wr.heap.size, 0, none⟩ = some (.int .i64 ga) ∧ w'.cell? ⟨wr.heap.size, 1, none⟩ = some (.int .i64 gb) ∧ w'.cell? ⟨wr.heap.size, 2, none⟩ = some (.int .i64 gc))) (by kernel_rfl) ?_ (fun hHeld => ?_)
              · (try dsimp only); exact ⟨z0, z1, y0, y1, y2⟩
              refine wpAnyH_take (i := 0) (v := ?av0) rfl (by kernel_rfl) (by kernel_rfl) (by kernel_rfl) (fun _ _ _ h => h) (Or.inl ⟨by kernel_rfl, ?ah0⟩) (by assumption) ?ar0
              case ah0 => ((intro w hSw; (try dsimp only at hSw); go_simp) <;> with_reducible rfl)
              (try simp only [List.getElem_toArray, List.getElem_cons_zero]); (try simp only [Act.put]); (try simp only [List.setIfInBounds_toArray]); (try simp only [List.set_cons_succ]); (try simp only [List.set_cons_zero])
              refine wpAnyH_take (i := 1) (v := ?av1) rfl (by kernel_rfl) (by kernel_rfl) (by kernel_rfl) (fun _ _ _ h => h) (Or.inl ⟨by kernel_rfl, ?ah1⟩) (by assumption) ?ar1
              case ah1 => ((intro w hSw; (try dsimp only at hSw); go_simp) <;> with_reducible rfl)
              (try simp only [List.getElem_toArray, List.getElem_cons_zero, List.getElem_cons_succ]); (try simp only [Act.put]); (try simp only [List.setIfInBounds_toArray]); (try simp only [List.set_cons_succ]); (try simp only [List.set_cons_zero])
              refine wpAnyH_take (i := 2) (v := ?av2) rfl (by kernel_rfl) (by kernel_rfl) (by kernel_rfl) (fun _ _ _ h => h) (Or.inl ⟨by kernel_rfl, ?ah2⟩) (by assumption) ?ar2
              case ah2 => ((intro w hSw; (try dsimp only at hSw); go_simp) <;> with_reducible rfl)
              (try simp only [List.getElem_toArray, List.getElem_cons_zero, List.getElem_cons_succ]); (try simp only [Act.put]); (try simp only [List.setIfInBounds_toArray]); (try simp only [List.set_cons_succ]); (try simp only [List.set_cons_zero])
              refine wpAnyH_take (i := 3) (v := ?av3) rfl (by kernel_rfl) (by kernel_rfl) (by kernel_rfl) (fun _ _ _ h => h) (Or.inl ⟨by kernel_rfl, ?ah3⟩) (by assumption) ?ar3
              case ah3 => ((intro w hSw; (try dsimp only at hSw); go_simp) <;> with_reducible rfl)
              (try simp only [List.getElem_toArray, List.getElem_cons_zero, List.getElem_cons_succ]); (try simp only [Act.put]); (try simp only [List.setIfInBounds_toArray]); (try simp only [List.set_cons_succ]); (try simp only [List.set_cons_zero])
              refine wpAnyH_take (i := 4) (v := ?av4) rfl (by kernel_rfl) (by kernel_rfl) (by kernel_rfl) (fun _ _ _ h => h) (Or.inl ⟨by kernel_rfl, ?ah4⟩) (by assumption) ?ar4
              case ah4 => ((intro w hSw; (try dsimp only at hSw); go_simp) <;> with_reducible rfl)
              (try simp only [List.getElem_toArray, List.getElem_cons_zero, List.getElem_cons_succ]); (try simp only [Act.put]); (try simp only [List.setIfInBounds_toArray]); (try simp only [List.set_cons_succ]); (try simp only [List.set_cons_zero])
              refine wpAnyH_ready (rs := [5]) (by kernel_rfl) (by simp) ?_
              refine AllReadyH.cons (o := _) rfl (fun K hK => ?_) AllReadyH.nil
              go_simp
              refine (HF3.out).mono ?_
              rintro e w4 ⟨rfl, b4⟩
              have b4' : Below w3.heap.size w3 w4 := ⟨b4.os, b4.tape, b4.output, b4.size, b4.block⟩
              have k4 := K3.out.below b4' lg3
              have kb4 := KB3.out.below b4' lb3
              have z0 := k4.cell 0
              have z1 := k4.cell 1
              have y0 := kb4.cell 0
              have y1 := kb4.cell 1
              have y2 := kb4.cell 2
              simp only [List.getElem?_cons_zero, List.getElem?_cons_succ] at z0 z1 y0 y1 y2
              rw [LT.out] at z1
              refine hK.out _ _ ?_ (fun hHeld => ?_)
              · (try dsimp only); exact ⟨z0, z1, y0, y1, y2⟩
              clear hK K
              (try simp only [List.getElem_toArray, List.getElem_cons_zero, List.getElem_cons_succ]); (try simp only [Act.put]); (try simp only [List.setIfInBounds_toArray]); (try simp only [List.set_cons_succ]); (try simp only [List.set_cons_zero])
              refine wpAnyH_take (i := 6) (v := ?av6) rfl (by kernel_rfl) (by kernel_rfl) (by kernel_rfl) (fun _ _ _ h => h) (Or.inl ⟨by kernel_rfl, ?ah6⟩) (by assumption) ?ar6
              case ah6 => ((intro w hSw; (try dsimp only at hSw); go_simp) <;> with_reducible rfl)
              (try simp only [List.getElem_toArray, List.getElem_cons_zero, List.getElem_cons_succ]); (try simp only [Act.put]); (try simp only [List.setIfInBounds_toArray]); (try simp only [List.set_cons_succ]); (try simp only [List.set_cons_zero])
              refine wpAnyH_take (i := 7) (v := ?av7) rfl (by kernel_rfl) (by kernel_rfl) (by kernel_rfl) (fun _ _ _ h => h) (Or.inl ⟨by kernel_rfl, ?ah7⟩) (by assumption) ?ar7
              case ah7 => ((intro w hSw; (try dsimp only at hSw); go_simp) <;> with_reducible rfl)
              (try simp only [List.getElem_toArray, List.getElem_cons_zero, List.getElem_cons_succ]); (try simp only [Act.put]); (try simp only [List.setIfInBounds_toArray]); (try simp only [List.set_cons_succ]); (try simp only [List.set_cons_zero])
              refine wpAnyH_take (i := 8) (v := undef) rfl (by kernel_rfl) (by kernel_rfl) (by kernel_rfl) (fun _ _ _ h => h) (Or.inr ⟨by kernel_rfl, rfl⟩) (by assumption) ?_
              (try simp only [List.getElem_toArray, List.getElem_cons_zero, List.getElem_cons_succ]); (try simp only [Act.put]); (try simp only [List.setIfInBounds_toArray]); (try simp only [List.set_cons_succ]); (try simp only [List.set_cons_zero])
              refine wpAnyH_take (i := 9) (v := undef) rfl (by kernel_rfl) (by kernel_rfl) (by kernel_rfl) (fun _ _ _ h => h) (Or.inr ⟨by kernel_rfl, rfl⟩) (by assumption) ?_
              (try simp only [List.getElem_toArray, List.getElem_cons_zero, List.getElem_cons_succ]); (try simp only [Act.put]); (try simp only [List.setIfInBounds_toArray]); (try simp only [List.set_cons_succ]); (try simp only [List.set_cons_zero])
              refine wpAnyH_take (i := 10) (v := undef) rfl (by kernel_rfl) (by kernel_rfl) (by kernel_rfl) (fun _ _ _ h => h) (Or.inr ⟨by kernel_rfl, rfl⟩) (by assumption) ?_
              (try simp only [List.getElem_toArray, List.getElem_cons_zero, List.getElem_cons_succ]); (try simp only [Act.put]); (try simp only [List.setIfInBounds_toArray]); (try simp only [List.set_cons_succ]); (try simp only [List.set_cons_zero])
              refine wpAnyH_take (i := 11) (v := undef) rfl (by kernel_rfl) (by kernel_rfl) (by kernel_rfl) (fun _ _ _ h => h) (Or.inr ⟨by kernel_rfl, rfl⟩) (by assumption) ?_
              (try simp only [List.getElem_toArray, List.getElem_cons_zero, List.getElem_cons_succ]); (try simp only [Act.put]); (try simp only [List.setIfInBounds_toArray]); (try simp only [List.set_cons_succ]); (try simp only [List.set_cons_zero])
              refine wpAnyH_take (i := 12) (v := undef) rfl (by kernel_rfl) (by kernel_rfl) (by kernel_rfl) (fun _ _ _ h => h) (Or.inr ⟨by kernel_rfl, rfl⟩) (by assumption) ?_
              (try simp only [List.getElem_toArray, List.getElem_cons_zero, List.getElem_cons_succ]); (try simp only [Act.put]); (try simp only [List.setIfInBounds_toArray]); (try simp only [List.set_cons_succ]); (try simp only [List.set_cons_zero])
              refine wpAnyH_take (i := 13) (v := ?av13) rfl (by kernel_rfl) (by kernel_rfl) (by kernel_rfl) (fun _ _ _ h => h) (Or.inl ⟨by kernel_rfl, ?ah13⟩) (by assumption) ?ar13
              case ah13 => ((intro w hSw; (try dsimp only at hSw); go_simp) <;> with_reducible rfl)
              (try simp only [List.getElem_toArray, List.getElem_cons_zero, List.getElem_cons_succ]); (try simp only [Act.put]); (try simp only [List.setIfInBounds_toArray]); (try simp only [List.set_cons_succ]); (try simp only [List.set_cons_zero])
              refine wpAnyH_done (by kernel_rfl) ?_ _
              go_wp2
              exact bodyPost_ret (v := .tuple #[.pointer none, .bool false]) (by simp [results, Tryd.results80, go_sem]) rfl (gives_dm_no HNO.out ((BX.out _ (HB3.out.trans (b4'.mono HB3.out.size))).1))
            · rw [hfit] at HF
              have fitp := fitB_iff.1 hfit
              obtain ⟨sv, sl, sh⟩ := fitp.sml (by dsimp only; rw [LT.out]; omega) g1
              have AD := Lib.hid (fun W (B : Below wr.heap.size wr W) => addD_any ⟨v, fs.take k⟩ G false 0 (w.heap.size + 1) g W (mkD_below HM0.out B) (Nat.le_trans hs B.size) (fun _ => fitp) (fitp.low (Int.le_refl _)) sv sl sh)
              have hown := adF_own fitp (by dsimp only; rw [LT.out]; omega)
              have HFP := Lib.hid fitp
              clear fitp sv sl sh hfit
              rcases hown with ⟨hne, hnone, hadd⟩ | ⟨hbad, hlt2, hge⟩
              · have HAD := Lib.hid hadd
                have HX : Hid (∀ x d' full', Added ⟨v, fs.take k⟩ G false x d' full' → x = 2 + k ∧ d' = ⟨v, fs.take (k + 1)⟩ ∧ full' = false) := Lib.hid (fun x d' full' P => by
                  obtain ⟨e1, e2, e3⟩ := added_own P HAD.out (by omega)
                  dsimp only at e1 e2
                  rw [LT.out] at e1
                  rw [← HT.out] at e2
                  exact ⟨by omega, e2, e3⟩)
                clear hne hnone hadd
                obtain ⟨ga, gb, gc⟩ := G
                dsimp only [Fk.u, Fk.cs] at *
                go_wp2_with fail
                refine (HS.out _).mono ?_
                rintro e w3 ⟨rfl, b3⟩
                obtain ⟨B3, kb3⟩ := BB.out _ b3
                have k3 := HKG.out.below B3 lg1
                have z0 := k3.cell 0
                have z1 := k3.cell 1
                have y0 := kb3.cell 0
                have y1 := kb3.cell 1
                have y2 := kb3.cell 2
                simp only [List.getElem?_cons_zero, List.getElem?_cons_succ] at z0 z1 y0 y1 y2
                rw [LT.out] at z1
                have lg3 := k3.lt
                have lb3 := kb3.lt
                have HB3 := Lib.hid (HB.out.trans (B3.mono HB.out.size))
                have HB3' := Lib.hid B3
                have HF3 := Lib.hid (HF.out w3.drew (Mem.rd_drew (Mem.rd_on HRD.out B3)))
                have K3 := Lib.hid k3
                have KB3 := Lib.hid kb3
                go_wp2
                go_region_law (first
                  | (go_simp; go_at_call 89; refine (HF3.out).mono ?_; rintro e w4 ⟨rfl, b4⟩
                     have b4' : Below w3.heap.size w3 w4 := ⟨b4.os, b4.tape, b4.output, b4.size, b4.block⟩
                     have kb4 := KB3.out.below b4' lb3
                     have y0 := kb4.cell 0
                     have y1 := kb4.cell 1
                     have y2 := kb4.cell 2
                     simp only [List.getElem?_cons_zero, List.getElem?_cons_succ] at y0 y1 y2
                     have B4 := HB3'.out.trans (b4'.mono HB3'.out.size)
                     have AK := Lib.hid (AD.out w4 B4))
                  | (go_simp; go_at_call 86; refine (AK.out).mono ?_; rintro e w5 ⟨x5, d5, full5, rfl, hm5, b5, P5, _⟩
                     obtain ⟨rfl, rfl, rfl⟩ := HX.out _ _ _ P5))
                all_goals
                  go_wp2
                  go_roundg (fs.length - (k + 1))
                  case measure => omega
                  case rel =>
                    have b6 : Below (w.alloc (.cells #[.int .i64 v, .slice (some ad) fs.length c] 35)).heap.size wr w5 := by rw [World.size_alloc]; exact (B4.mono hs).trans b5
                    exact ⟨k + 1, by omega, by go_num, hm5, HB.out.trans b6⟩
              · have HNO : Hid (¬ Dg.Ok ⟨v, fs⟩) := Lib.hid (fun ok => by
                  obtain ⟨_, q1, q2⟩ := HOKT.out ok
                  rcases hbad with q | q
                  · exact q1 q
                  · exact q q2)
                have hlt3 : (adF ⟨v, fs.take k⟩ G).2 < k + 2 := by
                  have := hlt2
                  dsimp only at this
                  rw [LT.out] at this
                  exact this
                have HX : Hid (∀ x d' full', Added ⟨v, fs.take k⟩ G false x d' full' → x < 2 + k) := Lib.hid (fun x d' full' P => by
                  obtain ⟨e1, e2, e3⟩ := added_own (D := (adF ⟨v, fs.take k⟩ G).1) (X := (adF ⟨v, fs.take k⟩ G).2) P rfl hge
                  rw [e1]
                  omega)
                clear hbad hlt2 hlt3 hge
                obtain ⟨ga, gb, gc⟩ := G
                dsimp only [Fk.u, Fk.cs] at *
                go_wp2_with fail
                refine (HS.out _).mono ?_
                rintro e w3 ⟨rfl, b3⟩
                obtain ⟨B3, kb3⟩ := BB.out _ b3
                have k3 := HKG.out.below B3 lg1
                have z0 := k3.cell 0
                have z1 := k3.cell 1
                have y0 := kb3.cell 0
                have y1 := kb3.cell 1
                have y2 := kb3.cell 2
                simp only [List.getElem?_cons_zero, List.getElem?_cons_succ] at z0 z1 y0 y1 y2
                rw [LT.out] at z1
                have lg3 := k3.lt
                have lb3 := kb3.lt
                have HB3 := Lib.hid (HB.out.trans (B3.mono HB.out.size))
                have HB3' := Lib.hid B3
                have HF3 := Lib.hid (HF.out w3.drew (Mem.rd_drew (Mem.rd_on HRD.out B3)))
                have K3 := Lib.hid k3
                have KB3 := Lib.hid kb3
                go_wp2
                go_region_law (first
                  | (go_simp; go_at_call 89; refine (HF3.out).mono ?_; rintro e w4 ⟨rfl, b4⟩
                     have b4' : Below w3.heap.size w3 w4 := ⟨b4.os, b4.tape, b4.output, b4.size, b4.block⟩
                     have kb4 := KB3.out.below b4' lb3
                     have y0 := kb4.cell 0
                     have y1 := kb4.cell 1
                     have y2 := kb4.cell 2
                     simp only [List.getElem?_cons_zero, List.getElem?_cons_succ] at y0 y1 y2
                     have B4 := HB3'.out.trans (b4'.mono HB3'.out.size)
                     have AK := Lib.hid (AD.out w4 B4))
                  | (go_simp; go_at_call 86; refine (AK.out).mono ?_; rintro e w5 ⟨x5, d5, full5, rfl, hm5, b5, P5, _⟩
                     have hx5 := HX.out _ _ _ P5; have hne5 : (x5 != 2 + (k : Int)) = true := by simp; omega))
                all_goals
                  go_wp2
                  exact bodyPost_ret (v := .tuple #[.pointer none, .bool false]) (by simp [results, Tryd.results80, go_sem]) rfl (gives_dm_no HNO.out (B.trans (((B4.mono hs).trans b5).mono (Nat.le_succ _))))
          · obtain rfl : k = fs.length := by omega
            rw [List.take_of_length_le (Nat.le_refl _)] at hM
            go_wp2_with fail
            go_loopg [61] n2 (fun r i wr => ∃ k : Nat, k + r = n2 ∧ i = .int .i64 k ∧ Hid (∀ j, j < k → isP ⟨v, fs⟩ (ix l j) = true) ∧ MkD wr (w.heap.size + 1) g ⟨v, fs⟩ false 0 ∧ Below (w.alloc (.cells #[.int .i64 v, .slice A fs.length c] 35)).heap.size (w.alloc (.cells #[.int .i64 v, .slice A fs.length c] 35)) wr)
            case atStart => exact ⟨0, by omega, rfl, Lib.hid (fun j hj => absurd hj (by omega)), hM, hb⟩
            case round =>
              clear hM hb B x0 x1 hs
              obtain ⟨k, hk, rfl, HA, hM, hb⟩ := hrel
              obtain ⟨B, x0, x1⟩ := BX.out _ hb
              by_cases hlt : k < n2
              · obtain ⟨ad, rfl, hbl, d0⟩ := (h2'.below B).int hlt
                have kn : (k : Int) < n2 := by omega
                have HM0 := Lib.hid hM
                have HPX := Lib.hid (HPL.out (ix l k))
                have HNX : Hid (isP ⟨v, fs⟩ (ix l k) = false → areP ⟨v, fs⟩ l = false) := Lib.hid (fun q => areP_no (by rw [L2.out]; exact hlt) q)
                have HYX : Hid (isP ⟨v, fs⟩ (ix l k) = true → ∀ j, j < k + 1 → isP ⟨v, fs⟩ (ix l j) = true) := Lib.hid (fun q j hj => by
                  by_cases e : j = k
                  · subst e; exact q
                  · exact HA.out j (by omega))
                generalize ix l k = X at *
                clear hM
                cases hp : isP ⟨v, fs⟩ X
                · rw [hp] at HPX
                  have HN := Lib.hid (HNX.out hp)
                  clear hp
                  go_wp2_with fail
                  refine (HPX.out _).mono ?_
                  rintro e w3 ⟨rfl, b3⟩
                  go_wp2
                  exact bodyPost_ret (v := .tuple #[.pointer none, .bool false]) (by simp [results, Tryd.results80, go_sem]) rfl (.inl ⟨by rw [HN.out, Bool.and_false], rfl, B.trans (b3.mono B.size)⟩)
                · rw [hp] at HPX
                  have HY := Lib.hid (HYX.out hp)
                  clear hp
                  go_wp2_with fail
                  refine (HPX.out _).mono ?_
                  rintro e w3 ⟨rfl, b3⟩
                  go_wp2
                  go_roundg (n2 - (k + 1))
                  case measure => omega
                  case rel => exact ⟨k + 1, by omega, by go_num, HY, mkD_below HM0.out b3, hb.trans (b3.mono hb.size)⟩
              · obtain rfl : k = n2 := by omega
                have HY : Hid (areP ⟨v, fs⟩ l = true) := Lib.hid (areP_yes (fun j hj => HA.out j (by rw [← L2.out]; exact hj)))
                have HM0 := Lib.hid hM
                clear hM
                go_wp2
                exact bodyPost_ret (v := .tuple #[.pointer (some ⟨g, 0, none⟩), .bool true]) (by simp [results, Tryd.results80, go_sem]) rfl (.inr ⟨by rw [HY.out, dgB_yes HM0.out.ok]; rfl, g, rfl, mkD_lower HM0.out (Nat.le_succ _), B⟩)
      · have no : ¬ d.Ok := fun ok => g2 ok.few
        obtain ⟨v, fs⟩ := d
        dsimp only at *
        have HNO := Lib.hid no
        clear no h1 h2 l2
        go_enter Tryd.func80, Tryd.ntmps80
        go_wp2
        exact bodyPost_ret (v := .tuple #[.pointer none, .bool false]) (by simp [results, Tryd.results80, go_sem]) rfl (gives_dm_no HNO.out (below_alloc _ _))
    · have no : ¬ d.Ok := fun ok => g1 ok.hi
      obtain ⟨v, fs⟩ := d
      dsimp only at *
      have HNO := Lib.hid no
      clear no h1 h2 l2
      go_enter Tryd.func80, Tryd.ntmps80
      go_wp2
      exact bodyPost_ret (v := .tuple #[.pointer none, .bool false]) (by simp [results, Tryd.results80, go_sem]) rfl (gives_dm_no HNO.out (below_alloc _ _))
  · have no : ¬ d.Ok := fun ok => g0 ok.lo
    obtain ⟨v, fs⟩ := d
    dsimp only at *
    have HNO := Lib.hid no
    clear no h1 h2 l2
    go_enter Tryd.func80, Tryd.ntmps80
    go_wp2
    exact bodyPost_ret (v := .tuple #[.pointer none, .bool false]) (by simp [results, Tryd.results80, go_sem]) rfl (gives_dm_no HNO.out (below_alloc _ _))

/-- Whether it is a diagram with these places. -/
theorem hasPlaces_any (d : Dg) (l : List Int) (A : Option Addr) (n c : Nat) (A2 : Option Addr) (n2 c2 : Nat) (w : World) (h1 : Mem.rd w w.heap.size [.slice A n c] d.forks) (h2 : Mem.rd w w.heap.size [.slice A2 n2 c2] l) :
    Calls Tryd.prog 51 #[.agg #[.int .i64 d.vars, .slice A n c], .slice A2 n2 c2] w (GivesBool w (dgB d && areP d l)) := by
  have MK := Lib.hid (fun W (B : Below w.heap.size w W) => makerD_any d l A n c A2 n2 c2 W (Mem.rd_on h1 B) (Mem.rd_on h2 B))
  obtain ⟨v, fs⟩ := d
  dsimp only at *
  clear h1 h2
  go_enter Tryd.func51, Tryd.ntmps51
  go_wp2_with fail
  refine (MK.out _ (below_alloc _ _)).mono ?_
  rintro e w3 (⟨hq, rfl, b3⟩ | ⟨hq, g, rfl, _, b3⟩)
  · have HQ := Lib.hid hq
    clear hq
    go_wp2
    go_ret
    rw [HQ.out]
    exact ⟨rfl, below_call b3⟩
  · have HQ := Lib.hid hq
    clear hq
    go_wp2
    go_ret
    rw [HQ.out]
    exact ⟨rfl, below_call b3⟩
theorem rd_none_int (w : World) : Mem.rd w w.heap.size [.slice none 0 0] ([] : List Int) := Mem.own_rd (⟨none, 0, 0, rfl, Nat.zero_le _, rfl, .inl ⟨rfl, rfl⟩⟩ : Mem.own w [] [.slice none 0 0] ([] : List Int))
end Go.Proofs.YtnhjcokmajejcaaDoor
