/- Diagrams: validity, copies and forks that are added, in the model. -/
import Derived.Test.YtnhjcokmajejcaaDoorDgS
import Derived.BigQuiet
namespace Go.Proofs.YtnhjcokmajejcaaDoor
open Go.RowKit
set_option maxRecDepth 100000

/-- The j-th fork is right. -/
def goodK (d : Dg) (j : Nat) : Prop := fitK d (el d.forks j) (j + 1) ∧ (el d.forks j).lo ≠ (el d.forks j).hi ∧ ∀ i, i < j → el d.forks i ≠ el d.forks j
theorem ok_good {d : Dg} (h0 : 0 ≤ d.vars) (h1 : d.vars ≤ 12) (h2 : d.forks.length ≤ 2000) (h : ∀ j, j < d.forks.length → goodK d j) : d.Ok :=
  ⟨h0, h1, h2, fun k hk => (h k hk).1, fun k hk => (h k hk).2.1, fun j k hj hk => (h k hk).2.2 j hj⟩
theorem good_ok {d : Dg} (h : d.Ok) {j : Nat} (hj : j < d.forks.length) : goodK d j := ⟨h.fork j hj, h.apart j hj, fun i hi => h.one i j hi hj⟩

set_option maxRecDepth 100000 in
set_option maxHeartbeats 4000000 in
theorem dgValid_spec (d : Dg) (A : Option Addr) (n c : Nat) (w : World) (h : Mem.rd w w.heap.size [.slice A n c] d.forks) :
    Calls Tryd.prog 46 #[.agg #[.int .i64 d.vars, .slice A n c]] w (GivesBool w (dgB d)) := by
  obtain rfl : d.forks.length = n := rd_len h
  have hm := rd_max h
  unfold maxLen at hm
  by_cases g1 : 0 ≤ d.vars ∧ d.vars ≤ 12
  · by_cases g2 : d.forks.length ≤ 2000
    · obtain ⟨m0, m1⟩ := g1
      have FK := Lib.hid (fun f (m : Int) W (B : Below w.heap.size w W) (hm : m ≤ d.forks.length + 1) => l8Fork_any d A d.forks.length c f m W (Mem.rd_on h B) (by omega) hm m0 m1)
      have OKG := Lib.hid (fun h => dgB_yes (ok_good (d := d) m0 m1 g2 h))
      have NOG : Hid (∀ j, j < d.forks.length → ¬ goodK d j → dgB d = false) := Lib.hid (fun j hj no => dgB_no (fun ok => no (good_ok ok hj)))
      generalize hF : dgB d = F at *
      clear hF
      have BX := Lib.hid (ci_box (w := w) (v1 := .int .i64 d.vars) (v2 := .slice A d.forks.length c) (t := 35))
      obtain ⟨v, fs⟩ := d
      dsimp only at *
      go_enter Tryd.func46, Tryd.ntmps46
      go_wp2_with (first | (go_at_call 54; refine (l1In_yes ⟨m0, m1⟩ _).mono ?_; rintro e w3 ⟨rfl, rfl⟩))
      go_loopg [3] fs.length (fun r i wr => ∃ k : Nat, k + r = fs.length ∧ i = .int .i64 k ∧ Hid (∀ j, j < k → goodK ⟨v, fs⟩ j) ∧ Below (w.alloc (.cells #[.int .i64 v, .slice A fs.length c] 35)).heap.size (w.alloc (.cells #[.int .i64 v, .slice A fs.length c] 35)) wr)
      case atStart => exact ⟨0, by omega, rfl, Lib.hid (fun j hj => absurd hj (by omega)), Below.refl _ _⟩
      case round =>
        obtain ⟨k, hk, rfl, HA, hb⟩ := hrel
        obtain ⟨B, x0, x1⟩ := BX.out _ hb
        by_cases hlt : k < fs.length
        · obtain ⟨ad, rfl, hbl, d0, d1, d2⟩ := fk_at (Mem.rd_below h B) hlt
          have hbl' : (ad.add (k * 3)).block < wr.heap.size := by rw [add_block]; have := B.size; omega
          have hs : w.heap.size < wr.heap.size := by have := hb.size; rw [World.size_alloc] at this; omega
          have HG : Hid (goodK ⟨v, fs⟩ k → ∀ j, j < k + 1 → goodK ⟨v, fs⟩ j) := Lib.hid (fun ok j hj => by
            by_cases e : j = k
            · subst e; exact ok
            · exact HA.out j (by omega))
          have HN := Lib.hid (NOG.out k hlt)
          have HK : Hid (∀ no : ¬ (fitK ⟨v, fs⟩ (el fs k) (k + 1) ∧ (el fs k).lo ≠ (el fs k).hi ∧ ∀ i, i < k → el fs i ≠ el fs k), ¬ goodK ⟨v, fs⟩ k) := Lib.hid (fun no q => no q)
          have HY : Hid (∀ yes : (fitK ⟨v, fs⟩ (el fs k) (k + 1) ∧ (el fs k).lo ≠ (el fs k).hi ∧ ∀ i, i < k → el fs i ≠ el fs k), goodK ⟨v, fs⟩ k) := Lib.hid (fun q => q)
          have FC := Lib.hid (fun W (B : Below w.heap.size w W) => FK.out (el fs k) (k + 1) W B (by omega))
          generalize el fs k = G at *
          have kn : (k : Int) < fs.length := by omega
          have BB := Lib.hid (fun W (B : Below (wr.alloc (.cells #[.int .i64 G.v, .int .i64 G.lo, .int .i64 G.hi] 108)).heap.size (wr.alloc (.cells #[.int .i64 G.v, .int .i64 G.lo, .int .i64 G.hi] 108)) W) => (⟨below_call B, (ci_blk wr #[.int .i64 G.v, .int .i64 G.lo, .int .i64 G.hi] 108).below B (by simp)⟩ : Below wr.heap.size wr W ∧ Blk W wr.heap.size 108 G.cs))
          by_cases hfit : fitK ⟨v, fs⟩ G (k + 1)
          · rw [fitX_yes hfit] at FC
            by_cases hlh : G.lo = G.hi
            · have HNO := Lib.hid (HN.out (HK.out (fun q => q.2.1 hlh)))
              have g1 : (G.lo == G.hi) = true := by simp [hlh]
              obtain ⟨ga, gb, gc⟩ := G
              dsimp only [Fk.u, Fk.cs] at *
              clear hlh hfit
              go_wp2_with fail
              refine (FC.out _ (B.alloc B.size _)).mono ?_
              rintro e w3 ⟨rfl, b3⟩
              obtain ⟨B3, kb3⟩ := BB.out _ b3
              have y1 := kb3.cell 1
              have y2 := kb3.cell 2
              simp only [List.getElem?_cons_zero, List.getElem?_cons_succ] at y1 y2
              go_wp2
              go_ret
              exact ⟨(congrArg (fun b => Ending.returned (.bool b)) HNO.out).symm, B.trans (B3.mono B.size)⟩
            · have g1 : (G.lo == G.hi) = false := by simp [hlh]
              have HFIT := Lib.hid hfit
              have HLH := Lib.hid hlh
              obtain ⟨ga, gb, gc⟩ := G
              dsimp only [Fk.u, Fk.cs] at *
              clear hlh hfit
              go_wp2_with fail
              refine (FC.out _ (B.alloc B.size _)).mono ?_
              rintro e w3 ⟨rfl, b3⟩
              obtain ⟨B3, kb3⟩ := BB.out _ b3
              have y1 := kb3.cell 1
              have y2 := kb3.cell 2
              simp only [List.getElem?_cons_zero, List.getElem?_cons_succ] at y1 y2
              have HB3 := Lib.hid (hb.trans (B3.mono hb.size))
              obtain ⟨BB3, x03, x13⟩ := BX.out _ HB3.out
              have KB3 := Lib.hid kb3
              have lb3 := kb3.lt
              go_wp2_with fail
              go_loopg [5] k (fun r i w5 => ∃ t : Nat, t + r = k ∧ i = .int .i64 t ∧ Hid (∀ j, j < t → el fs j ≠ ⟨ga, gb, gc⟩) ∧ Below w3.heap.size w3 w5)
              case atStart => exact ⟨0, by omega, rfl, Lib.hid (fun j hj => absurd hj (by omega)), Below.refl _ _⟩
              case round =>
                clear y1 y2 x03 x13 d0 d1 d2 BB3 x0 x1
                obtain ⟨t, ht, rfl, HD, hb5⟩ := hrel
                obtain ⟨B5, x0, x1⟩ := BX.out _ (HB3.out.trans (hb5.mono HB3.out.size))
                have kb5 := KB3.out.below hb5 lb3
                have y0 := kb5.cell 0
                have y1 := kb5.cell 1
                have y2 := kb5.cell 2
                simp only [List.getElem?_cons_zero, List.getElem?_cons_succ] at y0 y1 y2
                by_cases htk : t < k
                · obtain ⟨ad', had, hbl5, e0, e1, e2⟩ := fk_at (Mem.rd_below h B5) (show t < fs.length by omega)
                  obtain rfl : ad = ad' := by injection had
                  have tn : (t : Int) < fs.length := by omega
                  have tk : (t : Int) < k := by omega
                  have HD2 : Hid (el fs t ≠ ⟨ga, gb, gc⟩ → ∀ j, j < t + 1 → el fs j ≠ ⟨ga, gb, gc⟩) := Lib.hid (fun q j hj => by
                    by_cases e : j = t
                    · subst e; exact q
                    · exact HD.out j (by omega))
                  have HD3 : Hid (el fs t = ⟨ga, gb, gc⟩ → ¬ ∀ i, i < k → el fs i ≠ ⟨ga, gb, gc⟩) := Lib.hid (fun q r => r t htk q)
                  generalize el fs t = T at *
                  by_cases eq : T = ⟨ga, gb, gc⟩
                  · have HNO := Lib.hid (HN.out (HK.out (fun q => HD3.out eq q.2.2)))
                    subst eq
                    have EQ := fun W => fk_eq_yes ⟨ga, gb, gc⟩ W
                    dsimp only at *
                    go_wp2
                    go_quiet (fail)
                    go_wp2
                    go_ret
                    exact ⟨(congrArg (fun b => Ending.returned (.bool b)) HNO.out).symm, ⟨B5.os, B5.tape, B5.output, B5.size, B5.block⟩⟩
                  · have EQ := fun W => fk_eq_no eq W
                    have HD4 := Lib.hid (HD2.out eq)
                    obtain ⟨ta, tb, tc⟩ := T
                    dsimp only at *
                    clear eq
                    go_wp2
                    go_quiet (fail)
                    go_wp2
                    go_roundg (k - (t + 1))
                    case measure => omega
                    case rel => exact ⟨t + 1, by omega, by go_num, HD4, ⟨hb5.os, hb5.tape, hb5.output, hb5.size, hb5.block⟩⟩
                · obtain rfl : t = k := by omega
                  go_wp2
                  go_roundg (fs.length - (t + 1))
                  case measure => omega
                  case rel => exact ⟨t + 1, by omega, by go_num, Lib.hid (HG.out (HY.out ⟨HFIT.out, HLH.out, fun i hi => HD.out i hi⟩)), HB3.out.trans (hb5.mono HB3.out.size)⟩
          · rw [fitX_no hfit] at FC
            have HNO := Lib.hid (HN.out (HK.out (fun q => hfit q.1)))
            obtain ⟨ga, gb, gc⟩ := G
            dsimp only [Fk.u, Fk.cs] at *
            clear hfit
            go_wp2_with fail
            refine (FC.out _ (B.alloc B.size _)).mono ?_
            rintro e w3 ⟨rfl, b3⟩
            obtain ⟨B3, kb3⟩ := BB.out _ b3
            go_wp2
            go_ret
            exact ⟨(congrArg (fun b => Ending.returned (.bool b)) HNO.out).symm, B.trans (B3.mono B.size)⟩
        · obtain rfl : k = fs.length := by omega
          have HE := Lib.hid (OKG.out (fun j hj => HA.out j hj))
          go_wp2
          go_ret
          exact ⟨(congrArg (fun b => Ending.returned (.bool b)) HE.out).symm, B⟩
    · have e : dgB d = false := dgB_no (fun ok => g2 ok.few)
      rw [e]
      obtain ⟨m0, m1⟩ := g1
      obtain ⟨v, fs⟩ := d
      dsimp only at *
      clear e h
      go_enter Tryd.func46, Tryd.ntmps46
      go_wp2_with (first | (go_at_call 54; refine (l1In_yes ⟨m0, m1⟩ _).mono ?_; rintro e w3 ⟨rfl, rfl⟩))
      go_ret
      exact ⟨rfl, below_alloc _ _⟩
  · have e : dgB d = false := dgB_no (fun ok => g1 ⟨ok.lo, ok.hi⟩)
    rw [e]
    obtain ⟨v, fs⟩ := d
    dsimp only at *
    clear e h
    go_enter Tryd.func46, Tryd.ntmps46
    go_wp2_with (first | (go_at_call 54; refine (l1In_no (by omega) _).mono ?_; rintro e w3 ⟨rfl, rfl⟩))
    go_ret
    exact ⟨rfl, below_alloc _ _⟩
end Go.Proofs.YtnhjcokmajejcaaDoor
