/- The first rule between two states: of the program. -/
import Derived.Test.YtpaagplopefklaaBtw2
import Derived.Deep.RegionHeld3
namespace Go.Proofs.Ytpaagplopefklaa
open Go.RowKit

/-- The boxes of 'between': a system, a state. -/
def btwW (w : World) (v1 v2 : Value) (st : List Int) : World :=
  (w.alloc (.cells #[v1, v2] 31)).alloc (.cells #[.int .i64 (ix st 0), .int .i64 (ix st 1), .int .i64 (ix st 2), .int .i64 (ix st 3), .int .i64 (ix st 4), .int .i64 st.length] 84)
theorem btwW_box {w : World} {v1 v2 : Value} {st : List Int} {W : World} (hW : Below (w.heap.size + 2) (btwW w v1 v2 st) W) :
    Below w.heap.size w W ∧ W.cell? ⟨w.heap.size, 0, none⟩ = some v1 ∧ W.cell? ⟨w.heap.size, 1, none⟩ = some v2 ∧ Blk W (w.heap.size + 1) 84 (ptC st) ∧ w.heap.size + 2 ≤ W.heap.size := by
  have hs : w.heap.size + 2 ≤ W.heap.size := by have := hW.size; unfold btwW at this; simp at this; omega
  have k0 : Blk (btwW w v1 v2 st) w.heap.size 31 [v1, v2] := (Blk.new w _ _).alloc _
  have k1 : Blk (btwW w v1 v2 st) (w.heap.size + 1) 84 (ptC st) := by
    have := Blk.new (w.alloc (.cells #[v1, v2] 31)) (ptC st).toArray 84
    rw [World.size_alloc] at this
    exact this
  have j0 := k0.below hW (by omega)
  exact ⟨(((Below.refl w.heap.size w).alloc (Nat.le_refl _) _).alloc (by simp) _).trans (hW.mono (by omega)), j0.cell 0, j0.cell 1, k1.below hW (by omega), hs⟩

set_option maxRecDepth 100000 in
set_option maxHeartbeats 4000000 in
theorem btw_impl' (s : Sy) (a b : List Int) (A1 : Option Addr) (n1 c1 : Nat) (A2 : Option Addr) (n2 c2 : Nat) (A4 : Option Addr) (n4 c4 : Nat) (w : World) (h1 : Mem.rd w w.heap.size [.slice A1 n1 c1] s.vars) (h2 : Mem.rd w w.heap.size [.slice A2 n2 c2] s.rules) (h4 : Mem.rd w w.heap.size [.slice A4 n4 c4] b)
    (ok : SysOk s) (hin : hasB s.vars a = true) :
    Calls Try.prog 70 #[.agg #[.slice A1 n1 c1, .slice A2 n2 c2], ptV a, .slice A4 n4 c4] w (GivesInt w (firstHit (hitB s a b) s.rules.length)) := by
  have L2 := rd_len h2
  rw [L2]
  have hn2 : n2 ≤ 8 := by have := ok.most; omega
  have BX := Lib.hid (fun W hW => btwW_box (w := w) (v1 := .slice A1 n1 c1) (v2 := .slice A2 n2 c2) (st := a) (W := W) hW)
  obtain ⟨F, hF⟩ : ∃ F, F = firstHit (hitB s a b) n2 := ⟨_, rfl⟩
  rw [← hF]
  have UC := Lib.hid (fun k (hk : k < n2) w (h1 : Mem.rd w w.heap.size [.slice A1 n1 c1] s.vars) h2 => useP_any s a k A1 n1 c1 A2 n2 c2 w h1 h2 ok hin (by omega))
  have UL := Lib.hid (fun k (hu : useB s a k = true) => show 1 ≤ (useL s a k).length ∧ (useL s a k).length ≤ 5 by
    have := has_len (use_has hu); have := ok.lo; have := ok.hi; omega)
  have HN := Lib.hid (fun (q : ∀ j, j < n2 → hitB s a b j = false) => hF.trans (firstHit_none q))
  have HY := Lib.hid (fun k (hk : k < n2) (h : hitB s a b k = true) (q : ∀ j, j < k → hitB s a b j = false) => hF.trans (firstHit_at h q hk))
  have W0 : Below (w.heap.size + 2) (btwW w (.slice A1 n1 c1) (.slice A2 n2 c2) a) (btwW w (.slice A1 n1 c1) (.slice A2 n2 c2) a) := Below.refl _ _
  have W0 := Lib.hid W0
  clear hF L2
  unfold ptV at UC ⊢
  go_enter Try.func70, Try.ntmps70
  go_wp2
  go_loopg [7, 8, 9, 13] n2 (fun m i7 i8 i9 i wr => ∃ k : Nat, k + m = n2 ∧ i = .int .i64 k ∧ Hid (∀ j, j < k → hitB s a b j = false) ∧ Below (w.heap.size + 2) (btwW w (.slice A1 n1 c1) (.slice A2 n2 c2) a) wr)
  case atStart => exact ⟨0, by omega, rfl, Lib.hid (fun j hj => absurd hj (by omega)), W0.out⟩
  case round =>
    clear W0
    obtain ⟨k, hk, rfl, hj, hb⟩ := hrel
    obtain ⟨B, x0, x1, kP, lx⟩ := BX.out _ hb
    by_cases hlt : k < n2
    · have UK := Lib.hid (UC.out k hlt wr (Mem.rd_on h1 B) (Mem.rd_on h2 B))
      obtain ⟨U, hU⟩ : ∃ U, U = useL s a k := ⟨_, rfl⟩
      obtain ⟨u, hu⟩ : ∃ u, u = useB s a k := ⟨_, rfl⟩
      have hUl := UL.out k
      rw [← hU, ← hu] at UK hUl
      have HU := Lib.hid hU
      have HB := Lib.hid hu
      clear hU hu
      obtain ⟨p0, p1, p2, p3, p4, p5⟩ := pt_cells kP
      clear kP
      cases u
      · have HX : Hid (∀ j, j < k + 1 → hitB s a b j = false) := Lib.hid fun j hjk => by
          by_cases z : j < k
          · exact hj.out j z
          · obtain rfl : j = k := by omega
            exact hit_no HB.out.symm
        clear hUl
        go_wp2_with fail
        refine (UK.out).mono ?_
        rintro e w4 ⟨rfl, b4⟩
        have hb4 := hb.trans (b4.mono lx)
        have l4 := Nat.le_trans lx b4.size
        go_wp2
        go_roundg (n2 - (k + 1))
        case measure => omega
        case rel => exact ⟨k + 1, by omega, by go_num, HX, hb4.alloc l4 _⟩
      · have hU2 := hUl rfl
        have IP := Lib.hid (fun W (h : Mem.rd W W.heap.size [.slice A4 n4 c4] b) => isPt_any U A4 n4 c4 b W hU2.1 hU2.2 h)
        unfold ptV at IP
        clear hUl
        cases he : decide (U = b)
        all_goals
          have HE := Lib.hid he; clear he
          go_wp2_with fail
          refine (UK.out).mono ?_
          rintro e w4 ⟨rfl, b4⟩
          have hb4 := hb.trans (b4.mono lx)
          have l4 := Nat.le_trans lx b4.size
          have B4 := fun o => (B.trans (b4.mono B.size)).alloc (Nat.le_trans B.size b4.size) o
          go_wp2_with fail
          refine (IP.out _ (Mem.rd_on h4 (B4 _))).mono ?_
          rintro e w5 ⟨rfl, b5⟩
          rw [HE.out]
          have hb5 := (hb4.alloc l4 _).trans (b5.mono (by rw [World.size_alloc]; exact Nat.le_succ_of_le l4))
          have B5 := (B4 _).trans (b5.mono (B4 _).size)
          go_wp2
        · have HX : Hid (∀ j, j < k + 1 → hitB s a b j = false) := Lib.hid fun j hjk => by
            by_cases z : j < k
            · exact hj.out j z
            · obtain rfl : j = k := by omega
              exact hit_ne (by rw [← HU.out]; exact HE.out)
          go_roundg (n2 - (k + 1))
          case measure => omega
          case rel => exact ⟨k + 1, by omega, by go_num, HX, hb5⟩
        · have HX : Hid (F = k) := Lib.hid (HY.out k hlt (hit_yes HB.out.symm (by rw [← HU.out]; exact HE.out)) hj.out)
          go_ret
          exact ⟨(congrArg (fun z => Ending.returned (.int .i64 z)) HX.out).symm, B5⟩
    · obtain rfl : k = n2 := by omega
      have HX := Lib.hid (HN.out hj.out)
      go_wp2
      go_ret
      exact ⟨(congrArg (fun z => Ending.returned (.int .i64 z)) HX.out).symm, B⟩

set_option maxRecDepth 100000 in
set_option maxHeartbeats 2000000 in
theorem between_impl (s : Sy) (a b : List Int) (A1 : Option Addr) (n1 c1 : Nat) (A2 : Option Addr) (n2 c2 : Nat) (A3 : Option Addr) (n3 c3 : Nat) (A4 : Option Addr) (n4 c4 : Nat) (w : World) (h1 : Mem.rd w w.heap.size [.slice A1 n1 c1] s.vars) (h2 : Mem.rd w w.heap.size [.slice A2 n2 c2] s.rules) (h3 : Mem.rd w w.heap.size [.slice A3 n3 c3] a) (h4 : Mem.rd w w.heap.size [.slice A4 n4 c4] b) :
    Calls Try.prog 40 #[.agg #[.slice A1 n1 c1, .slice A2 n2 c2], .slice A3 n3 c3, .slice A4 n4 c4] w (GivesInt w (ruleBtw s a b)) := by
  have BX := Lib.hid (sy_box (w := w) (v1 := .slice A1 n1 c1) (v2 := .slice A2 n2 c2))
  have SV := Lib.hid (fun o => inRange_impl s a A1 n1 c1 A2 n2 c2 A3 n3 c3 (w.alloc o) (Mem.rd_on_alloc h1 o) (Mem.rd_on_alloc h2 o) (Mem.rd_on_alloc h3 o))
  cases hz : inRangeB s a
  · have E1 : Hid (ruleBtw s a b = -1) := Lib.hid (by unfold ruleBtw; rw [hz]; rfl)
    have HZ := Lib.hid hz; clear hz
    go_enter Try.func40, Try.ntmps40
    go_wp2_with fail
    refine (SV.out _).mono ?_
    rintro e w2 ⟨rfl, b2⟩
    rw [HZ.out]
    go_wp2
    go_ret
    exact ⟨(congrArg (fun z => Ending.returned (.int .i64 z)) E1.out).symm, below_call b2⟩
  · obtain ⟨ok, hin⟩ := inRange_parts hz
    have E1 : Hid (ruleBtw s a b = firstHit (hitB s a b) s.rules.length) := Lib.hid (by unfold ruleBtw; rw [hz]; rfl)
    have hn3 : 1 ≤ n3 ∧ n3 ≤ 5 := by have := has_len hin; have := ok.lo; have := ok.hi; have := rd_len h3; omega
    have PC := Lib.hid (fun w (h3 : Mem.rd w w.heap.size [.slice A3 n3 c3] a) => pointOf_any A3 n3 c3 a w (rd_ints.1 h3).2 hn3.1 hn3.2)
    have IC := Lib.hid (fun w h1 h2 h4 => btw_impl' s a b A1 n1 c1 A2 n2 c2 A4 n4 c4 w h1 h2 h4 ok hin)
    unfold ptV at PC IC
    have HZ := Lib.hid hz; clear hz
    go_enter Try.func40, Try.ntmps40
    go_wp2_with fail
    refine (SV.out _).mono ?_
    rintro e w2 ⟨rfl, b2⟩
    rw [HZ.out]
    obtain ⟨B2, x0, x1⟩ := BX.out _ b2
    have l2 : w.heap.size < w2.heap.size := by have := b2.size; rw [World.size_alloc] at this; exact this
    have x0d : w2.drew.cell? ⟨w.heap.size, 0, none⟩ = some (.slice A1 n1 c1) := x0
    have x1d : w2.drew.cell? ⟨w.heap.size, 1, none⟩ = some (.slice A2 n2 c2) := x1
    go_wp2
    go_region_held3 (fun w' => w'.cell? ⟨w.heap.size, 0, none⟩ = some (.slice A1 n1 c1) ∧ w'.cell? ⟨w.heap.size, 1, none⟩ = some (.slice A2 n2 c2))
      (first | with_reducible exact ⟨x0d, x1d⟩ | with_reducible exact ⟨y0, y1⟩ | with_reducible exact ⟨v0, v1⟩ | fail)
      (first
        | (go_at_call 60; refine (PC.out w2.drew (Mem.rd_drew (Mem.rd_on h3 B2))).mono ?_; rintro e w4 ⟨rfl, b4⟩
           have y0 := cell_below b4 (p := ⟨w.heap.size, 0, none⟩) l2 x0
           have y1 := cell_below b4 (p := ⟨w.heap.size, 1, none⟩) l2 x1
           have l4 := Nat.lt_of_lt_of_le l2 b4.size
           have b4n : Below w2.heap.size w2 w4 := ⟨b4.os, b4.tape, b4.output, b4.size, b4.block⟩
           have B4 := B2.trans (b4n.mono B2.size))
        | (go_at_call 70; refine (IC.out w4 (Mem.rd_on h1 B4) (Mem.rd_on h2 B4) (Mem.rd_on h4 B4)).mono ?_; rintro e w5 ⟨rfl, b5⟩
           have v0 := cell_below b5 (p := ⟨w.heap.size, 0, none⟩) l4 y0
           have v1 := cell_below b5 (p := ⟨w.heap.size, 1, none⟩) l4 y1
           have B5 := B4.trans (b5.mono B4.size)))
    go_wp2
    go_ret
    exact ⟨(congrArg (fun z => Ending.returned (.int .i64 z)) E1.out).symm, B5⟩
end Go.Proofs.Ytpaagplopefklaa
