/- Two sets of numbers together, of the program. -/
import Derived.Test.YtmlhnnkdecabpaaDoorWl
import Derived.Test.YtmlhnnkdecabpaaDoorSysC
namespace Go.Proofs.YtmlhnnkdecabpaaDoor
open Go.RowKit

/-- Two sets together by an operation; nothing if one of both is none. -/
def mixL (G : (Nat → Bool) → (Nat → Bool) → Nat → Bool) (a b : List Int) : List Int := if setsB a 400 && setsB b 400 then pick (G (memP a) (memP b)) 448 else []
theorem mixL_len (G : (Nat → Bool) → (Nat → Bool) → Nat → Bool) (a b : List Int) : (mixL G a b).length ≤ 1000000 := by
  unfold mixL
  split
  · exact Nat.le_trans (pick_len _ _) (by omega)
  · simp
theorem sets_range {l : List Int} {z : Int} (h : setsB l z = true) : ∀ k, k < l.length → 0 ≤ ix l k ∧ ix l k < z := fun k hk => by
  have := asc_at h k hk
  omega
theorem mem_out {l : List Int} {z : Int} (h : setsB l z = true) {x : Nat} (hx : z ≤ x) : memP l x = false := by
  unfold memP
  apply decide_eq_false
  intro hm
  obtain ⟨k, hk, e⟩ := List.getElem_of_mem hm
  have := (sets_range h k hk).2
  rw [ix_lt hk, e] at this
  omega
def gBoth (P Q : Nat → Bool) : Nat → Bool := fun x => P x && Q x
def gEither (P Q : Nat → Bool) : Nat → Bool := fun x => P x || Q x
def gWithout (P Q : Nat → Bool) : Nat → Bool := fun x => P x && !Q x

set_option maxRecDepth 100000 in
set_option maxHeartbeats 2000000 in
theorem combined_both (a b : List Int) (A1 : Option Addr) (n1 c1 : Nat) (A2 : Option Addr) (n2 c2 : Nat) (w : World) (h1 : Mem.rd w w.heap.size [.slice A1 n1 c1] a) (h2 : Mem.rd w w.heap.size [.slice A2 n2 c2] b) (hT : DoorAt w) :
    Calls Tryd.prog 67 #[.slice A1 n1 c1, .slice A2 n2 c2, .func (Fn.func 63) #[] #[]] w (GivesL w (mixL gBoth a b)) := by
  have CA := Lib.hid (fun W (B : Below w.heap.size w W) => areVariables_any A1 n1 c1 a 400 W (Mem.rd_on h1 B) (by omega) (by omega))
  have CB := Lib.hid (fun W (B : Below w.heap.size w W) => areVariables_any A2 n2 c2 b 400 W (Mem.rd_on h2 B) (by omega) (by omega))
  obtain ⟨F, hF⟩ : ∃ F, F = mixL gBoth a b := ⟨_, rfl⟩
  rw [← hF]
  cases hz1 : setsB a 400
  · have E : Hid (F = []) := Lib.hid (by rw [hF]; unfold mixL; rw [hz1]; rfl)
    have HZ := Lib.hid hz1; clear hz1 hF
    go_enter Tryd.func67, Tryd.ntmps67
    go_wp2_with fail
    refine (CA.out _ (Below.refl _ _)).mono ?_
    rintro e w2 ⟨rfl, b2⟩
    rw [HZ.out]
    go_wp2
    go_ret
    rw [E.out]
    exact ⟨none, 0, 0, [], rfl, own_none _, List.nodup_nil, by simp, b2⟩
  · cases hz2 : setsB b 400
    · have E : Hid (F = []) := Lib.hid (by rw [hF]; unfold mixL; rw [hz1, hz2]; rfl)
      have HZ := Lib.hid hz1; have HZ2 := Lib.hid hz2; clear hz1 hz2 hF
      go_enter Tryd.func67, Tryd.ntmps67
      go_wp2_with fail
      refine (CA.out _ (Below.refl _ _)).mono ?_
      rintro e w2 ⟨rfl, b2⟩
      rw [HZ.out]
      go_wp2_with fail
      refine (CB.out _ b2).mono ?_
      rintro e w3 ⟨rfl, b3⟩
      rw [HZ2.out]
      have B3 := b2.trans (b3.mono b2.size)
      go_wp2
      go_ret
      rw [E.out]
      exact ⟨none, 0, 0, [], rfl, own_none _, List.nodup_nil, by simp, B3⟩
    · have E : Hid (F = pick (gBoth (memP a) (memP b)) 448) := Lib.hid (by rw [hF]; unfold mixL; rw [hz1, hz2]; rfl)
      have SA := Lib.hid (fun W (B : Below w.heap.size w W) => setOf_any a A1 n1 c1 W (Mem.rd_on h1 B) fun k hk => by have := sets_range hz1 k hk; omega)
      have SB := Lib.hid (fun W (B : Below w.heap.size w W) => setOf_any b A2 n2 c2 W (Mem.rd_on h2 B) fun k hk => by have := sets_range hz2 k hk; omega)
      have HT := Lib.hid hT
      have HZ := Lib.hid hz1; have HZ2 := Lib.hid hz2; clear hz1 hz2 hF hT
      generalize memP a = P at *
      generalize memP b = Q at *
      have SL := Lib.hid (fun W hT => setList_any (gBoth P Q) W hT)
      have HG := Lib.hid (fun W => (show Calls Tryd.prog 63 #[wsV P, wsV Q] W (GivesV W (wsV (gBoth P Q))) from both_any P Q W))
      generalize gBoth P Q = R at *
      have HL := Lib.hid (pick_len R 448)
      unfold wsV at SA SB HG SL
      go_enter Tryd.func67, Tryd.ntmps67
      go_wp2_with fail
      refine (CA.out _ (Below.refl _ _)).mono ?_
      rintro e w2 ⟨rfl, b2⟩
      rw [HZ.out]
      go_wp2_with fail
      refine (CB.out _ b2).mono ?_
      rintro e w3 ⟨rfl, b3⟩
      rw [HZ2.out]
      have B3 := b2.trans (b3.mono b2.size)
      go_wp2_with fail
      refine (SA.out _ B3).mono ?_
      rintro e w4 ⟨rfl, b4⟩
      have B4 := B3.trans (b4.mono B3.size)
      go_wp2_with fail
      refine (SB.out _ B4).mono ?_
      rintro e w5 ⟨rfl, b5⟩
      have B5 := B4.trans (b5.mono B4.size)
      go_wp2_with fail
      refine (HG.out _).mono ?_
      rintro e w6 ⟨rfl, b6⟩
      have B6 := B5.trans (b6.mono B5.size)
      go_wp2_with fail
      refine (SL.out _ (HT.out.on B6)).mono ?_
      rintro e w7 g7
      obtain ⟨v7, rfl, o7, b7⟩ := g7
      go_wp2
      go_ret
      rw [E.out]
      exact givesL_of ⟨v7, rfl, own_lower o7 B6.size, B6.trans (b7.mono B6.size)⟩ (by have := HL.out; unfold maxLen; omega)

set_option maxRecDepth 100000 in
set_option maxHeartbeats 2000000 in
theorem combined_either (a b : List Int) (A1 : Option Addr) (n1 c1 : Nat) (A2 : Option Addr) (n2 c2 : Nat) (w : World) (h1 : Mem.rd w w.heap.size [.slice A1 n1 c1] a) (h2 : Mem.rd w w.heap.size [.slice A2 n2 c2] b) (hT : DoorAt w) :
    Calls Tryd.prog 67 #[.slice A1 n1 c1, .slice A2 n2 c2, .func (Fn.func 58) #[] #[]] w (GivesL w (mixL gEither a b)) := by
  have CA := Lib.hid (fun W (B : Below w.heap.size w W) => areVariables_any A1 n1 c1 a 400 W (Mem.rd_on h1 B) (by omega) (by omega))
  have CB := Lib.hid (fun W (B : Below w.heap.size w W) => areVariables_any A2 n2 c2 b 400 W (Mem.rd_on h2 B) (by omega) (by omega))
  obtain ⟨F, hF⟩ : ∃ F, F = mixL gEither a b := ⟨_, rfl⟩
  rw [← hF]
  cases hz1 : setsB a 400
  · have E : Hid (F = []) := Lib.hid (by rw [hF]; unfold mixL; rw [hz1]; rfl)
    have HZ := Lib.hid hz1; clear hz1 hF
    go_enter Tryd.func67, Tryd.ntmps67
    go_wp2_with fail
    refine (CA.out _ (Below.refl _ _)).mono ?_
    rintro e w2 ⟨rfl, b2⟩
    rw [HZ.out]
    go_wp2
    go_ret
    rw [E.out]
    exact ⟨none, 0, 0, [], rfl, own_none _, List.nodup_nil, by simp, b2⟩
  · cases hz2 : setsB b 400
    · have E : Hid (F = []) := Lib.hid (by rw [hF]; unfold mixL; rw [hz1, hz2]; rfl)
      have HZ := Lib.hid hz1; have HZ2 := Lib.hid hz2; clear hz1 hz2 hF
      go_enter Tryd.func67, Tryd.ntmps67
      go_wp2_with fail
      refine (CA.out _ (Below.refl _ _)).mono ?_
      rintro e w2 ⟨rfl, b2⟩
      rw [HZ.out]
      go_wp2_with fail
      refine (CB.out _ b2).mono ?_
      rintro e w3 ⟨rfl, b3⟩
      rw [HZ2.out]
      have B3 := b2.trans (b3.mono b2.size)
      go_wp2
      go_ret
      rw [E.out]
      exact ⟨none, 0, 0, [], rfl, own_none _, List.nodup_nil, by simp, B3⟩
    · have E : Hid (F = pick (gEither (memP a) (memP b)) 448) := Lib.hid (by rw [hF]; unfold mixL; rw [hz1, hz2]; rfl)
      have SA := Lib.hid (fun W (B : Below w.heap.size w W) => setOf_any a A1 n1 c1 W (Mem.rd_on h1 B) fun k hk => by have := sets_range hz1 k hk; omega)
      have SB := Lib.hid (fun W (B : Below w.heap.size w W) => setOf_any b A2 n2 c2 W (Mem.rd_on h2 B) fun k hk => by have := sets_range hz2 k hk; omega)
      have HT := Lib.hid hT
      have HZ := Lib.hid hz1; have HZ2 := Lib.hid hz2; clear hz1 hz2 hF hT
      generalize memP a = P at *
      generalize memP b = Q at *
      have SL := Lib.hid (fun W hT => setList_any (gEither P Q) W hT)
      have HG := Lib.hid (fun W => (show Calls Tryd.prog 58 #[wsV P, wsV Q] W (GivesV W (wsV (gEither P Q))) from either_any P Q W))
      generalize gEither P Q = R at *
      have HL := Lib.hid (pick_len R 448)
      unfold wsV at SA SB HG SL
      go_enter Tryd.func67, Tryd.ntmps67
      go_wp2_with fail
      refine (CA.out _ (Below.refl _ _)).mono ?_
      rintro e w2 ⟨rfl, b2⟩
      rw [HZ.out]
      go_wp2_with fail
      refine (CB.out _ b2).mono ?_
      rintro e w3 ⟨rfl, b3⟩
      rw [HZ2.out]
      have B3 := b2.trans (b3.mono b2.size)
      go_wp2_with fail
      refine (SA.out _ B3).mono ?_
      rintro e w4 ⟨rfl, b4⟩
      have B4 := B3.trans (b4.mono B3.size)
      go_wp2_with fail
      refine (SB.out _ B4).mono ?_
      rintro e w5 ⟨rfl, b5⟩
      have B5 := B4.trans (b5.mono B4.size)
      go_wp2_with fail
      refine (HG.out _).mono ?_
      rintro e w6 ⟨rfl, b6⟩
      have B6 := B5.trans (b6.mono B5.size)
      go_wp2_with fail
      refine (SL.out _ (HT.out.on B6)).mono ?_
      rintro e w7 g7
      obtain ⟨v7, rfl, o7, b7⟩ := g7
      go_wp2
      go_ret
      rw [E.out]
      exact givesL_of ⟨v7, rfl, own_lower o7 B6.size, B6.trans (b7.mono B6.size)⟩ (by have := HL.out; unfold maxLen; omega)

set_option maxRecDepth 100000 in
set_option maxHeartbeats 2000000 in
theorem combined_without (a b : List Int) (A1 : Option Addr) (n1 c1 : Nat) (A2 : Option Addr) (n2 c2 : Nat) (w : World) (h1 : Mem.rd w w.heap.size [.slice A1 n1 c1] a) (h2 : Mem.rd w w.heap.size [.slice A2 n2 c2] b) (hT : DoorAt w) :
    Calls Tryd.prog 67 #[.slice A1 n1 c1, .slice A2 n2 c2, .func (Fn.func 68) #[] #[]] w (GivesL w (mixL gWithout a b)) := by
  have CA := Lib.hid (fun W (B : Below w.heap.size w W) => areVariables_any A1 n1 c1 a 400 W (Mem.rd_on h1 B) (by omega) (by omega))
  have CB := Lib.hid (fun W (B : Below w.heap.size w W) => areVariables_any A2 n2 c2 b 400 W (Mem.rd_on h2 B) (by omega) (by omega))
  obtain ⟨F, hF⟩ : ∃ F, F = mixL gWithout a b := ⟨_, rfl⟩
  rw [← hF]
  cases hz1 : setsB a 400
  · have E : Hid (F = []) := Lib.hid (by rw [hF]; unfold mixL; rw [hz1]; rfl)
    have HZ := Lib.hid hz1; clear hz1 hF
    go_enter Tryd.func67, Tryd.ntmps67
    go_wp2_with fail
    refine (CA.out _ (Below.refl _ _)).mono ?_
    rintro e w2 ⟨rfl, b2⟩
    rw [HZ.out]
    go_wp2
    go_ret
    rw [E.out]
    exact ⟨none, 0, 0, [], rfl, own_none _, List.nodup_nil, by simp, b2⟩
  · cases hz2 : setsB b 400
    · have E : Hid (F = []) := Lib.hid (by rw [hF]; unfold mixL; rw [hz1, hz2]; rfl)
      have HZ := Lib.hid hz1; have HZ2 := Lib.hid hz2; clear hz1 hz2 hF
      go_enter Tryd.func67, Tryd.ntmps67
      go_wp2_with fail
      refine (CA.out _ (Below.refl _ _)).mono ?_
      rintro e w2 ⟨rfl, b2⟩
      rw [HZ.out]
      go_wp2_with fail
      refine (CB.out _ b2).mono ?_
      rintro e w3 ⟨rfl, b3⟩
      rw [HZ2.out]
      have B3 := b2.trans (b3.mono b2.size)
      go_wp2
      go_ret
      rw [E.out]
      exact ⟨none, 0, 0, [], rfl, own_none _, List.nodup_nil, by simp, B3⟩
    · have E : Hid (F = pick (gWithout (memP a) (memP b)) 448) := Lib.hid (by rw [hF]; unfold mixL; rw [hz1, hz2]; rfl)
      have SA := Lib.hid (fun W (B : Below w.heap.size w W) => setOf_any a A1 n1 c1 W (Mem.rd_on h1 B) fun k hk => by have := sets_range hz1 k hk; omega)
      have SB := Lib.hid (fun W (B : Below w.heap.size w W) => setOf_any b A2 n2 c2 W (Mem.rd_on h2 B) fun k hk => by have := sets_range hz2 k hk; omega)
      have HT := Lib.hid hT
      have HZ := Lib.hid hz1; have HZ2 := Lib.hid hz2; clear hz1 hz2 hF hT
      generalize memP a = P at *
      generalize memP b = Q at *
      have SL := Lib.hid (fun W hT => setList_any (gWithout P Q) W hT)
      have HG := Lib.hid (fun W => (show Calls Tryd.prog 68 #[wsV P, wsV Q] W (GivesV W (wsV (gWithout P Q))) from without_any P Q W))
      generalize gWithout P Q = R at *
      have HL := Lib.hid (pick_len R 448)
      unfold wsV at SA SB HG SL
      go_enter Tryd.func67, Tryd.ntmps67
      go_wp2_with fail
      refine (CA.out _ (Below.refl _ _)).mono ?_
      rintro e w2 ⟨rfl, b2⟩
      rw [HZ.out]
      go_wp2_with fail
      refine (CB.out _ b2).mono ?_
      rintro e w3 ⟨rfl, b3⟩
      rw [HZ2.out]
      have B3 := b2.trans (b3.mono b2.size)
      go_wp2_with fail
      refine (SA.out _ B3).mono ?_
      rintro e w4 ⟨rfl, b4⟩
      have B4 := B3.trans (b4.mono B3.size)
      go_wp2_with fail
      refine (SB.out _ B4).mono ?_
      rintro e w5 ⟨rfl, b5⟩
      have B5 := B4.trans (b5.mono B4.size)
      go_wp2_with fail
      refine (HG.out _).mono ?_
      rintro e w6 ⟨rfl, b6⟩
      have B6 := B5.trans (b6.mono B5.size)
      go_wp2_with fail
      refine (SL.out _ (HT.out.on B6)).mono ?_
      rintro e w7 g7
      obtain ⟨v7, rfl, o7, b7⟩ := g7
      go_wp2
      go_ret
      rw [E.out]
      exact givesL_of ⟨v7, rfl, own_lower o7 B6.size, B6.trans (b7.mono B6.size)⟩ (by have := HL.out; unfold maxLen; omega)

theorem setBoth_impl (a b : List Int) (A1 : Option Addr) (n1 c1 : Nat) (A2 : Option Addr) (n2 c2 : Nat) (w : World) (h1 : Mem.rd w w.heap.size [.slice A1 n1 c1] a) (h2 : Mem.rd w w.heap.size [.slice A2 n2 c2] b) (hT : DoorAt w) :
    Calls Tryd.prog 28 #[.slice A1 n1 c1, .slice A2 n2 c2] w (GivesL w (mixL gBoth a b)) := by
  have C := Lib.hid (combined_both a b A1 n1 c1 A2 n2 c2 w h1 h2 hT)
  go_enter Tryd.func28, Tryd.ntmps28
  go_wp2_with fail
  refine C.out.mono ?_
  rintro e w2 g2
  obtain ⟨A, n, c, fp, rfl, g2⟩ := g2
  go_wp2
  go_ret
  exact ⟨A, n, c, fp, rfl, g2⟩

theorem setEither_impl (a b : List Int) (A1 : Option Addr) (n1 c1 : Nat) (A2 : Option Addr) (n2 c2 : Nat) (w : World) (h1 : Mem.rd w w.heap.size [.slice A1 n1 c1] a) (h2 : Mem.rd w w.heap.size [.slice A2 n2 c2] b) (hT : DoorAt w) :
    Calls Tryd.prog 30 #[.slice A1 n1 c1, .slice A2 n2 c2] w (GivesL w (mixL gEither a b)) := by
  have C := Lib.hid (combined_either a b A1 n1 c1 A2 n2 c2 w h1 h2 hT)
  go_enter Tryd.func30, Tryd.ntmps30
  go_wp2_with fail
  refine C.out.mono ?_
  rintro e w2 g2
  obtain ⟨A, n, c, fp, rfl, g2⟩ := g2
  go_wp2
  go_ret
  exact ⟨A, n, c, fp, rfl, g2⟩

theorem setWithout_impl (a b : List Int) (A1 : Option Addr) (n1 c1 : Nat) (A2 : Option Addr) (n2 c2 : Nat) (w : World) (h1 : Mem.rd w w.heap.size [.slice A1 n1 c1] a) (h2 : Mem.rd w w.heap.size [.slice A2 n2 c2] b) (hT : DoorAt w) :
    Calls Tryd.prog 32 #[.slice A1 n1 c1, .slice A2 n2 c2] w (GivesL w (mixL gWithout a b)) := by
  have C := Lib.hid (combined_without a b A1 n1 c1 A2 n2 c2 w h1 h2 hT)
  go_enter Tryd.func32, Tryd.ntmps32
  go_wp2_with fail
  refine C.out.mono ?_
  rintro e w2 g2
  obtain ⟨A, n, c, fp, rfl, g2⟩ := g2
  go_wp2
  go_ret
  exact ⟨A, n, c, fp, rfl, g2⟩
end Go.Proofs.YtmlhnnkdecabpaaDoor
