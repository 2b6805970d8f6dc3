/- The numbers behind, and ahead of, those of a set, of the model. -/
import Derived.Test.YtfgjogmgcamfdaaGreatDoorMixS
import Derived.Test.YtfgjogmgcamfdaaGreatDoorNxP
import Derived.Test.YtfgjogmgcamfdaaGreatDoorAtS
import Derived.Test.YtfgjogmgcamfdaaGreatDoorIl
import Derived.Deep.RegionHeld3
import Derived.Deep.RegionLaw
import Derived.RegionTactic
import Derived.BigRegion
namespace Go.Proofs.YtfgjogmgcamfdaaGreatDoor
open Go.RowKit

/-- What the first k rows hold, of marked states. -/
def behTo (L : List (List Int)) (M : Nat → Bool) (k : Nat) : Nat → Bool := fun x => someTo (fun n => M n && memP (el L n) x) k
/-- Which of the first k states have a row with a marked state. -/
def aheAt (L : List (List Int)) (M : Nat → Bool) : Nat → Bool := fun n => someTo (fun i => M (ix (el L n) i).toNat) (el L n).length
def aheTo (L : List (List Int)) (M : Nat → Bool) (k : Nat) : Nat → Bool := fun n => decide (n < k) && aheAt L M n
theorem orP_nil (P : Nat → Bool) (l : List Int) : (fun x => P x || (true && memP (l.take 0) x)) = P := by funext x; simp [memP]

set_option maxRecDepth 100000 in
set_option maxHeartbeats 4000000 in
theorem l4Behind_any (L : List (List Int)) (M : Nat → Bool) (A : Option Addr) (z c g : Nat) (w : World) (h : Mem.rd w w.heap.size [.slice A z c] L) (hM : Blk w g 4 (bools M z)) (hz : z ≤ 400)
    (hr : ∀ n, n < z → ∀ k, k < (el L n).length → 0 ≤ ix (el L n) k ∧ ix (el L n) k < z) :
    Calls Tryz.prog 117 #[.slice A z c, .slice (some ⟨g, 0, none⟩) z z] w (GivesMarks w (behTo L M z) z) := by
  have HR := Lib.hid hr
  have HM := Lib.hid hM
  have HGL : Hid (g < w.heap.size) := Lib.hid hM.lt
  have HZ4 := Lib.hid hz
  clear hr hM
  go_enter Tryz.func117, Tryz.ntmps117
  go_wp2_with (first | (at_make; refine wpList_make_full _ rfl _ _ 54 rfl w.heap.size 4 boolRow _ 1 Tryz.underlying54 bool_row.1 bool_row.2.1 bool_row.2.2.1 _ _ _ _ z rfl rfl rfl rfl (by rw [bool_row.2.2.2]; omega) (by unfold maxLen; omega) (Nat.le_refl _) ?_; intro w1 hown hg))
  have hbw := (Below.refl w.heap.size w).grown hg (Nat.le_refl _) (by simp)
  have hblk := (Blk.of_own hown).1
  have hblk : Blk w1 w.heap.size 4 (bools (behTo L M 0) z) := by
    show Blk w1 w.heap.size 4 (bools (fun _ => false) z)
    rw [← cat_bools]
    exact made_cat #[.bool false] z ▸ hblk
  have HB0 := Lib.hid hblk
  have HW0 := Lib.hid hbw
  clear hown hg hblk hbw hz
  go_loopg [6, 7] z (fun m i i7 wr => ∃ k : Nat, k + m = z ∧ i = .int .i64 k ∧ Hid (Blk wr w.heap.size 4 (bools (behTo L M k) z)) ∧ Hid (Below w.heap.size w wr))
  case atStart => exact ⟨0, by omega, rfl, HB0, HW0⟩
  case round =>
    clear HB0 HW0
    obtain ⟨k, hk, rfl, hP, hb⟩ := hrel
    have hz4 : z ≤ 400 := HZ4.out
    by_cases hlt : k < z
    · obtain ⟨wo, rfl⟩ : ∃ wo : World, wo = wr := ⟨_, rfl⟩
      have HRk := Lib.hid (HR.out k hlt)
      have hbs : behTo L M (k + 1) = fun x => behTo L M k x || (M k && memP (el L k) x) := by funext x; rfl
      have hkz : (k : Int) < (z : Int) := by omega
      obtain ⟨adk, A2, n2, c2, rfl, hblk, d0, r2⟩ := ll_at (Mem.rd_below h hb.out) hlt
      have l2 := rd_len r2
      have HL2 := Lib.hid l2
      have DX := Lib.hid (fun W (B : Below w.heap.size wo W) => cell_below B (p := adk.add k) (by rw [add_block]; exact hblk) d0)
      have RX := Lib.hid (fun W (B : Below w.heap.size wo W) => Mem.rd_below r2 B)
      have mx2 := rd_max r2
      unfold maxLen at mx2
      have HMX := Lib.hid mx2
      generalize el L k = row at *
      have HBS := Lib.hid hbs
      have P0 : Hid (Blk wo w.heap.size 4 (bools (fun x => behTo L M k x || (M k && memP (row.take 0) x)) z)) := Lib.hid (by
        have e : (fun x => behTo L M k x || (M k && memP (row.take 0) x)) = behTo L M k := by funext x; simp [memP]
        rw [e]; exact hP.out)
      have HBO : Hid (Below w.heap.size w wo) := hb
      have HBR := Lib.hid (Below.refl w.heap.size wo)
      clear hbs r2 d0 l2 mx2
      go_wp2
      go_loopg [7] n2 (fun m i wq => ∃ j : Nat, j + m = n2 ∧ i = .int .i64 j ∧ Hid (Blk wq w.heap.size 4 (bools (fun x => behTo L M k x || (M k && memP (row.take j) x)) z)) ∧ Hid (Below w.heap.size wo wq))
      case atStart => exact ⟨0, by omega, rfl, P0, HBR⟩
      case round =>
        clear P0 HBR hP hb
        obtain ⟨j, hj, rfl, hQ, hq⟩ := hrel
        have dq := DX.out _ hq.out
        have hbq := HBO.out.trans hq.out
        have hmx := HMX.out
        by_cases hjt : j < n2
        · obtain ⟨adr, e1, hblr, dr⟩ := ((rd_ints.1 (RX.out _ hq.out)).2).int hjt
          subst e1
          have hcm : wr.cell? ⟨g, k, none⟩ = some (.bool (M k)) := by rw [((HM.out.below hbq HGL.out)).cell]; exact bools_at M hlt
          cases hmk : M k
          · rw [hmk] at hcm
            have NX : Hid (∀ i, (fun x => behTo L M k x || (M k && memP (row.take i) x)) = behTo L M k) := Lib.hid (fun i => by funext x; rw [hmk]; simp)
            have hQ' : Hid (Blk wr w.heap.size 4 (bools (behTo L M k) z)) := Lib.hid (by have := hQ.out; rw [NX.out j] at this; exact this)
            clear hmk hQ hbq
            go_wp2
            go_roundg (n2 - (j + 1))
            case measure => omega
            case rel => exact ⟨j + 1, by omega, by go_num, by rw [NX.out]; exact hQ', hq⟩
          · rw [hmk] at hcm
            obtain ⟨x, hx⟩ : ∃ x : Nat, ix row j = x := ⟨(ix row j).toNat, by have := HRk.out j (by rw [HL2.out]; exact hjt); omega⟩
            have hx4 : x < z := by have := HRk.out j (by rw [HL2.out]; exact hjt); omega
            have hx4' : (x : Int) < (z : Int) := by omega
            rw [hx] at dr
            have NX : Hid (addP (fun x => behTo L M k x || (M k && memP (row.take j) x)) x = fun x => behTo L M k x || (M k && memP (row.take (j + 1)) x)) := Lib.hid (by
              rw [take_el (by rw [HL2.out]; exact hjt), show [el row j] = [(x : Int)] by rw [← hx]; rfl, mem_snoc]
              funext y
              unfold addP
              rw [hmk]
              simp [Bool.or_assoc])
            have hcx : wr.cell? ⟨w.heap.size, x, none⟩ = some (.bool (behTo L M k x || (M k && memP (row.take j) x))) := by rw [hQ.out.cell]; exact bools_at _ hx4
            have hf := hQ.out.frozen x
            clear hmk hx hbq
            go_wp2
            go_roundg (n2 - (j + 1))
            case measure => omega
            case rel =>
              refine ⟨j + 1, by omega, by go_num, Lib.hid ?_, Lib.hid (hq.out.setCell (Nat.le_refl _) _)⟩
              rw [← NX.out, ← bools_set _ hx4]
              exact hQ.out.set _ _
        · obtain rfl : j = n2 := by omega
          have NX : Hid ((fun x => behTo L M k x || (M k && memP (row.take j) x)) = behTo L M (k + 1)) := Lib.hid (by rw [HBS.out, List.take_of_length_le (by rw [HL2.out]; omega)])
          have hQ' : Hid (Blk wr w.heap.size 4 (bools (behTo L M (k + 1)) z)) := Lib.hid (by have := hQ.out; rw [NX.out] at this; exact this)
          have HBQ := Lib.hid hbq
          clear hQ hbq
          go_wp2
          go_roundg (z - (k + 1))
          case measure => omega
          case rel => exact ⟨k + 1, by omega, by go_num, hQ', HBQ⟩
    · obtain rfl : k = z := by omega
      go_wp2
      go_ret
      exact ⟨_, rfl, hP.out, Nat.le_refl _, hb.out⟩

theorem ahe_succ (L : List (List Int)) (M : Nat → Bool) (k : Nat) : aheTo L M (k + 1) = fun n => aheTo L M k n || (decide (n = k) && aheAt L M k) := by
  funext n
  unfold aheTo
  by_cases e : n = k
  · subst e
    rw [decide_eq_true (show n < n + 1 by omega), decide_eq_false (show ¬ n < n by omega), decide_eq_true (rfl : n = n)]; simp
  · rw [decide_eq_false e]
    by_cases q : n < k
    · rw [decide_eq_true q, decide_eq_true (show n < k + 1 by omega)]; simp
    · rw [decide_eq_false q, decide_eq_false (show ¬ n < k + 1 by omega)]; simp

set_option maxHeartbeats 2000000 in
theorem l4List_any (P : Nat → Bool) (g z : Nat) (w : World) (hM : Blk w g 4 (bools P z)) (hz : z ≤ 400) :
    Calls Tryz.prog 31 #[.slice (some ⟨g, 0, none⟩) z z] w (GivesInts w (pick P z)) := by
  have HM := Lib.hid hM
  have HG := Lib.hid hM.lt
  have hown0 := World.ownsRow_lit (base := w.heap.size) (e := 3) (size := 1) w #[] 0 (Nat.le_refl _) (by unfold maxLen; omega) rfl
  clear hM
  go_enter Tryz.func31, Tryz.ntmps31
  go_wp2
  go_loopg [3, 4] z (fun m v i wr => ∃ k j : Nat, k + m = z ∧ i = .int .i64 k ∧ Hid (j = (pick P k).length) ∧ j ≤ k ∧ Hid (wr.ownsRow w.heap.size 3 1 v j (ints (pick P k))) ∧ Below w.heap.size w wr)
  case atStart => exact ⟨0, 0, by omega, rfl, Lib.hid rfl, Nat.le_refl _, Lib.hid hown0, below_alloc _ _⟩
  case round =>
    clear hown0
    obtain ⟨k, j, hk, rfl, hj, hjk, ho, hb⟩ := hrel
    by_cases hlt : k < z
    · have hc : wr.cell? ⟨g, k, none⟩ = some (.bool (P k)) := by rw [(HM.out.below hb HG.out).cell]; exact bools_at P hlt
      have hkz : (k : Int) < (z : Int) := by omega
      have HB := Lib.hid hb
      cases hp : P k
      · rw [hp] at hc
        have NX := Lib.hid (pick_gap (P := P) (n := k) (m := k + 1) (by omega) (fun x a b => by rw [show x = k by omega]; exact hp))
        clear hp
        go_wp2
        go_roundg (z - (k + 1))
        case measure => omega
        case rel => exact ⟨k + 1, j, by omega, by go_num, by rw [NX.out]; exact hj, by omega, by rw [NX.out]; exact ho, HB.out⟩
      · rw [hp] at hc
        have NX := Lib.hid (pick_yes (P := P) (Nat.le_refl k) (fun x a b => by omega) hp)
        clear hp
        go_wp2_with (first
          | (at_builtin; refine app_int_at rfl _ _ rfl w.heap.size _ j _ _ _ rfl (ho.out.alloc _) rfl (World.cell?_alloc_at _ _ _ _ (by simp)) (by omega) (by have := HB.out.size; simp; omega) ?_; intro v' w6 ho6 hb6))
        go_roundg (z - (k + 1))
        case measure => omega
        case rel => exact ⟨k + 1, j + 1, by omega, by go_num, by rw [NX.out, List.length_append]; exact Lib.hid (by rw [hj.out]; rfl), by omega, by rw [NX.out]; exact Lib.hid ho6, (HB.out.alloc HB.out.size _).trans hb6⟩
    · obtain rfl : k = z := by omega
      have O := ho.out
      rw [hj.out] at O
      go_wp2
      go_ret
      exact ⟨_, rfl, O, hb⟩
end Go.Proofs.YtfgjogmgcamfdaaGreatDoor
namespace Go.Proofs.YtfgjogmgcamfdaaGreatDoor
open Go.RowKit

/-- The rows of the first k states. -/
def stepsL (s : Sy) (k : Nat) : List (List Int) := (List.range k).map (rowL s)
theorem stepsL_succ (s : Sy) (k : Nat) : stepsL s (k + 1) = stepsL s k ++ [rowL s k] := by unfold stepsL; rw [List.range_succ, List.map_append]; rfl
theorem stepsL_len (s : Sy) (k : Nat) : (stepsL s k).length = k := by simp [stepsL]
theorem stepsL_at (s : Sy) {k i : Nat} (h : i < k) : el (stepsL s k) i = rowL s i := by
  rw [el_lt (by rw [stepsL_len]; exact h)]; simp [stepsL]

set_option maxRecDepth 100000 in
set_option maxHeartbeats 8000000 in
theorem l4Steps_any (s : Sy) (z : Nat) (A1 : Option Addr) (n1 c1 : Nat) (A2 : Option Addr) (n2 c2 : Nat) (w : World) (h1 : Mem.rd w w.heap.size [.slice A1 n1 c1] s.vars) (h2 : Mem.rd w w.heap.size [.slice A2 n2 c2] s.rules)
    (hs : sysB s = true) (hz : (z : Int) = sizeB s) (hz4 : z ≤ 400) :
    Calls Tryz.prog 60 #[.agg #[.slice A1 n1 c1, .slice A2 n2 c2]] w (GivesRL w (stepsL s z)) := by
  have BX := Lib.hid (sy_box (w := w) (v1 := .slice A1 n1 c1) (v2 := .slice A2 n2 c2))
  have ok := sysOk_of hs
  have hso : sizeOf s = z := by unfold sizeOf; rw [if_pos hs, hz]
  have SZ := Lib.hid (fun W (B : Below w.heap.size w W) => sizeOf_spec s A1 n1 c1 A2 n2 c2 W (Mem.rd_on h1 B) (Mem.rd_on h2 B))
  rw [hso] at SZ
  have AC := Lib.hid (fun k (hk : k < z) W (B : Below w.heap.size w W) => l4State_any s k A1 n1 c1 A2 n2 c2 W (Mem.rd_on h1 B) (Mem.rd_on h2 B) hs (by omega) (by omega))
  have NC := Lib.hid (fun k W A n c (B : Below w.heap.size w W) (h : Mem.rd W W.heap.size [.slice A n c] (stL s.vars k)) => l2Next_any s (stL s.vars k) A1 n1 c1 A2 n2 c2 A n c W (Mem.rd_on h1 B) (Mem.rd_on h2 B) h ok (stL_has _ ok.vars))
  have MC := Lib.hid (fun (k : Nat) j (hj : j < (nextL s (stL s.vars k) s.rules.length).length) W A n c (B : Below w.heap.size w W) (h : Mem.rd W W.heap.size [.slice A n c] (el (nextL s (stL s.vars k) s.rules.length) j)) =>
    l4Number_any s (el (nextL s (stL s.vars k) s.rules.length) j) A1 n1 c1 A2 n2 c2 A n c W (Mem.rd_on h1 B) h ok (next_has (el_mem hj)))
  have SL := Lib.hid (fun k => (stL_len s.vars k).trans (rd_len h1))
  have HN1 : Hid (n1 ≤ 5) := Lib.hid (by have := rd_len h1; have := ok.hi; omega)
  have RL8 := Lib.hid (fun (k : Nat) => show (nextL s (stL s.vars k) s.rules.length).length ≤ 256 by
    have h1 := nextL_len s (stL s.vars k) s.rules.length
    have h3 := Nat.pow_le_pow_right (n := 2) (by omega) ok.most
    omega)
  have RW := Lib.hid (fun (k : Nat) => show (nextL s (stL s.vars k) s.rules.length).map (numL s) = rowL s k from rfl)
  have HZ4 := Lib.hid hz4
  clear hso ok hz hs
  have L0 := Lib.hid (LL.lit (w.alloc (.cells #[.slice A1 n1 c1, .slice A2 n2 c2] 32)) 27 (base := w.heap.size + 1) (by simp))
  rw [World.size_alloc] at L0
  go_enter Tryz.func60, Tryz.ntmps60
  go_wp2
  go_loopg [3, 4, 5, 6, 7] z (fun m v i i5 i6 i7 wr => ∃ (k : Nat) (fp : List Nat), k + m = z ∧ i = .int .i64 k ∧ Hid (LL wr (w.heap.size + 1) 27 v k (stepsL s k) fp) ∧ Below (w.alloc (.cells #[.slice A1 n1 c1, .slice A2 n2 c2] 32)).heap.size (w.alloc (.cells #[.slice A1 n1 c1, .slice A2 n2 c2] 32)) wr)
  case atStart => exact ⟨0, _, by omega, rfl, L0, below_alloc _ _⟩
  case round =>
    clear L0
    obtain ⟨k, fp, hk, rfl, hL, hb⟩ := hrel
    obtain ⟨B, x0, x1⟩ := BX.out _ hb
    have hz4 : z ≤ 400 := HZ4.out
    go_wp2_with fail
    refine (SZ.out _ B).mono ?_
    rintro e w4 ⟨rfl, b4⟩
    have hb4 := hb.trans (b4.mono hb.size)
    have L4 := Lib.hid (hL.out.below b4)
    obtain ⟨B4, y0, y1⟩ := BX.out _ hb4
    clear x0 x1
    by_cases hlt : k < z
    · have B4d : Below w.heap.size w w4.drew := ⟨B4.os, B4.tape, B4.output, B4.size, B4.block⟩
      have ls4 : w.heap.size < w4.heap.size := by have := hb4.size; rw [World.size_alloc] at this; exact this
      have AK := Lib.hid (AC.out k hlt w4.drew B4d)
      go_wp2
      go_region_held3 (fun w' => w'.cell? ⟨w.heap.size, 0, none⟩ = some (.slice A1 n1 c1) ∧ w'.cell? ⟨w.heap.size, 1, none⟩ = some (.slice A2 n2 c2)) (first | go_keep | with_reducible exact ⟨y0, y1⟩ | with_reducible exact ⟨z0, z1⟩ | with_reducible exact ⟨u0, u1⟩ | fail)
        (first
          | (go_at_call 68; refine (AK.out).mono ?_; rintro e w5 ⟨v5, rfl, o5, b5⟩
             have z0 := cell_below b5 (p := ⟨w.heap.size, 0, none⟩) ls4 y0
             have z1 := cell_below b5 (p := ⟨w.heap.size, 1, none⟩) ls4 y1
             rw [SL.out k] at o5
             obtain ⟨A5, c5, rfl, _, _⟩ := own_form o5
             obtain ⟨f5, om5, _, _⟩ := mem_ints (l := stL s.vars k) (by rw [SL.out]; exact o5) (by rw [SL.out]; have := HN1.out; unfold maxLen; omega)
             rw [SL.out k] at om5
             have b5' : Below w4.heap.size w4 w5 := ⟨b5.os, b5.tape, b5.output, b5.size, b5.block⟩
             have NK := Lib.hid (NC.out k w5 A5 n1 c5 (B4.trans (b5'.mono B4.size)) (Mem.own_rd om5)))
          | (go_at_call 67; refine (NK.out).mono ?_; rintro e w6 ⟨A6, n6, c6, rfl, r6, b6⟩
             have u0 := cell_below b6 (p := ⟨w.heap.size, 0, none⟩) (Nat.lt_of_lt_of_le ls4 b5.size) z0
             have u1 := cell_below b6 (p := ⟨w.heap.size, 1, none⟩) (Nat.lt_of_lt_of_le ls4 b5.size) z1))
      have b46 := b5'.trans (b6.mono b5'.size)
      have hb6 := hb4.trans (b46.mono hb4.size)
      have L6 := Lib.hid (L4.out.below b46)
      have l6 := rd_len r6
      have MK := MC.out k
      have RK := RL8.out k
      have RWK := RW.out k
      generalize nextL s (stL s.vars k) s.rules.length = NL at *
      have R6 := Lib.hid r6
      have HL6 := Lib.hid l6
      have MK := Lib.hid MK
      have hn6 : n6 ≤ 256 := by omega
      have HB6 := Lib.hid hb6
      have I6 := Lib.hid (IL.lit w6 3 (base := w6.heap.size) (Nat.le_refl _))
      clear r6 l6 RK o5 om5 y0 y1 z0 z1 u0 u1 hb b5 b4 b5' b46 NK AK B4d
      go_wp2
      go_loopg [6, 7] n6 (fun m v6 i wr => ∃ (j : Nat) (fr : List Nat), j + m = n6 ∧ i = .int .i64 j ∧ Hid (IL wr w6.heap.size 3 v6 j ((NL.take j).map (numL s)) fr) ∧ Below w6.heap.size w6 wr)
      case atStart => exact ⟨0, _, by omega, rfl, I6, below_alloc _ _⟩
      case round =>
        clear I6
        obtain ⟨j, fr, hj, rfl, hI, hq⟩ := hrel
        have hbq := HB6.out.trans (hq.mono HB6.out.size)
        obtain ⟨Bq, x0, x1⟩ := BX.out _ hbq
        by_cases hjt : j < n6
        · obtain ⟨ad, A7, n7, c7, rfl, hbl, d0, r7⟩ := ll_at (Mem.rd_below R6.out hq) hjt
          have Bqd : Below w.heap.size w wr.drew := ⟨Bq.os, Bq.tape, Bq.output, Bq.size, Bq.block⟩
          have hsq := hq.size
          have MQ := Lib.hid (MK.out j (by rw [HL6.out]; exact hjt) wr.drew A7 n7 c7 Bqd (show Mem.rd wr.drew wr.drew.heap.size _ _ from Mem.rd_more r7 hsq))
          have RT : Hid ((NL.take (j + 1)).map (numL s) = (NL.take j).map (numL s) ++ [numL s (el NL j)]) := Lib.hid (by rw [take_el (by rw [HL6.out]; exact hjt), List.map_append]; rfl)
          generalize numL s (el NL j) = nu at MQ RT
          have lw : w.heap.size < wr.heap.size := by have := hbq.size; rw [World.size_alloc] at this; exact this
          have HHQ := Lib.hid hq
          have HLW := Lib.hid lw
          have HSQ := Lib.hid hsq
          clear r7 Bqd hq hbq lw hsq
          go_wp2
          go_region_law (first
            | (go_simp; go_at_call 93; refine (MQ.out).mono ?_; rintro e w8 ⟨rfl, b8⟩
               have b8' : Below wr.heap.size wr w8 := ⟨b8.os, b8.tape, b8.output, b8.size, b8.block⟩
               have I8 := Lib.hid (fun o => (hI.out.below b8').below (below_alloc w8 o)))
            | (refine step_il rfl _ _ rfl rfl (I8.out _) rfl (World.cell?_alloc_at _ _ _ _ rfl) (by omega) (by rw [World.size_alloc]; have := HSQ.out; have := b8'.size; omega) ?_; intro A9 c9 w9 f9 l9 on9 in9))
          all_goals
            have lo9 := (I8.out (.cells #[.int .i64 nu] 3)).lt
            have b89 : Below w6.heap.size w6 w9 := ((HHQ.out.trans (b8'.mono HSQ.out)).alloc (Nat.le_trans HSQ.out b8'.size) _).trans (on9.below (by rw [World.size_alloc]; have := HSQ.out; have := b8'.size; omega) fun b hb => (lo9 b hb).1)
            have HB9 := Lib.hid b89
            clear b89 lo9
            go_wp2
            go_roundg (n6 - (j + 1))
            case measure => omega
            case rel => exact ⟨j + 1, f9, by omega, by go_num, by rw [RT.out]; exact Lib.hid l9, HB9.out⟩
        · obtain rfl : j = n6 := by omega
          have I := hI.out
          rw [List.take_of_length_le (by rw [HL6.out]; omega), RWK] at I
          obtain ⟨om, nd⟩ := I.out (by unfold maxLen; omega)
          have lo := I.lt
          obtain ⟨A8, c8, rfl⟩ := row_slice I.1
          have HOM := Lib.hid (fun o => Mem.own_below om (below_alloc wr o))
          have HND := Lib.hid nd
          have HLO := Lib.hid (fun b hb => (lo b hb).1)
          have HBQ := Lib.hid (fun o => hq.trans ((below_alloc wr o).mono hq.size))
          have HS6 : Hid (w.heap.size + 1 ≤ w6.heap.size) := Lib.hid (by have := HB6.out.size; rw [World.size_alloc] at this; exact this)
          clear I om nd lo hq hbq
          go_wp2_with (first
            | (at_builtin; refine app_ll rfl _ _ rfl rfl L6.out (HBQ.out _) (HOM.out _) HND.out HLO.out rfl (World.cell?_alloc_at _ _ _ _ (by simp)) (by omega) HS6.out ?_; intro v9 w9 f9 q1 q2 q3))
          go_roundg (z - (k + 1))
          case measure => omega
          case rel =>
            refine ⟨k + 1, f9, by omega, by go_num, by rw [stepsL_succ]; exact Lib.hid q1, (HB6.out.trans ((HBQ.out _).mono HB6.out.size)).trans (q2.below ?_ fun b hb => by rw [World.size_alloc]; exact (L6.out.lt b hb).1)⟩
            have := (HBQ.out (.cells #[.slice A8 j c8] 27)).size
            have := HS6.out
            rw [World.size_alloc]
            omega
    · obtain rfl : k = z := by omega
      have hO := L4.out.out (by unfold maxLen; omega)
      obtain ⟨Av, cv, rfl⟩ := row_slice L4.out.2.2.choose_spec.choose_spec.1
      have HO := Lib.hid (Mem.own_rd hO)
      clear hO
      go_wp2
      go_ret
      exact ⟨_, _, _, rfl, HO.out, B4⟩
end Go.Proofs.YtfgjogmgcamfdaaGreatDoor
namespace Go.Proofs.YtfgjogmgcamfdaaGreatDoor
open Go.RowKit

theorem beh_steps {s : Sy} (ok : SysOk s) (M : Nat → Bool) (z x : Nat) : behTo (stepsL s z) M z x = behP s M z x := by
  apply bool_iff
  unfold behTo behP
  rw [some_iff, some_iff]
  constructor
  · rintro ⟨n, hn, h⟩
    refine ⟨n, hn, ?_⟩
    rw [stepsL_at s hn, row_mem ok] at h
    exact h
  · rintro ⟨n, hn, h⟩
    refine ⟨n, hn, ?_⟩
    rw [stepsL_at s hn, row_mem ok]
    exact h
theorem row_ix {s : Sy} (ok : SysOk s) {n x : Nat} : nxP s (stL s.vars n) s.rules.length x = true ↔ ∃ i, i < (rowL s n).length ∧ (ix (rowL s n) i).toNat = x := by
  rw [← row_mem ok]
  unfold memP
  rw [decide_eq_true_eq]
  constructor
  · intro h
    obtain ⟨i, hi, e⟩ := List.getElem_of_mem h
    exact ⟨i, hi, by rw [ix_lt hi, e]; rfl⟩
  · rintro ⟨i, hi, e⟩
    have hr := row_range ok (n := n) i hi
    have : (x : Int) = (rowL s n)[i] := by rw [← ix_lt hi]; omega
    rw [this]
    exact List.getElem_mem hi
theorem ahe_steps {s : Sy} (ok : SysOk s) (M : Nat → Bool) {z n : Nat} (hz : (z : Int) = sizeB s) (hn : n < z) : aheTo (stepsL s z) M z n = aheP s M z n := by
  apply bool_iff
  unfold aheTo aheAt aheP
  rw [decide_eq_true hn, Bool.true_and, stepsL_at s hn, some_iff, some_iff]
  constructor
  · rintro ⟨i, hi, h⟩
    have hr := row_range ok (n := n) i hi
    refine ⟨(ix (rowL s n) i).toNat, by omega, ?_⟩
    rw [h, (row_ix ok).2 ⟨i, hi, rfl⟩]; rfl
  · rintro ⟨x, hx, h⟩
    rw [Bool.and_eq_true] at h
    obtain ⟨i, hi, e⟩ := (row_ix ok).1 h.2
    exact ⟨i, hi, by rw [e]; exact h.1⟩
theorem steps_range {s : Sy} (ok : SysOk s) {z : Nat} (hz : (z : Int) = sizeB s) : ∀ n, n < z → ∀ k, k < (el (stepsL s z) n).length → 0 ≤ ix (el (stepsL s z) n) k ∧ ix (el (stepsL s z) n) k < z := fun n hn k hk => by
  rw [stepsL_at s hn] at hk ⊢
  have := row_range ok k hk
  omega

set_option maxRecDepth 100000 in
set_option maxHeartbeats 8000000 in
theorem nextNumbers_spec (s : Sy) (l : List Int) (A1 : Option Addr) (n1 c1 : Nat) (A2 : Option Addr) (n2 c2 : Nat) (A3 : Option Addr) (n3 c3 : Nat) (w : World) (h1 : Mem.rd w w.heap.size [.slice A1 n1 c1] s.vars) (h2 : Mem.rd w w.heap.size [.slice A2 n2 c2] s.rules) (h3 : Mem.rd w w.heap.size [.slice A3 n3 c3] l) :
    Calls Tryz.prog 95 #[.agg #[.slice A1 n1 c1, .slice A2 n2 c2], .slice A3 n3 c3] w (GivesL w (nextNumB s l)) := by
  have BX := Lib.hid (sy_box (w := w) (v1 := .slice A1 n1 c1) (v2 := .slice A2 n2 c2))
  have SV := Lib.hid (fun o => setValid_spec s l A1 n1 c1 A2 n2 c2 A3 n3 c3 (w.alloc o) (Mem.rd_on_alloc h1 o) (Mem.rd_on_alloc h2 o) (Mem.rd_on_alloc h3 o))
  obtain ⟨F, hF⟩ : ∃ F, F = nextNumB s l := ⟨_, rfl⟩
  rw [← hF]
  cases hz : setB s l
  · have E : Hid (F = []) := Lib.hid (by rw [hF]; unfold nextNumB; rw [hz]; rfl)
    have HZ := Lib.hid hz; clear hz hF
    go_enter Tryz.func95, Tryz.ntmps95
    go_wp2_with fail
    refine (SV.out _).mono ?_
    rintro e w2 ⟨rfl, b2⟩
    rw [HZ.out]
    go_wp2
    go_ret
    rw [E.out]
    exact ⟨none, 0, 0, [], rfl, own_none _, List.nodup_nil, by simp, below_call b2⟩
  · have hz' := hz
    unfold setB at hz'
    rw [Bool.and_eq_true] at hz'
    have ok := sysOk_of hz'.1
    have hbd := sizeB_bd hz'.1
    obtain ⟨z, hzz⟩ : ∃ z : Nat, (z : Int) = sizeB s := ⟨(sizeB s).toNat, by omega⟩
    have hz4 : z ≤ 400 := by omega
    have E : Hid (F = pick (behTo (stepsL s z) (memP l) z) z) := Lib.hid (by
      rw [hF]; unfold nextNumB; rw [hz, ← hzz]
      exact (pick_congr fun x _ => beh_steps ok _ z x).symm)
    have TC := Lib.hid (fun W (B : Below w.heap.size w W) => l4Steps_any s z A1 n1 c1 A2 n2 c2 W (Mem.rd_on h1 B) (Mem.rd_on h2 B) hz'.1 hzz hz4)
    have hso : sizeOf s = z := by unfold sizeOf; rw [if_pos hz'.1, hzz]
    have SZ := Lib.hid (fun W (B : Below w.heap.size w W) => sizeOf_spec s A1 n1 c1 A2 n2 c2 W (Mem.rd_on h1 B) (Mem.rd_on h2 B))
    rw [hso] at SZ
    have KC := Lib.hid (fun W (B : Below w.heap.size w W) => l4Marks_any l A3 n3 c3 z W (Mem.rd_on h3 B) (fun k hk => by have := sets_range hz'.2 k hk; omega) hz4)
    have BC := Lib.hid (fun A c g W h hM => l4Behind_any (stepsL s z) (memP l) A z c g W h hM hz4 (steps_range ok hzz))
    have LC := Lib.hid (fun P g W hM => l4List_any P g z W hM hz4)
    have HLN := Lib.hid (stepsL_len s z)
    generalize memP l = M at *
    generalize stepsL s z = L at *
    generalize behTo L M z = R at *
    have HPL := Lib.hid (pick_len R z)
    have HZ := Lib.hid hz; have HZ4 := Lib.hid hz4; clear hz hF hz' ok hbd hzz hz4 hso
    go_enter Tryz.func95, Tryz.ntmps95
    go_wp2_with fail
    refine (SV.out _).mono ?_
    rintro e w2 ⟨rfl, b2⟩
    rw [HZ.out]
    obtain ⟨B2, x0, x1⟩ := BX.out _ b2
    have TK := Lib.hid (TC.out w2.drew ⟨B2.os, B2.tape, B2.output, B2.size, B2.block⟩)
    have HB2 := Lib.hid b2
    clear b2 B2
    go_wp2
    go_region_law (first
      | (go_simp; go_at_call 60; refine (TK.out).mono ?_; rintro e w3 ⟨A4, n4, c4, rfl, r4, b3⟩
         obtain rfl : n4 = z := (rd_len r4).symm.trans HLN.out
         have b23 : Below w2.heap.size w2 w3 := ⟨b3.os, b3.tape, b3.output, b3.size, b3.block⟩
         have hb3 := HB2.out.trans (b23.mono HB2.out.size)
         obtain ⟨B3, y0, y1⟩ := BX.out _ hb3
         have R4 := Lib.hid r4
         have SK := Lib.hid (SZ.out w3 B3)
         clear r4)
      | (go_simp; go_at_call 62; refine (SK.out).mono ?_; rintro e w5 ⟨rfl, b5⟩
         have hb5 := hb3.trans (b5.mono hb3.size)
         obtain ⟨B5, z0, z1⟩ := BX.out _ hb5
         have KK := Lib.hid (KC.out w5 B5))
      | (go_simp; go_at_call 61; refine (KK.out).mono ?_; rintro e w6 ⟨g6, rfl, m6, l6, b6⟩
         have b36 := b5.trans (b6.mono b5.size)
         have R6 := Lib.hid (Mem.rd_on R4.out b36)
         have BK := Lib.hid (BC.out A4 c4 g6 w6 R6.out m6)
         have hb6 := hb5.trans (b6.mono hb5.size)
         clear m6)
      | (go_simp; go_at_call 117; refine (BK.out).mono ?_; rintro e w7 ⟨g7, rfl, m7, l7, b7⟩
         have hb7 := hb6.trans (b7.mono hb6.size)
         have LK := Lib.hid (LC.out R g7 w7 m7)
         clear m7)
      | (go_simp; go_at_call 31; refine (LK.out).mono ?_; rintro e w8 g8
         obtain ⟨v8, rfl, o8, b8⟩ := g8
         have hb8 := Lib.hid (hb7.trans (b8.mono hb7.size))
         have O8 := Lib.hid o8
         have L7 := Lib.hid (BX.out _ hb7).1.size
         clear o8))
    all_goals
      go_wp2
      go_ret
      rw [E.out]
      exact givesL_of ⟨v8, rfl, own_lower O8.out L7.out, (BX.out _ hb8.out).1⟩ (by have := HPL.out; have := HZ4.out; unfold maxLen; omega)
end Go.Proofs.YtfgjogmgcamfdaaGreatDoor
