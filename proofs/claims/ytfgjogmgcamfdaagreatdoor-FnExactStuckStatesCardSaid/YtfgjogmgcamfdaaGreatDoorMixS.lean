/- Two sets of numbers together, of the model. -/
import Derived.Test.YtfgjogmgcamfdaaGreatDoorWl
import Derived.Test.YtfgjogmgcamfdaaGreatDoorSysC
import Derived.Test.YtfgjogmgcamfdaaGreatDoorWord
import Derived.Test.YtfgjogmgcamfdaaGreatDoorIntApp
import Derived.Test.YtfgjogmgcamfdaaGreatDoorIl
import Derived.Deep.QuietTactic
import Derived.BigQuiet
import Derived.Laws.MakeOwn
namespace Go.Proofs.YtfgjogmgcamfdaaGreatDoor
open Go.RowKit

/-- Two sets together by an operation; nothing if one of both is none. -/
def mixL (G : (Nat → Bool) → (Nat → Bool) → Nat → Bool) (a b : List Int) : List Int := if setsB a 400 && setsB b 400 then pick (G (memP a) (memP b)) 448 else []
theorem mixL_len (G : (Nat → Bool) → (Nat → Bool) → Nat → Bool) (a b : List Int) : (mixL G a b).length ≤ 1000000 := by
  unfold mixL
  split
  · exact Nat.le_trans (pick_len _ _) (by omega)
  · simp
theorem sets_range {l : List Int} {z : Int} (h : setsB l z = true) : ∀ k, k < l.length → 0 ≤ ix l k ∧ ix l k < z := fun k hk => by
  have := asc_at h k hk
  omega
theorem mem_out {l : List Int} {z : Int} (h : setsB l z = true) {x : Nat} (hx : z ≤ x) : memP l x = false := by
  unfold memP
  apply decide_eq_false
  intro hm
  obtain ⟨k, hk, e⟩ := List.getElem_of_mem hm
  have := (sets_range h k hk).2
  rw [ix_lt hk, e] at this
  omega
def gBoth (P Q : Nat → Bool) : Nat → Bool := fun x => P x && Q x
def gEither (P Q : Nat → Bool) : Nat → Bool := fun x => P x || Q x
def gWithout (P Q : Nat → Bool) : Nat → Bool := fun x => P x && !Q x

end Go.Proofs.YtfgjogmgcamfdaaGreatDoor
namespace Go.Proofs.YtfgjogmgcamfdaaGreatDoor
open Go.RowKit

set_option maxRecDepth 100000 in
set_option maxHeartbeats 4000000 in
theorem l4Set_any (l : List Int) (A3 : Option Addr) (n c3 : Nat) (w : World) (h3 : Mem.rd w w.heap.size [.slice A3 n c3] l) :
    Calls Tryz.prog 113 #[.slice A3 n c3] w (GivesBool w (setsB l 400)) := by
  have m3 := rd_max h3
  unfold maxLen at m3
  have E : Hid (setsB l 400 = allTo (ascOk l 400) n) := Lib.hid (by unfold setsB; rw [rd_len h3])
  have h3' := (rd_ints.1 h3).2
  go_enter Tryz.func113, Tryz.ntmps113
  go_wp2
  go_loopg [3] n (fun m i wr => ∃ k : Nat, k + m = n ∧ i = .int .i64 k ∧ Hid (allTo (ascOk l 400) k = true) ∧ Below w.heap.size w wr)
  case atStart => exact ⟨0, by omega, rfl, Lib.hid rfl, Below.refl _ _⟩
  case round =>
    obtain ⟨k, hk, rfl, ha, hb⟩ := hrel
    by_cases hlt : k < n
    · obtain ⟨ad', rfl, hbl', hc'⟩ := (h3'.below hb).int hlt
      have hsp : ascOk l 400 k = (inB (ix l k) 0 399 && (decide (k = 0) || decide (ix l (k - 1) < ix l k))) := asc_spec ha.out
      cases q1 : inB (ix l k) 0 399
      · have HF : Hid (setsB l 400 = false) := Lib.hid (by rw [E.out, allTo_false (f := ascOk l 400) hlt (by rw [hsp, q1]; rfl)])
        clear hsp
        have Q1 := Lib.hid q1; clear q1
        go_wp2
        go_quiet ((go_at_call 83; exact Calls.quiet_of_same ((l1In_any _ _ _ _).mono fun _ _ h => ⟨h.1.trans (by rw [Q1.out]), h.2.symm⟩)))
        go_wp2
        go_ret
        exact ⟨(congrArg (fun b => Ending.returned (.bool b)) HF.out).symm, hb.trans ⟨rfl, rfl, rfl, Nat.le_refl _, fun _ _ => rfl⟩⟩
      have Q1 := Lib.hid q1
      by_cases k0 : k = 0
      · have hasc : ascOk l 400 k = true := by rw [hsp, q1, decide_eq_true k0]; rfl
        have kz' : ¬ (0 : Int) < (k : Int) := by omega
        have kd : decide ((0 : Int) < (k : Int)) = false := decide_eq_false kz'
        have kd' : decide (0 < k) = false := decide_eq_false (by omega)
        clear q1 hsp k0
        have HA : Hid (allTo (ascOk l 400) (k + 1) = true) := Lib.hid (by show (allTo (ascOk l 400) k && ascOk l 400 k) = true; rw [ha.out, hasc]; rfl)
        clear hasc
        go_wp2
        go_quiet ((go_at_call 83; exact Calls.quiet_of_same ((l1In_any _ _ _ _).mono fun _ _ h => ⟨h.1.trans (by rw [Q1.out]), h.2.symm⟩)))
        go_wp2
        go_roundg (n - (k + 1))
        case measure => omega
        case rel => exact ⟨k + 1, by omega, by go_num, HA, hb.trans ⟨rfl, rfl, rfl, Nat.le_refl _, fun _ _ => rfl⟩⟩
      · obtain ⟨j, hj⟩ : ∃ j, j + 1 = k := ⟨k - 1, by omega⟩
        obtain ⟨_, he, _, hcj⟩ := (h3'.below hb).int (show j < n by omega)
        injection he with he
        subst he
        have kp : (0 : Int) < (k : Int) := by omega
        have kp' : 0 < k := by omega
        have wk : IntKind.i64.wrap ((k : Int) - 1) = (j : Int) := by rw [show (k : Int) - 1 = (j : Int) by omega]; exact IntWalk.i64_in _ (by omega)
        have hjn : (j : Int) < n := by omega
        have hsp : ascOk l 400 k = (inB (ix l k) 0 399 && (decide (k = 0) || decide (ix l j < ix l k))) := by rw [hsp, ← hj]; rfl
        clear k0 hj
        cases q2 : decide (ix l j < ix l k)
        · have hle : ix l k ≤ ix l j := by simpa using q2
          have HF : Hid (setsB l 400 = false) := Lib.hid (by rw [E.out, allTo_false (f := ascOk l 400) hlt (by rw [hsp, q1, q2, decide_eq_false (show ¬ k = 0 by omega)]; rfl)])
          clear hsp q1 q2
          go_wp2
          go_quiet ((go_at_call 83; exact Calls.quiet_of_same ((l1In_any _ _ _ _).mono fun _ _ h => ⟨h.1.trans (by rw [Q1.out]), h.2.symm⟩)))
          go_wp2
          go_ret
          exact ⟨(congrArg (fun b => Ending.returned (.bool b)) HF.out).symm, hb.trans ⟨rfl, rfl, rfl, Nat.le_refl _, fun _ _ => rfl⟩⟩
        · have hle : ¬ ix l k ≤ ix l j := by simp at q2; omega
          have hle' : decide (ix l k ≤ ix l j) = false := decide_eq_false hle
          have HA : Hid (allTo (ascOk l 400) (k + 1) = true) := Lib.hid (by show (allTo (ascOk l 400) k && ascOk l 400 k) = true; rw [ha.out, hsp, q1, q2]; simp)
          clear hsp q1 q2
          go_wp2
          go_quiet ((go_at_call 83; exact Calls.quiet_of_same ((l1In_any _ _ _ _).mono fun _ _ h => ⟨h.1.trans (by rw [Q1.out]), h.2.symm⟩)))
          go_wp2
          go_roundg (n - (k + 1))
          case measure => omega
          case rel => exact ⟨k + 1, by omega, by go_num, HA, hb.trans ⟨rfl, rfl, rfl, Nat.le_refl _, fun _ _ => rfl⟩⟩
    · obtain rfl : k = n := by omega
      have HF : Hid (setsB l 400 = true) := Lib.hid (E.out.trans ha.out)
      go_wp2
      go_ret
      exact ⟨(congrArg (fun b => Ending.returned (.bool b)) HF.out).symm, hb⟩

/-- The marks of a set, as a row of truths. -/
def bools (P : Nat → Bool) (n : Nat) : List Value := (List.range n).map fun x => .bool (P x)
theorem bools_len (P : Nat → Bool) (n : Nat) : (bools P n).length = n := by simp [bools]
theorem bools_at (P : Nat → Bool) {n x : Nat} (h : x < n) : (bools P n)[x]? = some (.bool (P x)) := by simp [bools, h]
theorem bools_set (P : Nat → Bool) {n x : Nat} (h : x < n) : (bools P n).set x (.bool true) = bools (addP P x) n := by
  apply List.ext_getElem?
  intro j
  rw [List.getElem?_set, bools_len]
  by_cases hj : j < n
  · rw [bools_at _ hj, bools_at _ hj]
    unfold addP
    by_cases e : x = j
    · subst e; simp [h]
    · rw [if_neg e, decide_eq_false (show ¬ j = x by omega)]; simp
  · rw [if_neg (by omega), List.getElem?_eq_none (by rw [bools_len]; omega), List.getElem?_eq_none (by rw [bools_len]; omega)]
theorem bools_succ (P : Nat → Bool) (n : Nat) : bools P (n + 1) = bools P n ++ [.bool (P n)] := by unfold bools; rw [List.range_succ, List.map_append]; rfl
theorem cat_bools : ∀ n, cat (fun _ => [Value.bool false]) n = bools (fun _ => false) n
  | 0 => rfl
  | n + 1 => by rw [bools_succ, ← cat_bools n, cat_succ]
theorem bool_info : (Tryz.prog.info? 4).map (fun i => (i.zero, i.size, i.bytes)) = some (some (.bool false), 1, 1) := by kernel_rfl
noncomputable def boolRow : TypeInfo := Classical.choose (info_parts bool_info)
theorem bool_row : Tryz.prog.info? 4 = some boolRow ∧ boolRow.zero = some (.bool false) ∧ boolRow.size = 1 ∧ boolRow.bytes = 1 := Classical.choose_spec (info_parts bool_info)
/-- The call gives a new row of truths. -/
def GivesMarks (w : World) (P : Nat → Bool) (n : Nat) (e : Ending) (w' : World) : Prop :=
  ∃ g, e = .returned (.slice (some ⟨g, 0, none⟩) n n) ∧ Blk w' g 4 (bools P n) ∧ w.heap.size ≤ g ∧ Below w.heap.size w w'

set_option maxHeartbeats 2000000 in
theorem l4Marks_any (l : List Int) (A : Option Addr) (n c : Nat) (z : Nat) (w : World) (h : Mem.rd w w.heap.size [.slice A n c] l) (hr : ∀ k, k < l.length → 0 ≤ ix l k ∧ ix l k < z) (hz : z ≤ 400) :
    Calls Tryz.prog 61 #[.slice A n c, .int .i64 z] w (GivesMarks w (memP l) z) := by
  have hm := rd_max h
  unfold maxLen at hm
  have hl := rd_len h
  have HR := Lib.hid (fun k (hk : k < n) => hr k (by omega))
  have HN := Lib.hid (fun k (hk : k < n) (x : Nat) (hx : ix l k = x) => show addP (memP (l.take k)) x = memP (l.take (k + 1)) by rw [take_el (by omega), ← mem_snoc, ← hx]; rfl)
  have E : Hid (memP (l.take n) = memP l) := Lib.hid (by rw [List.take_of_length_le (by omega)])
  generalize memP l = F at E ⊢
  have h' := (rd_ints.1 h).2
  clear h hl hr
  go_enter Tryz.func61, Tryz.ntmps61
  go_wp2_with (first | (at_make; refine wpList_make_full _ rfl _ _ 54 rfl w.heap.size 4 boolRow _ 1 Tryz.underlying54 bool_row.1 bool_row.2.1 bool_row.2.2.1 _ _ _ _ z rfl rfl rfl rfl (by rw [bool_row.2.2.2]; omega) (by unfold maxLen; omega) (Nat.le_refl _) ?_; intro w1 hown hg))
  have hbw := (Below.refl w.heap.size w).grown hg (Nat.le_refl _) (by simp)
  have hblk := (Blk.of_own hown).1
  have hblk : Blk w1 w.heap.size 4 (bools (memP (l.take 0)) z) := by
    show Blk w1 w.heap.size 4 (bools (memP []) z)
    rw [mem_nil, ← cat_bools]
    exact made_cat #[.bool false] z ▸ hblk
  have HB0 := Lib.hid hblk
  have HW0 := Lib.hid hbw
  clear hown hg hblk hbw
  go_loopg [6] n (fun m i wr => ∃ k : Nat, k + m = n ∧ i = .int .i64 k ∧ Hid (Blk wr w.heap.size 4 (bools (memP (l.take k)) z)) ∧ Hid (Below w.heap.size w wr))
  case atStart => exact ⟨0, by omega, rfl, HB0, HW0⟩
  case round =>
    clear HB0 HW0
    obtain ⟨k, hk, rfl, hz', hb⟩ := hrel
    by_cases hlt : k < n
    · obtain ⟨ad, rfl, hbl, hc⟩ := (h'.below hb.out).int hlt
      obtain ⟨x, hx⟩ : ∃ x : Nat, ix l k = x := ⟨(ix l k).toNat, by have := HR.out k hlt; omega⟩
      have hx4 : x < z := by have := HR.out k hlt; omega
      have hx4' : (x : Int) < (z : Int) := by omega
      rw [hx] at hc
      have NX := Lib.hid (HN.out k hlt x hx)
      generalize memP (l.take k) = Q at *
      have hcx : wr.cell? ⟨w.heap.size, x, none⟩ = some (.bool (Q x)) := by rw [hz'.out.cell]; exact bools_at Q hx4
      have hf := hz'.out.frozen x
      clear hx
      go_wp2
      go_roundg (n - (k + 1))
      case measure => omega
      case rel =>
        refine ⟨k + 1, by omega, by go_num, Lib.hid ?_, Lib.hid (hb.out.setCell (Nat.le_refl _) _)⟩
        rw [← NX.out, ← bools_set Q hx4]
        exact hz'.out.set _ _
    · obtain rfl : k = n := by omega
      have Z := hz'.out
      rw [E.out] at Z
      have Z := Lib.hid Z
      go_wp2
      go_ret
      exact ⟨_, rfl, Z.out, Nat.le_refl _, hb.out⟩

set_option maxRecDepth 100000 in
set_option maxHeartbeats 4000000 in
theorem l4Mix_both (a b : List Int) (A1 : Option Addr) (n1 c1 : Nat) (A2 : Option Addr) (n2 c2 : Nat) (w : World) (h1 : Mem.rd w w.heap.size [.slice A1 n1 c1] a) (h2 : Mem.rd w w.heap.size [.slice A2 n2 c2] b) :
    Calls Tryz.prog 87 #[.slice A1 n1 c1, .slice A2 n2 c2, .int .i64 0] w (GivesL w (mixL gBoth a b)) := by
  have CA := Lib.hid (fun W (B : Below w.heap.size w W) => l4Set_any a A1 n1 c1 W (Mem.rd_on h1 B))
  have CB := Lib.hid (fun W (B : Below w.heap.size w W) => l4Set_any b A2 n2 c2 W (Mem.rd_on h2 B))
  obtain ⟨F, hF⟩ : ∃ F, F = mixL gBoth a b := ⟨_, rfl⟩
  rw [← hF]
  have hown0 := World.ownsRow_lit (base := w.heap.size) (e := 3) (size := 1) w #[] 0 (Nat.le_refl _) (by unfold maxLen; omega) rfl
  cases hz1 : setsB a 400
  · have E : Hid (F = []) := Lib.hid (by rw [hF]; unfold mixL; rw [hz1]; rfl)
    have HZ := Lib.hid hz1; clear hz1 hF
    go_enter Tryz.func87, Tryz.ntmps87
    go_wp2_with fail
    refine (CA.out _ (below_alloc _ _)).mono ?_
    rintro e w2 ⟨rfl, b2⟩
    rw [HZ.out]
    go_wp2
    go_ret
    rw [E.out]
    exact givesL_of ⟨_, rfl, own_below hown0 b2, below_call b2⟩ (by unfold maxLen; simp)
  · cases hz2 : setsB b 400
    · have E : Hid (F = []) := Lib.hid (by rw [hF]; unfold mixL; rw [hz1, hz2]; rfl)
      have HZ := Lib.hid hz1; have HZ2 := Lib.hid hz2; clear hz1 hz2 hF
      go_enter Tryz.func87, Tryz.ntmps87
      go_wp2_with fail
      refine (CA.out _ (below_alloc _ _)).mono ?_
      rintro e w2 ⟨rfl, b2⟩
      rw [HZ.out]
      go_wp2_with fail
      refine (CB.out _ (below_call b2)).mono ?_
      rintro e w3 ⟨rfl, b3⟩
      rw [HZ2.out]
      have B3 := b2.trans (b3.mono b2.size)
      go_wp2
      go_ret
      rw [E.out]
      exact givesL_of ⟨_, rfl, own_below hown0 B3, below_call B3⟩ (by unfold maxLen; simp)
    · have E : Hid (F = pick (gBoth (memP a) (memP b)) 400) := Lib.hid (by
        rw [hF]; unfold mixL; rw [hz1, hz2]
        exact pick_gap (by omega) fun x g1 g2 => by unfold gBoth; rw [mem_out hz1 (by omega), mem_out hz2 (by omega)]; rfl)
      have SA := Lib.hid (fun W (B : Below w.heap.size w W) => l4Marks_any a A1 n1 c1 400 W (Mem.rd_on h1 B) (fun k hk => by have := sets_range hz1 k hk; omega) (by omega))
      have SB := Lib.hid (fun W (B : Below w.heap.size w W) => l4Marks_any b A2 n2 c2 400 W (Mem.rd_on h2 B) (fun k hk => by have := sets_range hz2 k hk; omega) (by omega))
      have HZ := Lib.hid hz1; have HZ2 := Lib.hid hz2; clear hz1 hz2 hF
      generalize memP a = P at *
      generalize memP b = Q at *
      obtain ⟨R, hR⟩ : ∃ R, R = gBoth P Q := ⟨_, rfl⟩
      rw [← hR] at E
      have HL := Lib.hid (pick_len R)
      have HV := Lib.hid (fun k => congrFun hR k)
      clear hR
      unfold gBoth at HV
      go_enter Tryz.func87, Tryz.ntmps87
      go_wp2_with fail
      refine (CA.out _ (below_alloc _ _)).mono ?_
      rintro e w2 ⟨rfl, b2⟩
      rw [HZ.out]
      go_wp2_with fail
      refine (CB.out _ (below_call b2)).mono ?_
      rintro e w3 ⟨rfl, b3⟩
      rw [HZ2.out]
      have B3 := b2.trans (b3.mono b2.size)
      go_wp2_with fail
      refine (SA.out _ (below_call B3)).mono ?_
      rintro e w4 ⟨g1, rfl, m4, l4, b4⟩
      have B4 := B3.trans (b4.mono B3.size)
      go_wp2_with fail
      refine (SB.out _ (below_call B4)).mono ?_
      rintro e w5 ⟨g2, rfl, m5, l5, b5⟩
      have B5 := B4.trans (b5.mono B4.size)
      have M4 := Lib.hid (m4.below b5 m4.lt)
      have M5 := Lib.hid m5
      have HO := Lib.hid (own_below hown0 B5)
      clear hown0 m4 m5 b4 b5
      go_wp2
      go_loopg [7, 10] 400 (fun m v i wr => ∃ (k j : Nat) (fp : List Nat), k + m = 400 ∧ i = .int .i64 k ∧ Hid (j = (pick R k).length) ∧ Hid (IL wr w.heap.size 3 v j (pick R k) fp) ∧ j ≤ k ∧ Hid (Blk wr g1 4 (bools P 400)) ∧ Hid (Blk wr g2 4 (bools Q 400)) ∧ Hid (Below w.heap.size w wr) ∧ Hid (g1 ∉ fp ∧ g2 ∉ fp))
      case atStart =>
        refine ⟨0, 0, _, by omega, rfl, Lib.hid rfl, Lib.hid ⟨HO.out, rfl⟩, Nat.le_refl _, M4, M5, Lib.hid (below_call B5), Lib.hid ?_⟩
        have q3 := B3.size
        have q4 := B4.size
        rw [World.size_alloc] at q3 q4
        refine ⟨fun hm => ?_, fun hm => ?_⟩
        · have := mem_bl.1 hm; injection this with this; simp at this; omega
        · have := mem_bl.1 hm; injection this with this; simp at this; omega
      case round =>
        clear HO M4 M5 b2 b3 B3 B4 B5
        obtain ⟨k, j, fp, hk, rfl, hj, ho, hjk, hm1, hm2, hb, hd⟩ := hrel
        by_cases hlt : k < 400
        · have c1' : wr.cell? ⟨g1, k, none⟩ = some (.bool (P k)) := by rw [hm1.out.cell]; exact bools_at P hlt
          have c2' : wr.cell? ⟨g2, k, none⟩ = some (.bool (Q k)) := by rw [hm2.out.cell]; exact bools_at Q hlt
          have hv := HV.out k
          have hlt' : (k : Int) < 400 := by omega
          cases hr : R k
          · have NX : Hid (pick R (k + 1) = pick R k) := Lib.hid (pick_gap (by omega) fun x a b => by rw [show x = k by omega]; exact hr)
            rw [hr] at hv
            clear hr
            cases hp : P k
            all_goals cases hq : Q k
            all_goals
              rw [hp, hq] at hv
              rw [hp] at c1'
              rw [hq] at c2'
              clear hp hq
              first
                | exact absurd hv (by decide)
                | (clear hv
                   go_wp2
                   go_roundg (400 - (k + 1))
                   case measure => omega
                   case rel => exact ⟨k + 1, j, fp, by omega, by go_num, by rw [NX.out]; exact hj, by rw [NX.out]; exact ho, by omega, hm1, hm2, hb, hd⟩)
          · have NX : Hid (pick R (k + 1) = pick R k ++ [(k : Int)]) := Lib.hid (pick_yes (Nat.le_refl _) (fun x a b => by omega) hr)
            rw [hr] at hv
            clear hr
            have H1 := Lib.hid (fun o => hm1.out.alloc (o := o))
            have H2 := Lib.hid (fun o => hm2.out.alloc (o := o))
            have HI := Lib.hid (fun o => ho.out.below (below_alloc wr o))
            have HS := Lib.hid hb.out.size
            cases hp : P k
            all_goals cases hq : Q k
            all_goals
              rw [hp, hq] at hv
              rw [hp] at c1'
              rw [hq] at c2'
              clear hp hq
              first
                | exact absurd hv (by decide)
                | (clear hv
                   go_wp2_with (first
                     | (at_builtin; refine app_il rfl _ _ rfl rfl (HI.out _) rfl (World.cell?_alloc_at _ _ _ _ (by simp)) (by omega) (by rw [World.size_alloc]; have := HS.out; omega) ?_; intro v' w6 fp' q1 q2 q3))
                   go_roundg (400 - (k + 1))
                   case measure => omega
                   case rel =>
                     have l1 := hm1.out.lt
                     have l2 := hm2.out.lt
                     have l0 := ho.out.lt
                     refine ⟨k + 1, j + 1, fp', by omega, by go_num, by rw [NX.out, List.length_append]; exact Lib.hid (by rw [hj.out]; rfl), by rw [NX.out]; exact Lib.hid q1, by omega, Lib.hid ((H1.out _).only q2 hd.out.1), Lib.hid ((H2.out _).only q2 hd.out.2), Lib.hid ((hb.out.alloc hb.out.size _).trans (q2.below (by rw [World.size_alloc]; have := HS.out; omega) fun b hm => (l0 b hm).1)), Lib.hid ⟨fun hm => ?_, fun hm => ?_⟩⟩
                     · rcases q3 _ hm with h | h
                       · exact hd.out.1 h
                       · rw [World.size_alloc] at h; omega
                     · rcases q3 _ hm with h | h
                       · exact hd.out.2 h
                       · rw [World.size_alloc] at h; omega)
        · obtain rfl : k = 400 := by omega
          have O := ho.out.1
          rw [hj.out, ← E.out] at O
          have O := Lib.hid O
          have HF : Hid (F.length ≤ maxLen) := Lib.hid (by rw [E.out]; have := HL.out 400; unfold maxLen; omega)
          go_wp2
          go_ret
          exact givesL_of ⟨_, rfl, O.out, hb.out⟩ HF.out

set_option maxRecDepth 100000 in
set_option maxHeartbeats 4000000 in
theorem l4Mix_either (a b : List Int) (A1 : Option Addr) (n1 c1 : Nat) (A2 : Option Addr) (n2 c2 : Nat) (w : World) (h1 : Mem.rd w w.heap.size [.slice A1 n1 c1] a) (h2 : Mem.rd w w.heap.size [.slice A2 n2 c2] b) :
    Calls Tryz.prog 87 #[.slice A1 n1 c1, .slice A2 n2 c2, .int .i64 1] w (GivesL w (mixL gEither a b)) := by
  have CA := Lib.hid (fun W (B : Below w.heap.size w W) => l4Set_any a A1 n1 c1 W (Mem.rd_on h1 B))
  have CB := Lib.hid (fun W (B : Below w.heap.size w W) => l4Set_any b A2 n2 c2 W (Mem.rd_on h2 B))
  obtain ⟨F, hF⟩ : ∃ F, F = mixL gEither a b := ⟨_, rfl⟩
  rw [← hF]
  have hown0 := World.ownsRow_lit (base := w.heap.size) (e := 3) (size := 1) w #[] 0 (Nat.le_refl _) (by unfold maxLen; omega) rfl
  cases hz1 : setsB a 400
  · have E : Hid (F = []) := Lib.hid (by rw [hF]; unfold mixL; rw [hz1]; rfl)
    have HZ := Lib.hid hz1; clear hz1 hF
    go_enter Tryz.func87, Tryz.ntmps87
    go_wp2_with fail
    refine (CA.out _ (below_alloc _ _)).mono ?_
    rintro e w2 ⟨rfl, b2⟩
    rw [HZ.out]
    go_wp2
    go_ret
    rw [E.out]
    exact givesL_of ⟨_, rfl, own_below hown0 b2, below_call b2⟩ (by unfold maxLen; simp)
  · cases hz2 : setsB b 400
    · have E : Hid (F = []) := Lib.hid (by rw [hF]; unfold mixL; rw [hz1, hz2]; rfl)
      have HZ := Lib.hid hz1; have HZ2 := Lib.hid hz2; clear hz1 hz2 hF
      go_enter Tryz.func87, Tryz.ntmps87
      go_wp2_with fail
      refine (CA.out _ (below_alloc _ _)).mono ?_
      rintro e w2 ⟨rfl, b2⟩
      rw [HZ.out]
      go_wp2_with fail
      refine (CB.out _ (below_call b2)).mono ?_
      rintro e w3 ⟨rfl, b3⟩
      rw [HZ2.out]
      have B3 := b2.trans (b3.mono b2.size)
      go_wp2
      go_ret
      rw [E.out]
      exact givesL_of ⟨_, rfl, own_below hown0 B3, below_call B3⟩ (by unfold maxLen; simp)
    · have E : Hid (F = pick (gEither (memP a) (memP b)) 400) := Lib.hid (by
        rw [hF]; unfold mixL; rw [hz1, hz2]
        exact pick_gap (by omega) fun x g1 g2 => by unfold gEither; rw [mem_out hz1 (by omega), mem_out hz2 (by omega)]; rfl)
      have SA := Lib.hid (fun W (B : Below w.heap.size w W) => l4Marks_any a A1 n1 c1 400 W (Mem.rd_on h1 B) (fun k hk => by have := sets_range hz1 k hk; omega) (by omega))
      have SB := Lib.hid (fun W (B : Below w.heap.size w W) => l4Marks_any b A2 n2 c2 400 W (Mem.rd_on h2 B) (fun k hk => by have := sets_range hz2 k hk; omega) (by omega))
      have HZ := Lib.hid hz1; have HZ2 := Lib.hid hz2; clear hz1 hz2 hF
      generalize memP a = P at *
      generalize memP b = Q at *
      obtain ⟨R, hR⟩ : ∃ R, R = gEither P Q := ⟨_, rfl⟩
      rw [← hR] at E
      have HL := Lib.hid (pick_len R)
      have HV := Lib.hid (fun k => congrFun hR k)
      clear hR
      unfold gEither at HV
      go_enter Tryz.func87, Tryz.ntmps87
      go_wp2_with fail
      refine (CA.out _ (below_alloc _ _)).mono ?_
      rintro e w2 ⟨rfl, b2⟩
      rw [HZ.out]
      go_wp2_with fail
      refine (CB.out _ (below_call b2)).mono ?_
      rintro e w3 ⟨rfl, b3⟩
      rw [HZ2.out]
      have B3 := b2.trans (b3.mono b2.size)
      go_wp2_with fail
      refine (SA.out _ (below_call B3)).mono ?_
      rintro e w4 ⟨g1, rfl, m4, l4, b4⟩
      have B4 := B3.trans (b4.mono B3.size)
      go_wp2_with fail
      refine (SB.out _ (below_call B4)).mono ?_
      rintro e w5 ⟨g2, rfl, m5, l5, b5⟩
      have B5 := B4.trans (b5.mono B4.size)
      have M4 := Lib.hid (m4.below b5 m4.lt)
      have M5 := Lib.hid m5
      have HO := Lib.hid (own_below hown0 B5)
      clear hown0 m4 m5 b4 b5
      go_wp2
      go_loopg [7, 10] 400 (fun m v i wr => ∃ (k j : Nat) (fp : List Nat), k + m = 400 ∧ i = .int .i64 k ∧ Hid (j = (pick R k).length) ∧ Hid (IL wr w.heap.size 3 v j (pick R k) fp) ∧ j ≤ k ∧ Hid (Blk wr g1 4 (bools P 400)) ∧ Hid (Blk wr g2 4 (bools Q 400)) ∧ Hid (Below w.heap.size w wr) ∧ Hid (g1 ∉ fp ∧ g2 ∉ fp))
      case atStart =>
        refine ⟨0, 0, _, by omega, rfl, Lib.hid rfl, Lib.hid ⟨HO.out, rfl⟩, Nat.le_refl _, M4, M5, Lib.hid (below_call B5), Lib.hid ?_⟩
        have q3 := B3.size
        have q4 := B4.size
        rw [World.size_alloc] at q3 q4
        refine ⟨fun hm => ?_, fun hm => ?_⟩
        · have := mem_bl.1 hm; injection this with this; simp at this; omega
        · have := mem_bl.1 hm; injection this with this; simp at this; omega
      case round =>
        clear HO M4 M5 b2 b3 B3 B4 B5
        obtain ⟨k, j, fp, hk, rfl, hj, ho, hjk, hm1, hm2, hb, hd⟩ := hrel
        by_cases hlt : k < 400
        · have c1' : wr.cell? ⟨g1, k, none⟩ = some (.bool (P k)) := by rw [hm1.out.cell]; exact bools_at P hlt
          have c2' : wr.cell? ⟨g2, k, none⟩ = some (.bool (Q k)) := by rw [hm2.out.cell]; exact bools_at Q hlt
          have hv := HV.out k
          have hlt' : (k : Int) < 400 := by omega
          cases hr : R k
          · have NX : Hid (pick R (k + 1) = pick R k) := Lib.hid (pick_gap (by omega) fun x a b => by rw [show x = k by omega]; exact hr)
            rw [hr] at hv
            clear hr
            cases hp : P k
            all_goals cases hq : Q k
            all_goals
              rw [hp, hq] at hv
              rw [hp] at c1'
              rw [hq] at c2'
              clear hp hq
              first
                | exact absurd hv (by decide)
                | (clear hv
                   go_wp2
                   go_roundg (400 - (k + 1))
                   case measure => omega
                   case rel => exact ⟨k + 1, j, fp, by omega, by go_num, by rw [NX.out]; exact hj, by rw [NX.out]; exact ho, by omega, hm1, hm2, hb, hd⟩)
          · have NX : Hid (pick R (k + 1) = pick R k ++ [(k : Int)]) := Lib.hid (pick_yes (Nat.le_refl _) (fun x a b => by omega) hr)
            rw [hr] at hv
            clear hr
            have H1 := Lib.hid (fun o => hm1.out.alloc (o := o))
            have H2 := Lib.hid (fun o => hm2.out.alloc (o := o))
            have HI := Lib.hid (fun o => ho.out.below (below_alloc wr o))
            have HS := Lib.hid hb.out.size
            cases hp : P k
            all_goals cases hq : Q k
            all_goals
              rw [hp, hq] at hv
              rw [hp] at c1'
              rw [hq] at c2'
              clear hp hq
              first
                | exact absurd hv (by decide)
                | (clear hv
                   go_wp2_with (first
                     | (at_builtin; refine app_il rfl _ _ rfl rfl (HI.out _) rfl (World.cell?_alloc_at _ _ _ _ (by simp)) (by omega) (by rw [World.size_alloc]; have := HS.out; omega) ?_; intro v' w6 fp' q1 q2 q3))
                   go_roundg (400 - (k + 1))
                   case measure => omega
                   case rel =>
                     have l1 := hm1.out.lt
                     have l2 := hm2.out.lt
                     have l0 := ho.out.lt
                     refine ⟨k + 1, j + 1, fp', by omega, by go_num, by rw [NX.out, List.length_append]; exact Lib.hid (by rw [hj.out]; rfl), by rw [NX.out]; exact Lib.hid q1, by omega, Lib.hid ((H1.out _).only q2 hd.out.1), Lib.hid ((H2.out _).only q2 hd.out.2), Lib.hid ((hb.out.alloc hb.out.size _).trans (q2.below (by rw [World.size_alloc]; have := HS.out; omega) fun b hm => (l0 b hm).1)), Lib.hid ⟨fun hm => ?_, fun hm => ?_⟩⟩
                     · rcases q3 _ hm with h | h
                       · exact hd.out.1 h
                       · rw [World.size_alloc] at h; omega
                     · rcases q3 _ hm with h | h
                       · exact hd.out.2 h
                       · rw [World.size_alloc] at h; omega)
        · obtain rfl : k = 400 := by omega
          have O := ho.out.1
          rw [hj.out, ← E.out] at O
          have O := Lib.hid O
          have HF : Hid (F.length ≤ maxLen) := Lib.hid (by rw [E.out]; have := HL.out 400; unfold maxLen; omega)
          go_wp2
          go_ret
          exact givesL_of ⟨_, rfl, O.out, hb.out⟩ HF.out

set_option maxRecDepth 100000 in
set_option maxHeartbeats 4000000 in
theorem l4Mix_without (a b : List Int) (A1 : Option Addr) (n1 c1 : Nat) (A2 : Option Addr) (n2 c2 : Nat) (w : World) (h1 : Mem.rd w w.heap.size [.slice A1 n1 c1] a) (h2 : Mem.rd w w.heap.size [.slice A2 n2 c2] b) :
    Calls Tryz.prog 87 #[.slice A1 n1 c1, .slice A2 n2 c2, .int .i64 2] w (GivesL w (mixL gWithout a b)) := by
  have CA := Lib.hid (fun W (B : Below w.heap.size w W) => l4Set_any a A1 n1 c1 W (Mem.rd_on h1 B))
  have CB := Lib.hid (fun W (B : Below w.heap.size w W) => l4Set_any b A2 n2 c2 W (Mem.rd_on h2 B))
  obtain ⟨F, hF⟩ : ∃ F, F = mixL gWithout a b := ⟨_, rfl⟩
  rw [← hF]
  have hown0 := World.ownsRow_lit (base := w.heap.size) (e := 3) (size := 1) w #[] 0 (Nat.le_refl _) (by unfold maxLen; omega) rfl
  cases hz1 : setsB a 400
  · have E : Hid (F = []) := Lib.hid (by rw [hF]; unfold mixL; rw [hz1]; rfl)
    have HZ := Lib.hid hz1; clear hz1 hF
    go_enter Tryz.func87, Tryz.ntmps87
    go_wp2_with fail
    refine (CA.out _ (below_alloc _ _)).mono ?_
    rintro e w2 ⟨rfl, b2⟩
    rw [HZ.out]
    go_wp2
    go_ret
    rw [E.out]
    exact givesL_of ⟨_, rfl, own_below hown0 b2, below_call b2⟩ (by unfold maxLen; simp)
  · cases hz2 : setsB b 400
    · have E : Hid (F = []) := Lib.hid (by rw [hF]; unfold mixL; rw [hz1, hz2]; rfl)
      have HZ := Lib.hid hz1; have HZ2 := Lib.hid hz2; clear hz1 hz2 hF
      go_enter Tryz.func87, Tryz.ntmps87
      go_wp2_with fail
      refine (CA.out _ (below_alloc _ _)).mono ?_
      rintro e w2 ⟨rfl, b2⟩
      rw [HZ.out]
      go_wp2_with fail
      refine (CB.out _ (below_call b2)).mono ?_
      rintro e w3 ⟨rfl, b3⟩
      rw [HZ2.out]
      have B3 := b2.trans (b3.mono b2.size)
      go_wp2
      go_ret
      rw [E.out]
      exact givesL_of ⟨_, rfl, own_below hown0 B3, below_call B3⟩ (by unfold maxLen; simp)
    · have E : Hid (F = pick (gWithout (memP a) (memP b)) 400) := Lib.hid (by
        rw [hF]; unfold mixL; rw [hz1, hz2]
        exact pick_gap (by omega) fun x g1 g2 => by unfold gWithout; rw [mem_out hz1 (by omega), mem_out hz2 (by omega)]; rfl)
      have SA := Lib.hid (fun W (B : Below w.heap.size w W) => l4Marks_any a A1 n1 c1 400 W (Mem.rd_on h1 B) (fun k hk => by have := sets_range hz1 k hk; omega) (by omega))
      have SB := Lib.hid (fun W (B : Below w.heap.size w W) => l4Marks_any b A2 n2 c2 400 W (Mem.rd_on h2 B) (fun k hk => by have := sets_range hz2 k hk; omega) (by omega))
      have HZ := Lib.hid hz1; have HZ2 := Lib.hid hz2; clear hz1 hz2 hF
      generalize memP a = P at *
      generalize memP b = Q at *
      obtain ⟨R, hR⟩ : ∃ R, R = gWithout P Q := ⟨_, rfl⟩
      rw [← hR] at E
      have HL := Lib.hid (pick_len R)
      have HV := Lib.hid (fun k => congrFun hR k)
      clear hR
      unfold gWithout at HV
      go_enter Tryz.func87, Tryz.ntmps87
      go_wp2_with fail
      refine (CA.out _ (below_alloc _ _)).mono ?_
      rintro e w2 ⟨rfl, b2⟩
      rw [HZ.out]
      go_wp2_with fail
      refine (CB.out _ (below_call b2)).mono ?_
      rintro e w3 ⟨rfl, b3⟩
      rw [HZ2.out]
      have B3 := b2.trans (b3.mono b2.size)
      go_wp2_with fail
      refine (SA.out _ (below_call B3)).mono ?_
      rintro e w4 ⟨g1, rfl, m4, l4, b4⟩
      have B4 := B3.trans (b4.mono B3.size)
      go_wp2_with fail
      refine (SB.out _ (below_call B4)).mono ?_
      rintro e w5 ⟨g2, rfl, m5, l5, b5⟩
      have B5 := B4.trans (b5.mono B4.size)
      have M4 := Lib.hid (m4.below b5 m4.lt)
      have M5 := Lib.hid m5
      have HO := Lib.hid (own_below hown0 B5)
      clear hown0 m4 m5 b4 b5
      go_wp2
      go_loopg [7, 10] 400 (fun m v i wr => ∃ (k j : Nat) (fp : List Nat), k + m = 400 ∧ i = .int .i64 k ∧ Hid (j = (pick R k).length) ∧ Hid (IL wr w.heap.size 3 v j (pick R k) fp) ∧ j ≤ k ∧ Hid (Blk wr g1 4 (bools P 400)) ∧ Hid (Blk wr g2 4 (bools Q 400)) ∧ Hid (Below w.heap.size w wr) ∧ Hid (g1 ∉ fp ∧ g2 ∉ fp))
      case atStart =>
        refine ⟨0, 0, _, by omega, rfl, Lib.hid rfl, Lib.hid ⟨HO.out, rfl⟩, Nat.le_refl _, M4, M5, Lib.hid (below_call B5), Lib.hid ?_⟩
        have q3 := B3.size
        have q4 := B4.size
        rw [World.size_alloc] at q3 q4
        refine ⟨fun hm => ?_, fun hm => ?_⟩
        · have := mem_bl.1 hm; injection this with this; simp at this; omega
        · have := mem_bl.1 hm; injection this with this; simp at this; omega
      case round =>
        clear HO M4 M5 b2 b3 B3 B4 B5
        obtain ⟨k, j, fp, hk, rfl, hj, ho, hjk, hm1, hm2, hb, hd⟩ := hrel
        by_cases hlt : k < 400
        · have c1' : wr.cell? ⟨g1, k, none⟩ = some (.bool (P k)) := by rw [hm1.out.cell]; exact bools_at P hlt
          have c2' : wr.cell? ⟨g2, k, none⟩ = some (.bool (Q k)) := by rw [hm2.out.cell]; exact bools_at Q hlt
          have hv := HV.out k
          have hlt' : (k : Int) < 400 := by omega
          cases hr : R k
          · have NX : Hid (pick R (k + 1) = pick R k) := Lib.hid (pick_gap (by omega) fun x a b => by rw [show x = k by omega]; exact hr)
            rw [hr] at hv
            clear hr
            cases hp : P k
            all_goals cases hq : Q k
            all_goals
              rw [hp, hq] at hv
              rw [hp] at c1'
              rw [hq] at c2'
              clear hp hq
              first
                | exact absurd hv (by decide)
                | (clear hv
                   go_wp2
                   go_roundg (400 - (k + 1))
                   case measure => omega
                   case rel => exact ⟨k + 1, j, fp, by omega, by go_num, by rw [NX.out]; exact hj, by rw [NX.out]; exact ho, by omega, hm1, hm2, hb, hd⟩)
          · have NX : Hid (pick R (k + 1) = pick R k ++ [(k : Int)]) := Lib.hid (pick_yes (Nat.le_refl _) (fun x a b => by omega) hr)
            rw [hr] at hv
            clear hr
            have H1 := Lib.hid (fun o => hm1.out.alloc (o := o))
            have H2 := Lib.hid (fun o => hm2.out.alloc (o := o))
            have HI := Lib.hid (fun o => ho.out.below (below_alloc wr o))
            have HS := Lib.hid hb.out.size
            cases hp : P k
            all_goals cases hq : Q k
            all_goals
              rw [hp, hq] at hv
              rw [hp] at c1'
              rw [hq] at c2'
              clear hp hq
              first
                | exact absurd hv (by decide)
                | (clear hv
                   go_wp2_with (first
                     | (at_builtin; refine app_il rfl _ _ rfl rfl (HI.out _) rfl (World.cell?_alloc_at _ _ _ _ (by simp)) (by omega) (by rw [World.size_alloc]; have := HS.out; omega) ?_; intro v' w6 fp' q1 q2 q3))
                   go_roundg (400 - (k + 1))
                   case measure => omega
                   case rel =>
                     have l1 := hm1.out.lt
                     have l2 := hm2.out.lt
                     have l0 := ho.out.lt
                     refine ⟨k + 1, j + 1, fp', by omega, by go_num, by rw [NX.out, List.length_append]; exact Lib.hid (by rw [hj.out]; rfl), by rw [NX.out]; exact Lib.hid q1, by omega, Lib.hid ((H1.out _).only q2 hd.out.1), Lib.hid ((H2.out _).only q2 hd.out.2), Lib.hid ((hb.out.alloc hb.out.size _).trans (q2.below (by rw [World.size_alloc]; have := HS.out; omega) fun b hm => (l0 b hm).1)), Lib.hid ⟨fun hm => ?_, fun hm => ?_⟩⟩
                     · rcases q3 _ hm with h | h
                       · exact hd.out.1 h
                       · rw [World.size_alloc] at h; omega
                     · rcases q3 _ hm with h | h
                       · exact hd.out.2 h
                       · rw [World.size_alloc] at h; omega)
        · obtain rfl : k = 400 := by omega
          have O := ho.out.1
          rw [hj.out, ← E.out] at O
          have O := Lib.hid O
          have HF : Hid (F.length ≤ maxLen) := Lib.hid (by rw [E.out]; have := HL.out 400; unfold maxLen; omega)
          go_wp2
          go_ret
          exact givesL_of ⟨_, rfl, O.out, hb.out⟩ HF.out

theorem setWithout_spec (a b : List Int) (A1 : Option Addr) (n1 c1 : Nat) (A2 : Option Addr) (n2 c2 : Nat) (w : World) (h1 : Mem.rd w w.heap.size [.slice A1 n1 c1] a) (h2 : Mem.rd w w.heap.size [.slice A2 n2 c2] b) :
    Calls Tryz.prog 46 #[.slice A1 n1 c1, .slice A2 n2 c2] w (GivesL w (mixL gWithout a b)) := by
  have C := Lib.hid (l4Mix_without a b A1 n1 c1 A2 n2 c2 w h1 h2)
  go_enter Tryz.func46, Tryz.ntmps46
  go_wp2_with fail
  refine C.out.mono ?_
  rintro e w2 g2
  obtain ⟨A, n, c, fp, rfl, g2⟩ := g2
  go_wp2
  go_ret
  exact ⟨A, n, c, fp, rfl, g2⟩

end Go.Proofs.YtfgjogmgcamfdaaGreatDoor
