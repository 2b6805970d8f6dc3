/- In how many bits two states differ: of the program and of the model. -/
import Derived.Test.YtdecjkfokilgoaaBitI
namespace Go.Proofs.Ytdecjkfokilgoaa
open Go.RowKit

theorem apart_in {s : Sy} {a b : List Int} (ok : SysOk s) (ha : hasB s.vars a = true) (hb : hasB s.vars b = true) :
    popTo (rowTo s.vars a s.vars.length ^^^ rowTo s.vars b s.vars.length) 11 = difTo (stBits s.vars a) (stBits s.vars b) (widTo s.vars s.vars.length) ∧ rowTo s.vars a s.vars.length < 2048 ∧ rowTo s.vars b s.vars.length < 2048 := by
  have h1 := row_lt ok.vars ha (Nat.le_refl _)
  have h2 := row_lt ok.vars hb (Nat.le_refl _)
  have h3 := wid_le ok (Nat.le_refl _)
  have h4 : 2 ^ widTo s.vars s.vars.length ≤ 2 ^ 11 := Nat.pow_le_pow_right (by omega) h3
  refine ⟨?_, by omega, by omega⟩
  rw [pop_hi (Nat.xor_lt_two_pow h1 h2) h3]
  have := dif_pop (rowTo s.vars a s.vars.length) (rowTo s.vars b s.vars.length) (widTo s.vars s.vars.length) _ (Nat.le_refl _)
  rw [Nat.sub_self] at this
  exact this.symm

theorem run_rw_word (a b : Int) (W : World) : (Instr.field 69 (.agg #[.int .u64 a, .int .i64 b]) 0).run Try.prog W = .ok (.int .u64 a) W := by kernel_rfl

set_option maxRecDepth 100000 in
set_option maxHeartbeats 1000000 in
theorem apart_impl (s : Sy) (a b : List Int) (A1 : Option Addr) (n1 c1 : Nat) (A2 : Option Addr) (n2 c2 : Nat) (A3 : Option Addr) (n3 c3 : Nat) (A4 : Option Addr) (n4 c4 : Nat) (w : World) (h1 : Mem.rd w w.heap.size [.slice A1 n1 c1] s.vars) (h2 : Mem.rd w w.heap.size [.slice A2 n2 c2] s.rules) (h3 : Mem.rd w w.heap.size [.slice A3 n3 c3] a) (h4 : Mem.rd w w.heap.size [.slice A4 n4 c4] b) :
    Calls Try.prog 45 #[.agg #[.slice A1 n1 c1, .slice A2 n2 c2], .slice A3 n3 c3, .slice A4 n4 c4] w (GivesInt w (apartB s a b)) := by
  have BX := Lib.hid (sy_box (w := w) (v1 := .slice A1 n1 c1) (v2 := .slice A2 n2 c2))
  have SV := Lib.hid (fun o => inRange_impl s a A1 n1 c1 A2 n2 c2 A3 n3 c3 (w.alloc o) (Mem.rd_on_alloc h1 o) (Mem.rd_on_alloc h2 o) (Mem.rd_on_alloc h3 o))
  obtain ⟨F, hF⟩ : ∃ F, F = apartB s a b := ⟨_, rfl⟩
  rw [← hF]
  unfold apartB at hF
  cases hz : inRangeB s a
  · have E : Hid (F = -1) := Lib.hid (by rw [hF, hz]; rfl)
    have HZ := Lib.hid hz; clear hz hF
    go_enter Try.func45, Try.ntmps45
    go_wp2_with fail
    refine (SV.out _).mono ?_
    rintro e w2 ⟨rfl, b2⟩
    rw [HZ.out]
    go_wp2
    go_ret
    exact ⟨congrArg (fun z => Ending.returned (.int .i64 z)) E.out.symm, below_call b2⟩
  · obtain ⟨ok, hin⟩ := inRange_ok hz
    have HC := Lib.hid (fun W h1 h4 => hasS_any s b A1 n1 c1 A2 n2 c2 A4 n4 c4 W h1 h4)
    cases hy : hasB s.vars b
    · have E : Hid (F = -1) := Lib.hid (by rw [hF, hz, hy]; rfl)
      have HZ := Lib.hid hz
      have HY := Lib.hid hy
      clear hz hF hy ok hin
      go_enter Try.func45, Try.ntmps45
      go_wp2_with fail
      refine (SV.out _).mono ?_
      rintro e w2 ⟨rfl, b2⟩
      rw [HZ.out]
      obtain ⟨B2, x0, x1⟩ := BX.out _ b2
      go_wp2_with fail
      refine (HC.out _ (Mem.rd_on h1 B2) (Mem.rd_on h4 B2)).mono ?_
      rintro e w3 ⟨rfl, b3⟩
      rw [HY.out]
      go_wp2
      go_ret
      exact ⟨congrArg (fun z => Ending.returned (.int .i64 z)) E.out.symm, B2.trans (b3.mono B2.size)⟩
    · obtain ⟨eq, l1, l2⟩ := apart_in ok hin hy
      have E : Hid (F = (popTo (rowTo s.vars a s.vars.length ^^^ rowTo s.vars b s.vars.length) 11 : Nat)) := Lib.hid (by rw [hF, hz, hy, eq]; rfl)
      have R1 := Lib.hid (fun W h1 h3 => row_any s a A1 n1 c1 A2 n2 c2 A3 n3 c3 W h1 h3 ok hin)
      have R2 := Lib.hid (fun W h1 h4 => row_any s b A1 n1 c1 A2 n2 c2 A4 n4 c4 W h1 h4 ok hy)
      have HZ := Lib.hid hz
      have HY := Lib.hid hy
      clear hz hF hy ok hin eq
      generalize rowTo s.vars a s.vars.length = x at *
      generalize rowTo s.vars b s.vars.length = y at *
      generalize widTo s.vars s.vars.length = m at *
      have hxy : x ^^^ y < 2 ^ 11 := Nat.xor_lt_two_pow l1 l2
      have hx : bits BinOp.xor IntKind.u64 (x : Int) (y : Int) = ((x ^^^ y : Nat) : Int) := bits_xor_u64_nat x y (by omega) (by omega)
      have OC := Lib.hid (fun W => ones_any (x ^^^ y) hxy W)
      generalize x ^^^ y = z at *
      unfold rwV at R1 R2
      clear hxy l1 l2
      go_enter Try.func45, Try.ntmps45
      go_wp2_with fail
      refine (SV.out _).mono ?_
      rintro e w2 ⟨rfl, b2⟩
      rw [HZ.out]
      obtain ⟨B2, x0, x1⟩ := BX.out _ b2
      go_wp2_with fail
      refine (HC.out _ (Mem.rd_on h1 B2) (Mem.rd_on h4 B2)).mono ?_
      rintro e w3 ⟨rfl, b3⟩
      rw [HY.out]
      have b23 := b2.trans (b3.mono b2.size)
      obtain ⟨B3, y0, y1⟩ := BX.out _ b23
      have hs3 := b23.size
      rw [World.size_alloc] at hs3
      clear x0 x1
      have hfx := fun W => run_rw_word x m W
      have hfy := fun W => run_rw_word y m W
      have RA := Lib.hid (R1.out w3.drew (Mem.rd_drew (Mem.rd_on h1 B3)) (Mem.rd_drew (Mem.rd_on h3 B3)))
      go_wp2
      go_region_held3 (fun w' => w'.cell? ⟨w.heap.size, 0, none⟩ = some (.slice A1 n1 c1) ∧ w'.cell? ⟨w.heap.size, 1, none⟩ = some (.slice A2 n2 c2)) (go_keep)
        (first
          | (go_at_call 92; refine (OC.out _).mono ?_; rintro e w6 ⟨rfl, b6⟩
             have s0 := cell_below b6 (p := ⟨w.heap.size, 0, none⟩) (by show w.heap.size < _; have := b4.size; have := b5.size; omega) r0
             have s1 := cell_below b6 (p := ⟨w.heap.size, 1, none⟩) (by show w.heap.size < _; have := b4.size; have := b5.size; omega) r1)
          | (go_at_call 80; refine (RB.out).mono ?_; rintro e w5 ⟨rfl, b5⟩
             have r0 := cell_below b5 (p := ⟨w.heap.size, 0, none⟩) (by show w.heap.size < w4.heap.size; have := b4.size; omega) q0
             have r1 := cell_below b5 (p := ⟨w.heap.size, 1, none⟩) (by show w.heap.size < w4.heap.size; have := b4.size; omega) q1)
          | (go_at_call 80; refine (RA.out).mono ?_; rintro e w4 ⟨rfl, b4'⟩
             have b4 : Below w3.heap.size w3 w4 := ⟨b4'.os, b4'.tape, b4'.output, b4'.size, b4'.block⟩
             have q0 := cell_below b4 (p := ⟨w.heap.size, 0, none⟩) (by show w.heap.size < w3.heap.size; omega) y0
             have q1 := cell_below b4 (p := ⟨w.heap.size, 1, none⟩) (by show w.heap.size < w3.heap.size; omega) y1
             have B4 := B3.trans (b4.mono B3.size)
             have RB := Lib.hid (R2.out w4 (Mem.rd_on h1 B4) (Mem.rd_on h4 B4))))
      go_wp2
      go_ret
      have B5 := B4.trans (b5.mono B4.size)
      exact ⟨congrArg (fun z => Ending.returned (.int .i64 z)) E.out.symm, B5.trans (b6.mono B5.size)⟩

set_option maxRecDepth 100000 in
set_option maxHeartbeats 1000000 in
theorem apart_spec (s : Sy) (a b : List Int) (A1 : Option Addr) (n1 c1 : Nat) (A2 : Option Addr) (n2 c2 : Nat) (A3 : Option Addr) (n3 c3 : Nat) (A4 : Option Addr) (n4 c4 : Nat) (w : World) (h1 : Mem.rd w w.heap.size [.slice A1 n1 c1] s.vars) (h2 : Mem.rd w w.heap.size [.slice A2 n2 c2] s.rules) (h3 : Mem.rd w w.heap.size [.slice A3 n3 c3] a) (h4 : Mem.rd w w.heap.size [.slice A4 n4 c4] b) :
    Calls Try.prog 44 #[.agg #[.slice A1 n1 c1, .slice A2 n2 c2], .slice A3 n3 c3, .slice A4 n4 c4] w (GivesInt w (apartB s a b)) := by
  have BX := Lib.hid (sy_box (w := w) (v1 := .slice A1 n1 c1) (v2 := .slice A2 n2 c2))
  have SV := Lib.hid (fun o => inRange_spec s a A1 n1 c1 A2 n2 c2 A3 n3 c3 (w.alloc o) (Mem.rd_on_alloc h1 o) (Mem.rd_on_alloc h2 o) (Mem.rd_on_alloc h3 o))
  obtain ⟨F, hF⟩ : ∃ F, F = apartB s a b := ⟨_, rfl⟩
  rw [← hF]
  unfold apartB at hF
  cases hz : inRangeB s a
  · have E : Hid (F = -1) := Lib.hid (by rw [hF, hz]; rfl)
    have HZ := Lib.hid hz; clear hz hF
    go_enter Try.func44, Try.ntmps44
    go_wp2_with fail
    refine (SV.out _).mono ?_
    rintro e w2 ⟨rfl, b2⟩
    rw [HZ.out]
    go_wp2
    go_ret
    exact ⟨congrArg (fun z => Ending.returned (.int .i64 z)) E.out.symm, below_call b2⟩
  · obtain ⟨ok, hin⟩ := inRange_ok hz
    have HC := Lib.hid (fun W h1 h4 => l2In_any s b A1 n1 c1 A2 n2 c2 A4 n4 c4 W h1 h4)
    cases hy : hasB s.vars b
    · have E : Hid (F = -1) := Lib.hid (by rw [hF, hz, hy]; rfl)
      have HZ := Lib.hid hz
      have HY := Lib.hid hy
      clear hz hF hy ok hin
      go_enter Try.func44, Try.ntmps44
      go_wp2_with fail
      refine (SV.out _).mono ?_
      rintro e w2 ⟨rfl, b2⟩
      rw [HZ.out]
      obtain ⟨B2, x0, x1⟩ := BX.out _ b2
      go_wp2_with fail
      refine (HC.out _ (Mem.rd_on h1 B2) (Mem.rd_on h4 B2)).mono ?_
      rintro e w3 ⟨rfl, b3⟩
      rw [HY.out]
      go_wp2
      go_ret
      exact ⟨congrArg (fun z => Ending.returned (.int .i64 z)) E.out.symm, B2.trans (b3.mono B2.size)⟩
    · have R1 := Lib.hid (fun W h1 h3 => l6State_any s a A1 n1 c1 A2 n2 c2 A3 n3 c3 W h1 h3 ok hin)
      have R2 := Lib.hid (fun W h1 h4 => l6State_any s b A1 n1 c1 A2 n2 c2 A4 n4 c4 W h1 h4 ok hy)
      obtain ⟨m, hm⟩ : ∃ m, m = widTo s.vars s.vars.length := ⟨_, rfl⟩
      have E : Hid (F = (difTo (stBits s.vars a) (stBits s.vars b) m : Nat)) := Lib.hid (by rw [hF, hz, hy, hm]; rfl)
      have hm11 : m ≤ 11 := by rw [hm]; exact wid_le ok (Nat.le_refl _)
      have LX : Hid ((stBits s.vars a).length = m) := Lib.hid (by rw [stBits_len, hm])
      have LY : Hid ((stBits s.vars b).length = m) := Lib.hid (by rw [stBits_len, hm])
      have HZ := Lib.hid hz
      have HY := Lib.hid hy
      clear hz hF hy ok hin hm
      generalize stBits s.vars a = X at *
      generalize stBits s.vars b = Y at *
      have DB : Hid (∀ k, difTo X Y k ≤ k) := Lib.hid fun k => by
        induction k with
        | zero => exact Nat.le_refl 0
        | succ k ih => show difTo X Y k + _ ≤ _; split <;> omega
      go_enter Try.func44, Try.ntmps44
      go_wp2_with fail
      refine (SV.out _).mono ?_
      rintro e w2 ⟨rfl, b2⟩
      rw [HZ.out]
      obtain ⟨B2, x0, x1⟩ := BX.out _ b2
      go_wp2_with fail
      refine (HC.out _ (Mem.rd_on h1 B2) (Mem.rd_on h4 B2)).mono ?_
      rintro e w3 ⟨rfl, b3⟩
      rw [HY.out]
      have b23 := b2.trans (b3.mono b2.size)
      obtain ⟨B3, y0, y1⟩ := BX.out _ b23
      clear x0 x1
      go_wp2_with fail
      refine (R1.out _ (Mem.rd_on h1 B3) (Mem.rd_on h3 B3)).mono ?_
      rintro e w4 ⟨v4, rfl, o4, b4⟩
      rw [LX.out] at o4
      obtain ⟨A5, c5, rfl, _, _⟩ := own_form o4
      obtain ⟨f5, om5, _, _⟩ := mem_ints (l := X) (by rw [LX.out]; exact o4) (by rw [LX.out]; unfold maxLen; omega)
      rw [LX.out] at om5
      have b34 := b23.trans (b4.mono b23.size)
      obtain ⟨B4, z0, z1⟩ := BX.out _ b34
      clear y0 y1 o4
      go_wp2_with fail
      refine (R2.out _ (Mem.rd_on h1 B4) (Mem.rd_on h4 B4)).mono ?_
      rintro e w5 ⟨v5, rfl, o5, b5⟩
      rw [LY.out] at o5
      obtain ⟨A6, c6, rfl, _, _⟩ := own_form o5
      obtain ⟨f6, om6, _, _⟩ := mem_ints (l := Y) (by rw [LY.out]; exact o5) (by rw [LY.out]; unfold maxLen; omega)
      rw [LY.out] at om6
      have om5 := Mem.own_below om5 b5
      have B5 := B4.trans (b5.mono B4.size)
      have r5 := (rd_ints.1 (Mem.own_rd om5)).2
      have r6 := (rd_ints.1 (Mem.own_rd om6)).2
      clear z0 z1 o5 om5 om6
      go_wp2
      go_loopg [9, 10] m (fun mm x i wr => ∃ k : Nat, k + mm = m ∧ i = .int .i64 k ∧ x = .int .i64 (difTo X Y k) ∧ Below w5.heap.size w5 wr)
      case atStart => exact ⟨0, by omega, rfl, rfl, Below.refl _ _⟩
      case round =>
        obtain ⟨k, hk, rfl, rfl, hb⟩ := hrel
        by_cases hlt : k < m
        · have kn : (k : Int) < m := by omega
          obtain ⟨ad5, rfl, hbl5, d5⟩ := (r5.below hb).int hlt
          obtain ⟨ad6, rfl, hbl6, d6⟩ := (r6.below hb).int hlt
          have db := DB.out k
          by_cases q : ix X k = ix Y k
          · have HP : Hid (difTo X Y (k + 1) = difTo X Y k) := Lib.hid (by show difTo X Y k + _ = _; rw [if_pos q]; rfl)
            have qb : (ix X k != ix Y k) = false := by simp [q]
            clear q
            go_wp2
            go_quiet (fail)
            go_wp2
            go_roundg (m - (k + 1))
            case measure => omega
            case rel => exact ⟨k + 1, by omega, by go_num, by rw [HP.out], hb.trans ⟨rfl, rfl, rfl, Nat.le_refl _, fun _ _ => rfl⟩⟩
          · have HP : Hid (((difTo X Y (k + 1) : Nat) : Int) = (difTo X Y k : Nat) + 1) := Lib.hid (by
              have : difTo X Y (k + 1) = difTo X Y k + 1 := by show difTo X Y k + _ = _; rw [if_neg q]
              rw [this]; simp)
            have qb : (ix X k != ix Y k) = true := by simp [q]
            have wv : IntKind.i64.wrap ((difTo X Y k : Nat) + 1 : Int) = (difTo X Y k : Nat) + 1 := IntWalk.i64_in _ (by omega)
            clear q
            go_wp2
            go_quiet (fail)
            go_wp2
            go_roundg (m - (k + 1))
            case measure => omega
            case rel => exact ⟨k + 1, by omega, by go_num, by rw [HP.out], hb.trans ⟨rfl, rfl, rfl, Nat.le_refl _, fun _ _ => rfl⟩⟩
        · obtain rfl : k = m := by omega
          go_wp2
          go_ret
          exact ⟨congrArg (fun z => Ending.returned (.int .i64 z)) E.out.symm, B5.trans (hb.mono B5.size)⟩
end Go.Proofs.Ytdecjkfokilgoaa
