/- Bits: the program's functions. -/
import Derived.Test.YtdecjkfokilgoaaBitR
import Derived.Test.YtdecjkfokilgoaaBitT
namespace Go.Proofs.Ytdecjkfokilgoaa
open Go.RowKit

set_option maxHeartbeats 1000000 in
theorem bitsOf_impl (s : Sy) (A1 : Option Addr) (n1 c1 : Nat) (A2 : Option Addr) (n2 c2 : Nat) (w : World) (h1 : Mem.rd w w.heap.size [.slice A1 n1 c1] s.vars) (h2 : Mem.rd w w.heap.size [.slice A2 n2 c2] s.rules) :
    Calls Try.prog 31 #[.agg #[.slice A1 n1 c1, .slice A2 n2 c2]] w (GivesL w (bitsOfB s)) := by
  have l1 := rd_len h1
  have L1 := Lib.hid l1
  have BX := Lib.hid (sy_box (w := w) (v1 := .slice A1 n1 c1) (v2 := .slice A2 n2 c2))
  have SV := Lib.hid (fun o => sysValid_impl s A1 n1 c1 A2 n2 c2 (w.alloc o) (Mem.rd_on_alloc h1 o) (Mem.rd_on_alloc h2 o))
  obtain ⟨F, hF⟩ : ∃ F, F = bitsOfB s := ⟨_, rfl⟩
  rw [← hF]
  unfold bitsOfB at hF
  cases hz : sysB s
  · have E : Hid (F = []) := Lib.hid (by rw [hF, hz]; rfl)
    have HZ := Lib.hid hz; clear hz hF l1
    go_enter Try.func31, Try.ntmps31
    go_wp2_with fail
    refine (SV.out _).mono ?_
    rintro e w2 ⟨rfl, b2⟩
    rw [HZ.out]
    go_wp2
    go_ret
    rw [E.out]
    exact ⟨none, 0, 0, [], rfl, own_none _, List.nodup_nil, by simp, below_call b2⟩
  · have E : Hid (F = widL s.vars) := Lib.hid (by rw [hF, hz]; rfl)
    have ok := sysOk_of hz
    have h5 : n1 ≤ 5 := by have := ok.hi; omega
    have HV := Lib.hid (fun k (hk : k < n1) => ok.vars k (by omega))
    have HZ := Lib.hid hz; clear hz hF ok l1
    go_enter Try.func31, Try.ntmps31
    go_wp2_with fail
    refine (SV.out _).mono ?_
    rintro e w2 ⟨rfl, b2⟩
    rw [HZ.out]
    obtain ⟨B2, x0, x1⟩ := BX.out _ b2
    go_wp2_with (first
      | (at_make; refine wpList_make_own _ rfl _ _ 25 rfl w.heap.size 3 intRow _ 1 Try.underlying25 int_row.1 int_row.2.1 int_row.2.2.1 _ _ _ n1 rfl rfl (by omega) (by rw [int_row.2.2.2]; omega) (by unfold maxLen; omega) B2.size ?_; intro w3 hown hg
         have b3 : Below w2.heap.size w2 w3 := (Below.refl w2.heap.size w2).grown hg (Nat.le_refl _) (by simp)
         obtain ⟨B3, y0, y1⟩ := BX.out _ (b2.trans (b3.mono b2.size))
         clear x0 x1 hg))
    go_loopg [3, 16] n1 (fun m v i wr => ∃ k : Nat, k + m = n1 ∧ i = .int .i64 k ∧ wr.ownsRow w.heap.size 3 1 v k (ints ((widL s.vars).take k)) ∧ Below w.heap.size w wr)
    case atStart => exact ⟨0, by omega, rfl, hown, B3⟩
    case round =>
      obtain ⟨k, hk, rfl, ho, hb⟩ := hrel
      clear hown
      by_cases hlt : k < n1
      · obtain ⟨ad, rfl, _, c0, c1', c2'⟩ := vr_at (Mem.rd_below h1 hb) hlt
        have HF := Lib.hid (widL_take (l := s.vars) (k := k) (by rw [L1.out]; exact hlt))
        have HS := Lib.hid (fun W => width_any (el s.vars k) W (HV.out k hlt))
        unfold Vr.v at HS
        generalize wdv (el s.vars k) = z at *
        go_wp2_with (first
          | (go_at_call 76; refine (HS.out _).mono ?_; rintro e w5 ⟨rfl, b5⟩
             have b5' := below_call b5
             have HO := Lib.hid (own_below ho b5'))
          | (at_builtin; refine app_int_at rfl _ _ rfl w.heap.size _ k _ _ _ rfl ((HO.out).alloc _) rfl (World.cell?_alloc_at _ _ _ _ (by simp)) (by omega) (by have := hb.size; have := b5'.size; simp; omega) ?_; intro v' w4 ho4 hb4))
        go_roundg (n1 - (k + 1))
        case measure => omega
        case rel => exact ⟨k + 1, by omega, by go_num, by rw [HF.out]; exact ho4, ((hb.trans (b5'.mono hb.size)).alloc (by have := hb.size; have := b5'.size; omega) _).trans hb4⟩
      · obtain rfl : k = n1 := by omega
        go_wp2
        go_ret
        rw [List.take_of_length_le (by rw [widL_len, L1.out]; exact Nat.le_refl _)] at ho
        have hl : (widL s.vars).length = k := by rw [widL_len, L1.out]
        rw [E.out]
        exact givesL_of ⟨_, rfl, by rw [hl]; exact ho, hb⟩ (by rw [hl]; unfold maxLen; omega)

theorem stateBits_impl (s : Sy) (st : List Int) (A1 : Option Addr) (n1 c1 : Nat) (A2 : Option Addr) (n2 c2 : Nat) (A3 : Option Addr) (n3 c3 : Nat) (w : World) (h1 : Mem.rd w w.heap.size [.slice A1 n1 c1] s.vars) (h2 : Mem.rd w w.heap.size [.slice A2 n2 c2] s.rules) (h3 : Mem.rd w w.heap.size [.slice A3 n3 c3] st) :
    Calls Try.prog 37 #[.agg #[.slice A1 n1 c1, .slice A2 n2 c2], .slice A3 n3 c3] w (GivesL w (stateBitsB s st)) := by
  have BX := Lib.hid (sy_box (w := w) (v1 := .slice A1 n1 c1) (v2 := .slice A2 n2 c2))
  have SV := Lib.hid (fun o => inRange_impl s st A1 n1 c1 A2 n2 c2 A3 n3 c3 (w.alloc o) (Mem.rd_on_alloc h1 o) (Mem.rd_on_alloc h2 o) (Mem.rd_on_alloc h3 o))
  obtain ⟨F, hF⟩ : ∃ F, F = stateBitsB s st := ⟨_, rfl⟩
  rw [← hF]
  unfold stateBitsB at hF
  cases hz : inRangeB s st
  · have E : Hid (F = []) := Lib.hid (by rw [hF, hz]; rfl)
    have HZ := Lib.hid hz; clear hz hF
    go_enter Try.func37, Try.ntmps37
    go_wp2_with fail
    refine (SV.out _).mono ?_
    rintro e w2 ⟨rfl, b2⟩
    rw [HZ.out]
    go_wp2
    go_ret
    rw [E.out]
    exact ⟨none, 0, 0, [], rfl, own_none _, List.nodup_nil, by simp, below_call b2⟩
  · obtain ⟨ok, hin⟩ := inRange_ok hz
    have E : Hid (F = bitsN (rowTo s.vars st s.vars.length) (widTo s.vars s.vars.length)) := Lib.hid (by rw [hF, hz]; rfl)
    have RC := Lib.hid (fun W h1 h3 => row_any s st A1 n1 c1 A2 n2 c2 A3 n3 c3 W h1 h3 ok hin)
    have LS := Lib.hid (⟨wid_le ok (Nat.le_refl _), row_lt ok.vars hin (Nat.le_refl _)⟩ : widTo s.vars s.vars.length ≤ 11 ∧ rowTo s.vars st s.vars.length < 2 ^ widTo s.vars s.vars.length)
    have HZ := Lib.hid hz; clear hz hF ok hin
    generalize rowTo s.vars st s.vars.length = R at *
    generalize widTo s.vars s.vars.length = M at *
    have LC := Lib.hid (fun W => rwList_any R M W (by have := LS.out; omega) (by obtain ⟨a, b⟩ := LS.out; have : 2 ^ M ≤ 2 ^ 11 := Nat.pow_le_pow_right (by omega) a; omega))
    unfold rwV at RC
    go_enter Try.func37, Try.ntmps37
    go_wp2_with fail
    refine (SV.out _).mono ?_
    rintro e w2 ⟨rfl, b2⟩
    rw [HZ.out]
    obtain ⟨B2, x0, x1⟩ := BX.out _ b2
    go_wp2_with fail
    refine (RC.out _ (Mem.rd_on h1 B2) (Mem.rd_on h3 B2)).mono ?_
    rintro e w4 ⟨rfl, b4⟩
    have B4 := B2.trans (b4.mono B2.size)
    go_wp2_with fail
    refine (LC.out _).mono ?_
    rintro e w5 g5
    obtain ⟨v5, rfl, o5, b5⟩ := g5
    go_wp2
    go_ret
    rw [E.out]
    exact givesL_of ⟨v5, rfl, own_lower o5 B4.size, B4.trans (b5.mono B4.size)⟩ (by rw [bitsN_len]; have := LS.out; unfold maxLen; omega)

set_option maxRecDepth 100000 in
theorem valueBits_impl (n many : Int) (w : World) : Calls Try.prog 13 #[.int .i64 n, .int .i64 many] w (GivesL w (valueBitsB n many)) := by
  obtain ⟨F, hF⟩ : ∃ F, F = valueBitsB n many := ⟨_, rfl⟩
  rw [← hF]
  unfold valueBitsB at hF
  by_cases q0 : many < 0 ∨ 12 < many
  · have E : Hid (F = []) := Lib.hid (by
      rw [hF]
      rcases q0 with q | q
      · rw [decide_eq_false (show ¬ 0 ≤ many by omega)]; rfl
      · rw [decide_eq_false (show ¬ many ≤ 12 by omega)]; simp)
    clear hF
    rcases q0 with q | q
    · go_enter Try.func13, Try.ntmps13
      go_wp2
      go_ret
      rw [E.out]
      exact ⟨none, 0, 0, [], rfl, own_none _, List.nodup_nil, by simp, Below.refl _ _⟩
    · have q' : ¬ many < 0 := by omega
      go_enter Try.func13, Try.ntmps13
      go_wp2
      go_ret
      rw [E.out]
      exact ⟨none, 0, 0, [], rfl, own_none _, List.nodup_nil, by simp, Below.refl _ _⟩
  · obtain ⟨m, rfl⟩ : ∃ m : Nat, many = m := ⟨many.toNat, by omega⟩
    have hm12 : m ≤ 12 := by omega
    obtain ⟨hsh, h4⟩ := pow_shl hm12
    rw [decide_eq_true (show (0 : Int) ≤ m by omega), decide_eq_true (show (m : Int) ≤ 12 by omega), Int.toNat_natCast] at hF
    have hn0 : ¬ ((m : Int) < 0) := by omega
    have hn1 : ¬ (12 < (m : Int)) := by omega
    have hn2 : ¬ (12 < m) := by omega
    clear q0
    by_cases q : n < 0
    · have E : Hid (F = []) := Lib.hid (by rw [hF, decide_eq_false (show ¬ 0 ≤ n by omega)]; rfl)
      clear hF
      go_enter Try.func13, Try.ntmps13
      go_wp2
      go_ret
      rw [E.out]
      exact ⟨none, 0, 0, [], rfl, own_none _, List.nodup_nil, by simp, Below.refl _ _⟩
    · by_cases q2 : ((2 ^ m : Nat) : Int) ≤ n
      · have E : Hid (F = []) := Lib.hid (by rw [hF, decide_eq_false (show ¬ n < ((2 ^ m : Nat) : Int) by omega)]; simp)
        clear hF
        generalize (2 ^ m : Nat) = X at *
        have hm64 : m ≤ 64 := by omega
        go_enter Try.func13, Try.ntmps13
        go_wp2
        go_ret
        rw [E.out]
        exact ⟨none, 0, 0, [], rfl, own_none _, List.nodup_nil, by simp, Below.refl _ _⟩
      · obtain ⟨N, rfl⟩ : ∃ N : Nat, n = N := ⟨n.toNat, by omega⟩
        have E : Hid (F = bitsN N m) := Lib.hid (by rw [hF, decide_eq_true (show (0 : Int) ≤ N by omega), decide_eq_true (show (N : Int) < ((2 ^ m : Nat) : Int) by omega)]; simp)
        have WC := Lib.hid (fun W => with_any 0 0 N m W (by omega) (by omega) hm12 (by omega))
        rw [Nat.zero_mul, Nat.zero_add, Nat.zero_add] at WC
        have LC := Lib.hid (fun W => rwList_any N m W hm12 (by omega))
        clear hF
        generalize (2 ^ m : Nat) = X at *
        have hm64 : m ≤ 64 := by omega
        have hNX : ¬ (X ≤ N) := by omega
        unfold rwV at WC
        go_enter Try.func13, Try.ntmps13
        go_wp2_with fail
        refine (WC.out _).mono ?_
        rintro e w4 ⟨rfl, b4⟩
        go_wp2_with fail
        refine (LC.out _).mono ?_
        rintro e w5 g5
        obtain ⟨v5, rfl, o5, b5⟩ := g5
        go_wp2
        go_ret
        rw [E.out]
        exact givesL_of ⟨v5, rfl, own_lower o5 b4.size, b4.trans (b5.mono b4.size)⟩ (by rw [bitsN_len]; unfold maxLen; omega)
end Go.Proofs.Ytdecjkfokilgoaa
