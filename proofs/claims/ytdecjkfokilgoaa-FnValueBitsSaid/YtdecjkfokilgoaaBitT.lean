/- Bits: the model's functions. -/
import Derived.Test.YtdecjkfokilgoaaBitS
import Derived.Test.YtdecjkfokilgoaaIl
namespace Go.Proofs.Ytdecjkfokilgoaa
open Go.RowKit

theorem stBits_len (l : List Vr) (st : List Int) : (stBits l st).length = widTo l l.length := bitsN_len _ _

theorem bitsOf_spec (s : Sy) (A1 : Option Addr) (n1 c1 : Nat) (A2 : Option Addr) (n2 c2 : Nat) (w : World) (h1 : Mem.rd w w.heap.size [.slice A1 n1 c1] s.vars) (h2 : Mem.rd w w.heap.size [.slice A2 n2 c2] s.rules) :
    Calls Try.prog 30 #[.agg #[.slice A1 n1 c1, .slice A2 n2 c2]] w (GivesL w (bitsOfB s)) := by
  have BX := Lib.hid (sy_box (w := w) (v1 := .slice A1 n1 c1) (v2 := .slice A2 n2 c2))
  have SV := Lib.hid (fun o => sysValid_spec s A1 n1 c1 A2 n2 c2 (w.alloc o) (Mem.rd_on_alloc h1 o) (Mem.rd_on_alloc h2 o))
  obtain ⟨F, hF⟩ : ∃ F, F = bitsOfB s := ⟨_, rfl⟩
  rw [← hF]
  unfold bitsOfB at hF
  cases hz : sysB s
  · have E : Hid (F = []) := Lib.hid (by rw [hF, hz]; rfl)
    have HZ := Lib.hid hz; clear hz hF
    go_enter Try.func30, Try.ntmps30
    go_wp2_with fail
    refine (SV.out _).mono ?_
    rintro e w2 ⟨rfl, b2⟩
    rw [HZ.out]
    go_wp2
    go_ret
    rw [E.out]
    exact ⟨none, 0, 0, [], rfl, own_none _, List.nodup_nil, by simp, below_call b2⟩
  · have E : Hid (F = widL s.vars) := Lib.hid (by rw [hF, hz]; rfl)
    have ok := sysOk_of hz
    have WC := Lib.hid (fun W h1 => l6Widths_any s A1 n1 c1 A2 n2 c2 W h1 ok)
    have LS : Hid ((widL s.vars).length ≤ 5) := Lib.hid (by rw [widL_len]; exact ok.hi)
    have HZ := Lib.hid hz; clear hz hF ok
    generalize widL s.vars = S at *
    go_enter Try.func30, Try.ntmps30
    go_wp2_with fail
    refine (SV.out _).mono ?_
    rintro e w2 ⟨rfl, b2⟩
    rw [HZ.out]
    obtain ⟨B2, x0, x1⟩ := BX.out _ b2
    go_wp2_with fail
    refine (WC.out _ (Mem.rd_on h1 B2)).mono ?_
    rintro e w5 g5
    obtain ⟨v5, rfl, o5, b5⟩ := g5
    go_wp2
    go_ret
    rw [E.out]
    exact givesL_of ⟨v5, rfl, own_lower o5 B2.size, B2.trans (b5.mono B2.size)⟩ (by have := LS.out; unfold maxLen; omega)

theorem stateBits_spec (s : Sy) (st : List Int) (A1 : Option Addr) (n1 c1 : Nat) (A2 : Option Addr) (n2 c2 : Nat) (A3 : Option Addr) (n3 c3 : Nat) (w : World) (h1 : Mem.rd w w.heap.size [.slice A1 n1 c1] s.vars) (h2 : Mem.rd w w.heap.size [.slice A2 n2 c2] s.rules) (h3 : Mem.rd w w.heap.size [.slice A3 n3 c3] st) :
    Calls Try.prog 35 #[.agg #[.slice A1 n1 c1, .slice A2 n2 c2], .slice A3 n3 c3] w (GivesL w (stateBitsB s st)) := by
  have BX := Lib.hid (sy_box (w := w) (v1 := .slice A1 n1 c1) (v2 := .slice A2 n2 c2))
  have SV := Lib.hid (fun o => inRange_spec s st A1 n1 c1 A2 n2 c2 A3 n3 c3 (w.alloc o) (Mem.rd_on_alloc h1 o) (Mem.rd_on_alloc h2 o) (Mem.rd_on_alloc h3 o))
  obtain ⟨F, hF⟩ : ∃ F, F = stateBitsB s st := ⟨_, rfl⟩
  rw [← hF]
  unfold stateBitsB at hF
  cases hz : inRangeB s st
  · have E : Hid (F = []) := Lib.hid (by rw [hF, hz]; rfl)
    have HZ := Lib.hid hz; clear hz hF
    go_enter Try.func35, Try.ntmps35
    go_wp2_with fail
    refine (SV.out _).mono ?_
    rintro e w2 ⟨rfl, b2⟩
    rw [HZ.out]
    go_wp2
    go_ret
    rw [E.out]
    exact ⟨none, 0, 0, [], rfl, own_none _, List.nodup_nil, by simp, below_call b2⟩
  · have E : Hid (F = stBits s.vars st) := Lib.hid (by rw [hF, hz]; rfl)
    obtain ⟨ok, hin⟩ := inRange_ok hz
    have WC := Lib.hid (fun W h1 h3 => l6State_any s st A1 n1 c1 A2 n2 c2 A3 n3 c3 W h1 h3 ok hin)
    have LS : Hid ((stBits s.vars st).length ≤ 11) := Lib.hid (by rw [stBits_len]; exact wid_le ok (Nat.le_refl _))
    have HZ := Lib.hid hz; clear hz hF ok hin
    generalize stBits s.vars st = S at *
    go_enter Try.func35, Try.ntmps35
    go_wp2_with fail
    refine (SV.out _).mono ?_
    rintro e w2 ⟨rfl, b2⟩
    rw [HZ.out]
    obtain ⟨B2, x0, x1⟩ := BX.out _ b2
    go_wp2_with fail
    refine (WC.out _ (Mem.rd_on h1 B2) (Mem.rd_on h3 B2)).mono ?_
    rintro e w5 g5
    obtain ⟨v5, rfl, o5, b5⟩ := g5
    go_wp2
    go_ret
    rw [E.out]
    exact givesL_of ⟨v5, rfl, own_lower o5 B2.size, B2.trans (b5.mono B2.size)⟩ (by have := LS.out; unfold maxLen; omega)

theorem bitsValue_spec (l : List Int) (A : Option Addr) (n c : Nat) (w : World) (h : Mem.rd w w.heap.size [.slice A n c] l) :
    Calls Try.prog 40 #[.slice A n c] w (GivesInt w (bitsValB l)) := by
  have L := rd_len h
  have hm := rd_max h
  unfold maxLen at hm
  have AR := Lib.hid (fun W (B : Below w.heap.size w W) => l6Are_any A n c l W (Mem.rd_on h B))
  obtain ⟨F, hF⟩ : ∃ F, F = bitsValB l := ⟨_, rfl⟩
  rw [← hF]
  unfold bitsValB at hF
  rw [L] at hF
  by_cases q : 12 < n
  · have E : Hid (F = -1) := Lib.hid (by rw [hF, decide_eq_false (by omega)]; rfl)
    clear hF
    go_enter Try.func40, Try.ntmps40
    go_wp2
    go_ret
    exact ⟨congrArg (fun z => Ending.returned (.int .i64 z)) E.out.symm, Below.refl _ _⟩
  · cases ha : areB l
    · have E : Hid (F = -1) := Lib.hid (by rw [hF, ha]; simp)
      have HA := Lib.hid ha
      clear hF ha
      go_enter Try.func40, Try.ntmps40
      go_wp2_with fail
      refine (AR.out _ (Below.refl _ _)).mono ?_
      rintro e w2 ⟨rfl, b2⟩
      rw [HA.out]
      go_wp2
      go_ret
      exact ⟨congrArg (fun z => Ending.returned (.int .i64 z)) E.out.symm, b2⟩
    · have E : Hid (F = (numN l n : Nat)) := Lib.hid (by rw [hF, ha, decide_eq_true (show n ≤ 12 by omega)]; rfl)
      have HA := Lib.hid ha
      have NC := Lib.hid (fun W h => l6Number_any A n c l W h (by omega) (by unfold areB at ha; rw [L] at ha; exact ha))
      clear hF ha
      go_enter Try.func40, Try.ntmps40
      go_wp2_with fail
      refine (AR.out _ (Below.refl _ _)).mono ?_
      rintro e w2 ⟨rfl, b2⟩
      rw [HA.out]
      go_wp2_with fail
      refine (NC.out _ (Mem.rd_on h b2)).mono ?_
      rintro e w3 ⟨rfl, b3⟩
      go_wp2
      go_ret
      exact ⟨congrArg (fun z => Ending.returned (.int .i64 z)) E.out.symm, b2.trans (b3.mono b2.size)⟩

theorem pow_shl {m : Nat} (h : m ≤ 12) : IntKind.i64.wrap ((2 : Int) ^ m) = ((2 ^ m : Nat) : Int) ∧ 2 ^ m ≤ 4096 := by
  have h2 : 2 ^ m ≤ 2 ^ 12 := Nat.pow_le_pow_right (by omega) h
  have hp : (2 : Int) ^ m = ((2 ^ m : Nat) : Int) := by simp
  rw [hp]
  generalize 2 ^ m = X at h2 ⊢
  exact ⟨IntWalk.i64_in _ (by omega), h2⟩

set_option maxRecDepth 100000 in
theorem valueBits_spec (n many : Int) (w : World) : Calls Try.prog 15 #[.int .i64 n, .int .i64 many] w (GivesL w (valueBitsB n many)) := by
  obtain ⟨F, hF⟩ : ∃ F, F = valueBitsB n many := ⟨_, rfl⟩
  rw [← hF]
  unfold valueBitsB at hF
  cases hi : inB many 0 12
  · have E : Hid (F = []) := Lib.hid (by
      unfold inB at hi
      rw [hF, hi]; rfl)
    have HI := Lib.hid hi
    clear hF hi
    go_enter Try.func15, Try.ntmps15
    go_wp2_with fail
    refine (l1In_any _ _ _ _).mono ?_
    rintro e w3 ⟨rfl, rfl⟩
    rw [HI.out]
    go_wp2
    go_ret
    rw [E.out]
    exact ⟨none, 0, 0, [], rfl, own_none _, List.nodup_nil, by simp, Below.refl _ _⟩
  · have hm : 0 ≤ many ∧ many ≤ 12 := by unfold inB at hi; simp at hi; omega
    obtain ⟨m, rfl⟩ : ∃ m : Nat, many = m := ⟨many.toNat, by omega⟩
    have hm12 : m ≤ 12 := by omega
    obtain ⟨hsh, h4⟩ := pow_shl hm12
    have HI := Lib.hid hi
    unfold inB at hi
    rw [hi, Int.toNat_natCast] at hF
    clear hi hm
    by_cases q : n < 0
    · have E : Hid (F = []) := Lib.hid (by rw [hF, decide_eq_false (show ¬ 0 ≤ n by omega)]; rfl)
      clear hF
      go_enter Try.func15, Try.ntmps15
      go_wp2_with fail
      refine (l1In_any _ _ _ _).mono ?_
      rintro e w3 ⟨rfl, rfl⟩
      rw [HI.out]
      go_wp2
      go_ret
      rw [E.out]
      exact ⟨none, 0, 0, [], rfl, own_none _, List.nodup_nil, by simp, Below.refl _ _⟩
    · by_cases q2 : ((2 ^ m : Nat) : Int) ≤ n
      · have E : Hid (F = []) := Lib.hid (by rw [hF, decide_eq_false (show ¬ n < ((2 ^ m : Nat) : Int) by omega)]; simp)
        clear hF
        generalize (2 ^ m : Nat) = X at *
        have hm64 : m ≤ 64 := by omega
        go_enter Try.func15, Try.ntmps15
        go_wp2_with fail
        refine (l1In_any _ _ _ _).mono ?_
        rintro e w3 ⟨rfl, rfl⟩
        rw [HI.out]
        go_wp2
        go_ret
        rw [E.out]
        exact ⟨none, 0, 0, [], rfl, own_none _, List.nodup_nil, by simp, Below.refl _ _⟩
      · obtain ⟨N, rfl⟩ : ∃ N : Nat, n = N := ⟨n.toNat, by omega⟩
        have E : Hid (F = bitsN N m) := Lib.hid (by rw [hF, decide_eq_true (show (0 : Int) ≤ N by omega), decide_eq_true (show (N : Int) < ((2 ^ m : Nat) : Int) by omega)]; simp)
        have VC := Lib.hid (fun W => l6Value_any N m W hm12 (by omega))
        clear hF
        generalize (2 ^ m : Nat) = X at *
        have hm64 : m ≤ 64 := by omega
        go_enter Try.func15, Try.ntmps15
        go_wp2_with fail
        refine (l1In_any _ _ _ _).mono ?_
        rintro e w3 ⟨rfl, rfl⟩
        rw [HI.out]
        go_wp2_with fail
        refine (VC.out _).mono ?_
        rintro e w5 g5
        obtain ⟨v5, rfl, o5, b5⟩ := g5
        go_wp2
        go_ret
        rw [E.out]
        exact givesL_of ⟨v5, rfl, o5, b5⟩ (by rw [bitsN_len]; unfold maxLen; omega)
end Go.Proofs.Ytdecjkfokilgoaa
