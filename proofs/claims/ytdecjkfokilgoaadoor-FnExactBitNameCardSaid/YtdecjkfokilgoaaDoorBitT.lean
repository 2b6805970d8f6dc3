/- Bits: the model's functions. -/
import Derived.Test.YtdecjkfokilgoaaDoorBitS
import Derived.Test.YtdecjkfokilgoaaDoorIl
namespace Go.Proofs.YtdecjkfokilgoaaDoor
open Go.RowKit

theorem stBits_len (l : List Vr) (st : List Int) : (stBits l st).length = widTo l l.length := bitsN_len _ _

theorem bitsOf_spec (s : Sy) (A1 : Option Addr) (n1 c1 : Nat) (A2 : Option Addr) (n2 c2 : Nat) (w : World) (h1 : Mem.rd w w.heap.size [.slice A1 n1 c1] s.vars) (h2 : Mem.rd w w.heap.size [.slice A2 n2 c2] s.rules) :
    Calls Tryd.prog 11 #[.agg #[.slice A1 n1 c1, .slice A2 n2 c2]] w (GivesL w (bitsOfB s)) := by
  have BX := Lib.hid (sy_box (w := w) (v1 := .slice A1 n1 c1) (v2 := .slice A2 n2 c2))
  have SV := Lib.hid (fun o => sysValid_spec s A1 n1 c1 A2 n2 c2 (w.alloc o) (Mem.rd_on_alloc h1 o) (Mem.rd_on_alloc h2 o))
  obtain ⟨F, hF⟩ : ∃ F, F = bitsOfB s := ⟨_, rfl⟩
  rw [← hF]
  unfold bitsOfB at hF
  cases hz : sysB s
  · have E : Hid (F = []) := Lib.hid (by rw [hF, hz]; rfl)
    have HZ := Lib.hid hz; clear hz hF
    go_enter Tryd.func11, Tryd.ntmps11
    go_wp2_with fail
    refine (SV.out _).mono ?_
    rintro e w2 ⟨rfl, b2⟩
    rw [HZ.out]
    go_wp2
    go_ret
    rw [E.out]
    exact ⟨none, 0, 0, [], rfl, own_none _, List.nodup_nil, by simp, below_call b2⟩
  · have E : Hid (F = widL s.vars) := Lib.hid (by rw [hF, hz]; rfl)
    have ok := sysOk_of hz
    have WC := Lib.hid (fun W h1 => l6Widths_any s A1 n1 c1 A2 n2 c2 W h1 ok)
    have LS : Hid ((widL s.vars).length ≤ 5) := Lib.hid (by rw [widL_len]; exact ok.hi)
    have HZ := Lib.hid hz; clear hz hF ok
    generalize widL s.vars = S at *
    go_enter Tryd.func11, Tryd.ntmps11
    go_wp2_with fail
    refine (SV.out _).mono ?_
    rintro e w2 ⟨rfl, b2⟩
    rw [HZ.out]
    obtain ⟨B2, x0, x1⟩ := BX.out _ b2
    go_wp2_with fail
    refine (WC.out _ (Mem.rd_on h1 B2)).mono ?_
    rintro e w5 g5
    obtain ⟨v5, rfl, o5, b5⟩ := g5
    go_wp2
    go_ret
    rw [E.out]
    exact givesL_of ⟨v5, rfl, own_lower o5 B2.size, B2.trans (b5.mono B2.size)⟩ (by have := LS.out; unfold maxLen; omega)

theorem pow_shl {m : Nat} (h : m ≤ 12) : IntKind.i64.wrap ((2 : Int) ^ m) = ((2 ^ m : Nat) : Int) ∧ 2 ^ m ≤ 4096 := by
  have h2 : 2 ^ m ≤ 2 ^ 12 := Nat.pow_le_pow_right (by omega) h
  have hp : (2 : Int) ^ m = ((2 ^ m : Nat) : Int) := by simp
  rw [hp]
  generalize 2 ^ m = X at h2 ⊢
  exact ⟨IntWalk.i64_in _ (by omega), h2⟩

end Go.Proofs.YtdecjkfokilgoaaDoor
