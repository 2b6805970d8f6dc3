/- Fixed, both whole. -/
import Derived.Test.YtnhjcokmajejcaaFxS
import Derived.Test.YtnhjcokmajejcaaFxI
namespace Go.Proofs.Ytnhjcokmajejcaa
open Go.RowKit
set_option maxRecDepth 100000

noncomputable def fixed1 (s : Ci) (edge inp val : Int) : Ci := (fxB s edge inp val).1
noncomputable def fixed2 (s : Ci) (edge inp val : Int) : Int := (fxB s edge inp val).2
theorem fixed_specR (s : Ci) (edge inp val : Int) (A : Option Addr) (n c : Nat) (w : World) (h1 : Mem.rd w w.heap.size [.slice A n c] s.gates) :
    Calls Try.prog 19 #[.agg #[.int .i64 s.ins, .slice A n c], .int .i64 edge, .int .i64 inp, .int .i64 val] w (GivesCiN w (fixed1 s edge inp val) (fixed2 s edge inp val)) := by
  unfold fixed1 fixed2 fxB
  cases h : fxOk s edge inp val
  · exact fixed_spec_no s edge inp val A n c w h1 h
  · exact fixed_spec_yes s edge inp val A n c w h1 h
theorem fixed_implR (s : Ci) (edge inp val : Int) (A : Option Addr) (n c : Nat) (w : World) (h1 : Mem.rd w w.heap.size [.slice A n c] s.gates) :
    Calls Try.prog 21 #[.agg #[.int .i64 s.ins, .slice A n c], .int .i64 edge, .int .i64 inp, .int .i64 val] w (GivesCiN w (fixed1 s edge inp val) (fixed2 s edge inp val)) := by
  unfold fixed1 fixed2 fxB
  cases h : fxOk s edge inp val
  · exact fixed_impl_no s edge inp val A n c w h1 h
  · exact fixed_impl_yes s edge inp val A n c w h1 h
theorem fixed1_len (s : Ci) (edge inp val : Int) : (fixed1 s edge inp val).gates.length ≤ 1048576 := by
  unfold fixed1 fxB
  split
  · rename_i h
    obtain ⟨k1, _, ⟨i0, i1⟩, hv⟩ := fxOk_yes h
    have ok := ckB_iff.1 k1
    have := (fx_inv (val := val) ok i0 i1 hv (Nat.le_refl _)).len
    have := ok.few
    dsimp only
    omega
  · simp
end Go.Proofs.Ytnhjcokmajejcaa
