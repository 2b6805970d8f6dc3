/- Runs as arguments of an exact law. -/
import Derived.Test.YtdecjkfokilgoaaTr
import Derived.Test.YtdecjkfokilgoaaOpenSy
import Derived.Test.YtdecjkfokilgoaaToSy
namespace Go.Proofs.Ytdecjkfokilgoaa
open Go.ChangeShapes Go.WideShapes Go.ChangeAt Go.RowKit Go.Deep

structure Tr where
  states : List (List Int)
  rules : List Int
def szTr (s : Tr) : Nat := szII s.states + s.rules.length
structure Tr.Fits (s : Tr) : Prop where
  states : s.states.length ≤ 1048576
  rules : s.rules.length ≤ 1048576
  state : ∀ k, k < s.states.length → (el s.states k).length ≤ 1048576
theorem Tr.fits_of {s : Tr} (h : szTr s ≤ 1048576) : s.Fits := by
  unfold szTr at h
  have h2 : szII s.states ≤ 1048576 := by omega
  exact ⟨(ii_fits h2).1, by omega, (ii_fits h2).2⟩
def GivesTr (w : World) (s : Tr) (e : Ending) (w' : World) : Prop :=
  ∃ A1 n1 c1 A2 n2 c2 f1 f2, e = .returned (.agg #[.slice A1 n1 c1, .slice A2 n2 c2]) ∧ Mem.own w' f1 [.slice A1 n1 c1] s.states ∧ Mem.own w' f2 [.slice A2 n2 c2] s.rules ∧ (f1 ++ f2).Nodup ∧ (∀ b ∈ f1 ++ f2, w.heap.size ≤ b) ∧ Below w.heap.size w w'
theorem eqTrArg_same (s : Tr) (A1 : Option Addr) (n1 c1 : Nat) (A2 : Option Addr) (n2 c2 : Nat) (A3 : Option Addr) (n3 c3 : Nat) (A4 : Option Addr) (n4 c4 : Nat) (w : World) (h1 : Mem.rd w w.heap.size [.slice A1 n1 c1] s.states) (h2 : Mem.rd w w.heap.size [.slice A2 n2 c2] s.rules)
    (h3 : Mem.rd w w.heap.size [.slice A3 n3 c3] s.states) (h4 : Mem.rd w w.heap.size [.slice A4 n4 c4] s.rules) (hf : s.Fits) :
    Calls Try.prog 23 #[.agg #[.slice A1 n1 c1, .slice A2 n2 c2], .agg #[.slice A3 n3 c3, .slice A4 n4 c4]] w (GivesBool w true) :=
  eqTrace_same s.states s.rules A1 n1 c1 A2 n2 c2 A3 n3 c3 A4 n4 c4 w h1 h2 h3 h4 hf.state
section
variable {H : Type} {enc : TypeId × Value → H} {w : World} {base : Nat} {spare : Nat → Bool} {held : Bool}
end
end Go.Proofs.Ytdecjkfokilgoaa
