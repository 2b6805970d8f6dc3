/- Lists of lists of numbers: the exact laws' helpers. -/
import Derived.Test.YtfgjogmgcamfdaaDoorMarkSy
import Derived.Test.YtfgjogmgcamfdaaDoorEqSy
import Derived.Test.YtfgjogmgcamfdaaDoorOpenSy
import Derived.Test.YtfgjogmgcamfdaaDoorSzEq
namespace Go.Proofs.YtfgjogmgcamfdaaDoor
open Go.RowKit

def szII (L : List (List Int)) : Nat := L.length + sumTo (fun i => (el L i).length) L.length
/-- How many marks. -/
def mkII (L : List (List Int)) : Nat := sumTo (fun i => (el L i).length) L.length
theorem ii_fits {L : List (List Int)} (h : szII L ≤ 1048576) : L.length ≤ 1048576 ∧ ∀ k, k < L.length → (el L k).length ≤ 1048576 := by
  unfold szII at h
  refine ⟨by omega, fun k hk => ?_⟩
  have := sumTo_one (f := fun i => (el L i).length) hk

  omega
theorem ii_fits3 {L : List (List Int)} {n : Nat} (h : szII L ≤ 1048576) (hl : L.length = n) : n ≤ 1048576 ∧ (∀ k, k < n → (el L k).length ≤ 1048576) ∧ ∀ k, k < L.length → (el L k).length ≤ 1048576 := by
  subst hl; exact ⟨(ii_fits h).1, (ii_fits h).2, (ii_fits h).2⟩
theorem mkII_le {L : List (List Int)} (h : szII L ≤ 1048576) : mkII L ≤ 1048576 := by unfold mkII; unfold szII at h; omega
theorem inS_info : (Tryd.prog.info? 29).map (fun i => (i.zero, i.size, i.bytes)) = some (some (.slice none 0 0), 1, 24) := by kernel_rfl
noncomputable def inSRow : TypeInfo := Classical.choose (info_parts inS_info)
theorem inS_row : Tryd.prog.info? 29 = some inSRow ∧ inSRow.zero = some (.slice none 0 0) ∧ inSRow.size = 1 ∧ inSRow.bytes = 24 := Classical.choose_spec (info_parts inS_info)

section
open Go.ChangeShapes Go.WideShapes Go.ChangeAt Go.Deep
variable {H : Type} {enc : TypeId × Value → H} {w : World} {base : Nat} {spare : Nat → Bool} {held : Bool}
theorem opens_IntSS : Opens enc Tryd.prog w base spare held 75 (List (List Int)) := opens_slice Tryd.underlying75 (by kernel_rfl) (by decide) opens_IntS
set_option maxRecDepth 100000 in
theorem open_intSS {v : Value} {d : DataW H} {p : List MemPlace} {r : Reach} {b0 : Nat} (hv : Value.okWide Tryd.prog w r b0 75 v) (h : DataW.Trod enc Tryd.prog w base spare held 75 v d p) :
    ∃ A n c, ∃ l : List (List Int), v = .slice A n c ∧ Mem.rd w w.heap.size [.slice A n c] l := by
  obtain ⟨fuel, h⟩ := h
  obtain ⟨A0, n0, c0, rfl⟩ := okWide_slice Tryd.underlying75 hv
  obtain ⟨l, hl⟩ := opens_IntSS _ _ _ h
  exact ⟨A0, n0, c0, l, rfl, hl⟩
end
end Go.Proofs.YtfgjogmgcamfdaaDoor
