/- Lists of lists of numbers that a call owns: marked, and found again; runs: the exact laws' helpers for results. -/
import Derived.Test.YthlkbkomecnbaaaDoorIl
import Derived.Test.YthlkbkomecnbaaaDoorSysB
namespace Go.Proofs.YthlkbkomecnbaaaDoor
open Go.RowKit

/-- What marking leaves. -/
def seqII (q : Int) (L : List (List Int)) : List (List Int) := (List.range L.length).map fun k => seqFrom (q + sumTo (fun i => (el L i).length) k) (el L k).length
theorem seqII_len (q : Int) (L : List (List Int)) : (seqII q L).length = L.length := by simp [seqII]
theorem seqII_at (q : Int) {L : List (List Int)} {k : Nat} (h : k < L.length) : el (seqII q L) k = seqFrom (q + sumTo (fun i => (el L i).length) k) (el L k).length := by
  rw [el_lt (by rw [seqII_len]; exact h)]; simp [seqII]

theorem row_far {w w' : World} {base size n c g : Nat} {t : TypeId} {xs : List Value} {fq : List Nat} (h : w.ownsRow base t size (.slice (some ⟨g, 0, none⟩) n c) n xs) (ho : Only fq w w') (hd : g ∉ fq) : w'.ownsRow base t size (.slice (some ⟨g, 0, none⟩) n c) n xs := by
  refine ⟨h.1, ?_⟩
  rcases h.2 with h0 | ⟨g', cap, cur, hv, hb, hg, r⟩
  · exact .inl h0
  · injection hv with h1 _ h3
    injection h1 with h1
    injection h1 with h1 _ _
    subst h1; subst h3
    exact .inr ⟨g, c, cur, rfl, hb, (ho.block g (Array.getElem?_eq_some_iff.1 hg).1 hd).trans hg, r⟩

end Go.Proofs.YthlkbkomecnbaaaDoor
