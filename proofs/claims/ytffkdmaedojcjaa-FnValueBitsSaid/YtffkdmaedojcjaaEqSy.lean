/- The exact laws' comparisons of systems that are the same. -/
import Derived.Test.YtffkdmaedojcjaaMarkSy
import Derived.Test.YtffkdmaedojcjaaLaw3
namespace Go.Proofs.Ytffkdmaedojcjaa
open Go.RowKit

theorem three_below {w w' : World} {a : Addr} {m : Nat} {v0 v1 v2 : Value} (hb : Below w.heap.size w w') (ha : a.block < w.heap.size) (h0 : w.cell? (a.add m) = some v0) (h1 : w.cell? ⟨(a.add m).block, (a.add m).off + 1, none⟩ = some v1)
    (h2 : w.cell? ⟨(a.add m).block, (a.add m).off + 2, none⟩ = some v2) :
    w'.cell? (a.add m) = some v0 ∧ w'.cell? ⟨(a.add m).block, (a.add m).off + 1, none⟩ = some v1 ∧ w'.cell? ⟨(a.add m).block, (a.add m).off + 2, none⟩ = some v2 := by
  have e : (a.add m).block < w.heap.size := by rw [add_block]; exact ha
  exact ⟨cell_below hb e h0, cell_below hb e h1, cell_below hb e h2⟩

theorem six_below {w w' : World} {a : Addr} {m : Nat} {v0 v1 v2 : Value} (hb : Below w.heap.size w w') (ha : a.block < w.heap.size) (h0 : w.cell? (a.add m) = some v0) (h1 : w.cell? ⟨(a.add m).block, (a.add m).off + 1, none⟩ = some v1)
    (h2 : w.cell? ⟨(a.add m).block, (a.add m).off + 2, none⟩ = some v2) :
    w'.cell? (a.add m) = some v0 ∧ w'.cell? ⟨(a.add m).block, (a.add m).off + 1, none⟩ = some v1 ∧ w'.cell? ⟨(a.add m).block, (a.add m).off + 2, none⟩ = some v2 := three_below hb ha h0 h1 h2

end Go.Proofs.Ytffkdmaedojcjaa
