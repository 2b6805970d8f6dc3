/- The exact laws' comparisons of systems that are the same. -/
import Derived.Test.YthlkbkomecnbaaaDoorMarkSy
import Derived.Test.YthlkbkomecnbaaaDoorLaw3
namespace Go.Proofs.YthlkbkomecnbaaaDoor
open Go.RowKit

theorem eqIntS_M (A A' : Option Addr) (n c n' c' : Nat) (l : List Int) (w : World) (h : Mem.rd w w.heap.size [.slice A n c] l) (h' : Mem.rd w w.heap.size [.slice A' n' c'] l) :
    Calls Tryd.prog 27 #[.slice A n c, .slice A' n' c'] w (GivesBool w true) := by
  have e1 := rd_len h
  have e2 := rd_len h'
  obtain rfl : n = n' := by omega
  exact eqIntS_same A A' n c c' l w (rd_ints.1 h).2 (rd_ints.1 h').2 (rd_max h)

theorem three_below {w w' : World} {a : Addr} {m : Nat} {v0 v1 v2 : Value} (hb : Below w.heap.size w w') (ha : a.block < w.heap.size) (h0 : w.cell? (a.add m) = some v0) (h1 : w.cell? ⟨(a.add m).block, (a.add m).off + 1, none⟩ = some v1)
    (h2 : w.cell? ⟨(a.add m).block, (a.add m).off + 2, none⟩ = some v2) :
    w'.cell? (a.add m) = some v0 ∧ w'.cell? ⟨(a.add m).block, (a.add m).off + 1, none⟩ = some v1 ∧ w'.cell? ⟨(a.add m).block, (a.add m).off + 2, none⟩ = some v2 := by
  have e : (a.add m).block < w.heap.size := by rw [add_block]; exact ha
  exact ⟨cell_below hb e h0, cell_below hb e h1, cell_below hb e h2⟩

theorem six_below {w w' : World} {a : Addr} {m : Nat} {v0 v1 v2 : Value} (hb : Below w.heap.size w w') (ha : a.block < w.heap.size) (h0 : w.cell? (a.add m) = some v0) (h1 : w.cell? ⟨(a.add m).block, (a.add m).off + 1, none⟩ = some v1)
    (h2 : w.cell? ⟨(a.add m).block, (a.add m).off + 2, none⟩ = some v2) :
    w'.cell? (a.add m) = some v0 ∧ w'.cell? ⟨(a.add m).block, (a.add m).off + 1, none⟩ = some v1 ∧ w'.cell? ⟨(a.add m).block, (a.add m).off + 2, none⟩ = some v2 := three_below hb ha h0 h1 h2

end Go.Proofs.YthlkbkomecnbaaaDoor
