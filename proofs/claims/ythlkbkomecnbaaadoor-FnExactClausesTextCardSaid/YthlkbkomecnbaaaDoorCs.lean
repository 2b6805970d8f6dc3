/- Clauses in memory, and the exact laws' helpers for them. -/
import Derived.Test.YthlkbkomecnbaaaDoorEqSy
import Derived.Test.YthlkbkomecnbaaaDoorOpenSy
import Derived.Test.YthlkbkomecnbaaaDoorIl
import Derived.Test.YthlkbkomecnbaaaDoorTr
import Derived.Test.YthlkbkomecnbaaaDoorGen
namespace Go.Proofs.YthlkbkomecnbaaaDoor
open Go.ChangeShapes Go.WideShapes Go.ChangeAt Go.RowKit Go.Deep
set_option maxRecDepth 100000

/-- Clauses: how many atoms, and the list. -/
structure Cs where
  atoms : Int
  list : List (List Int)
/-- The call gives new clauses. -/
def GivesCs (w : World) (s : Cs) (e : Ending) (w' : World) : Prop :=
  ∃ A1 n1 c1 f1, e = .returned (.agg #[.int .i64 s.atoms, .slice A1 n1 c1]) ∧ Mem.own w' f1 [.slice A1 n1 c1] s.list ∧ f1.Nodup ∧ (∀ b ∈ f1, w.heap.size ≤ b) ∧ Below w.heap.size w w'
def szCs (s : Cs) : Nat := szII s.list
/-- How many marks. -/
def mkCs (s : Cs) : Nat := mkII s.list

set_option maxHeartbeats 1000000 in
theorem toClauses_any (s : Cs) (A1 : Option Addr) (n1 c1 : Nat) (w : World) (h1 : Mem.rd w w.heap.size [.slice A1 n1 c1] s.list) (hf : szII s.list ≤ 1048576) :
    Calls Tryd.prog 6 #[.agg #[.int .i64 s.atoms, .slice A1 n1 c1]] w (GivesCs w s) := by
  obtain ⟨i1, i2, _⟩ := ii_fits3 hf (rd_len h1)
  obtain ⟨ins, gates⟩ := s
  dsimp only at h1 hf i2 ⊢
  have I2 := Lib.hid i2
  clear hf i2
  go_enter Tryd.func6, Tryd.ntmps6
  go_wp2_with fail
  refine (toIntSS_any A1 n1 c1 gates _ (Mem.rd_on h1 (by first | exact (((below_alloc w _).alloc (by simp) _).alloc (by simp; omega) _).setCell (by simp; omega) _ | exact ((below_alloc w _).alloc (by simp) _).alloc (by simp; omega) _)) i1 I2.out).mono ?_
  rintro e w2 ⟨B1, m1, d1, f1, rfl, o1, nd1, lo1, b1⟩
  obtain ⟨hc1, hf1⟩ := bcell b1
  have hz1 := b1.size
  have L1 : Below w.heap.size w w2 := (((below_alloc w _).alloc (by simp) _).alloc (by simp; omega) _).trans (b1.mono (by simp; omega))
  have g1 : ∀ b ∈ f1, b < w2.heap.size := Mem.own_lt o1
  simp only [World.size_alloc] at lo1 hz1
  have q1 : w.heap.size + 1 + 1 < w2.heap.size := by omega
  have p1 : w.heap.size + 1 < w2.heap.size := by omega
  have q1' : w.heap.size < w2.heap.size := by omega
  go_wp2_with fail
  have keep : ∀ b, w.heap.size + 1 + 1 < b → (((w2.setCell ⟨w.heap.size + 1 + 1, 1, none⟩ (Value.slice B1 m1 d1)).setCell ⟨w.heap.size + 1, 0, none⟩ (Value.int .i64 ins)).setCell ⟨w.heap.size + 1, 1, none⟩ (Value.slice B1 m1 d1)).heap[b]? = w2.heap[b]? := by
    intro b hb
    rw [setCell_heap _ _ _ (show b ≠ w.heap.size + 1 by omega), setCell_heap _ _ _ (show b ≠ w.heap.size + 1 by omega), setCell_heap _ _ _ (show b ≠ w.heap.size + 1 + 1 by omega)]
  refine bodyPost_ret (v := .agg #[.int .i64 ins, .slice B1 m1 d1]) (by simp [results, Tryd.results6, go_sem, hc1]) rfl ⟨B1, m1, d1, f1, rfl,
    Mem.own_keep o1 fun b hb => keep b (by have := lo1 b hb; omega), nd1, ?_, ?_⟩
  · intro b hb
    have := lo1 b hb; omega
  · exact ((L1.setCell (p := ⟨w.heap.size + 1 + 1, 1, none⟩) (by simp; omega) _).setCell (by simp) _).setCell (by simp) _

theorem szClauses_any (s : Cs) (A1 : Option Addr) (n1 c1 : Nat) (left : Int) (w : World) (h1 : Mem.rd w w.heap.size [.slice A1 n1 c1] s.list) (g0 : 0 ≤ left) (g1 : left ≤ 1048576) :
    Calls Tryd.prog 4 #[.agg #[.int .i64 s.atoms, .slice A1 n1 c1], .int .i64 left] w (Left w left (szCs s)) := by
  have M := Lib.hid (fun o => szIntSS_any A1 n1 c1 s.list left (w.alloc o) (Mem.rd_on_alloc h1 o) g0 g1)
  have e : szCs s = szII s.list := rfl
  rw [e]
  clear e h1
  generalize szII s.list = T at *
  by_cases h : left < T
  · rw [rest_no h] at M
    go_enter Tryd.func4, Tryd.ntmps4
    go_wp2_with fail
    refine (M.out _).mono ?_
    rintro e' w' ⟨rfl, rfl⟩
    go_wp2
    go_ret
    exact ⟨congrArg (fun z => Ending.returned (.int .i64 z)) (rest_no h).symm, below_alloc _ _⟩
  · rw [rest_yes (by omega)] at M
    go_enter Tryd.func4, Tryd.ntmps4
    go_wp2_with fail
    refine (M.out _).mono ?_
    rintro e' w' ⟨rfl, rfl⟩
    go_wp2
    go_ret
    exact ⟨congrArg (fun z => Ending.returned (.int .i64 z)) (rest_yes (by omega)).symm, below_alloc _ _⟩

theorem cs_box2 {w : World} {v1 v2 u1 u2 : Value} (t : TypeId) : ∀ W, Below ((w.alloc (.cells #[v1, v2] t)).alloc (.cells #[u1, u2] t)).heap.size ((w.alloc (.cells #[v1, v2] t)).alloc (.cells #[u1, u2] t)) W →
    Below w.heap.size w W := fun _W hW => below_call (below_call hW)
set_option maxHeartbeats 1000000 in
theorem eqClauses_same (s : Cs) (A1 : Option Addr) (n1 c1 : Nat) (A2 : Option Addr) (n2 c2 : Nat) (w : World) (h1 : Mem.rd w w.heap.size [.slice A1 n1 c1] s.list) (h2 : Mem.rd w w.heap.size [.slice A2 n2 c2] s.list) (hs : szII s.list ≤ 1048576) :
    Calls Tryd.prog 8 #[.agg #[.int .i64 s.atoms, .slice A1 n1 c1], .agg #[.int .i64 s.atoms, .slice A2 n2 c2]] w (GivesBool w true) := by
  have HS := Lib.hid (ii_fits hs).2
  obtain ⟨ins, gates⟩ := s
  dsimp only at h1 h2 hs HS ⊢
  have g1 : (ins != ins) = false := by simp
  clear hs
  go_enter Tryd.func8, Tryd.ntmps8
  go_wp2_with fail
  refine (eqIntSS_same A1 A2 n1 c1 n2 c2 gates _ (Mem.rd_on_alloc (Mem.rd_on_alloc h1 _) _) (Mem.rd_on_alloc (Mem.rd_on_alloc h2 _) _) HS.out).mono ?_
  rintro e w2 ⟨rfl, b2⟩
  have B2 := below_call (below_call b2)
  go_wp2
  go_ret
  exact ⟨rfl, B2⟩

section
variable {H : Type} {enc : TypeId × Value → H} {w : World} {base : Nat} {spare : Nat → Bool} {held : Bool}
/-- An argument of type laws.Clauses. -/
theorem open_clauses {v : Value} {d : DataW H} {p : List MemPlace} {r : Reach} {b0 : Nat} (hv : Value.okWide Tryd.prog w r b0 24 v) (h : DataW.Trod enc Tryd.prog w base spare held 24 v d p) :
    ∃ A1 n1 c1, ∃ s : Cs, v = .agg #[.int .i64 s.atoms, .slice A1 n1 c1] ∧ Mem.rd w w.heap.size [.slice A1 n1 c1] s.list ∧ (Lit.int .i64 s.atoms).wf = true := by
  obtain ⟨fuel, h⟩ := h
  obtain ⟨cs, rfl, hcs⟩ := okWide_struct Tryd.underlying24 hv
  obtain ⟨hl, hf⟩ := one_field Tryd.underlying24 (by kernel_rfl) (by kernel_rfl) h
  obtain ⟨v0, _, _, e0, t0⟩ := hf 0 _ rfl
  obtain ⟨v1, _, _, e1, t1⟩ := hf 1 _ rfl
  obtain ⟨n, hn, _, hw⟩ := DataW.trod_int Tryd.underlying3 t0
  obtain ⟨b, hb⟩ := opens_IntSS _ _ _ t1
  have e := list2 hl e0 e1
  have hb' := hb
  obtain ⟨A1, n1, c1, f1, _⟩ := hb'
  injection f1 with f1 _
  injection hn with hn _
  subst f1; subst hn
  refine ⟨A1, n1, c1, ⟨n, b⟩, ?_, hb, hw⟩
  have e' : cs.toList = [.int .i64 n, .slice A1 n1 c1] := e
  rw [← Array.toArray_toList (xs := cs), e']
end
end Go.Proofs.YthlkbkomecnbaaaDoor
