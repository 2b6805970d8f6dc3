/- Clauses in a box of their own, and what a call changes. -/
import Derived.Test.YthlkbkomecnbaaaKfP
import Derived.Test.YthlkbkomecnbaaaGen
namespace Go.Proofs.Ythlkbkomecnbaaa
open Go.RowKit
set_option maxRecDepth 100000

theorem Only.setOut {w w' : World} {fp : List Nat} (h : Only fp w w') {b j : Nat} (hp : w.heap.size ≤ b) (u : Value) : Only fp w (w'.setCell ⟨b, j, none⟩ u) :=
  ⟨h.os, h.tape, h.output, by simpa [World.setCell] using h.size, fun i hi hn => by rw [setCell_heap _ _ _ (show i ≠ b by omega)]; exact h.block i hi hn⟩
theorem Only.set1 (w : World) (b j : Nat) (u : Value) : Only [b] w (w.setCell ⟨b, j, none⟩ u) :=
  ⟨rfl, rfl, rfl, by simp [World.setCell], fun i _ hn => setCell_heap _ _ _ (fun e => hn (by simp [e]))⟩
theorem Only.out {w w' : World} {fp : List Nat} (h : Only fp w w') {b : Nat} {t : TypeId} {cs : List Value} (k : Blk w b t cs) (hn : b ∉ fp) : Blk w' b t cs := (h.block b k.lt hn).trans k
/-- The clauses so far, in a box of their own. -/
structure StC (w3 wr : World) (F : Nat) (m : Int) (v : Value) (L : List (List Int)) (fp : List Nat) : Prop where
  box : Blk wr F 31 [.int .i64 m, v]
  list : LL wr (F + 1) 22 v L.length L fp
  bel : Below F w3 wr
theorem StC.out {w3 wr : World} {F : Nat} {m : Int} {v : Value} {L : List (List Int)} {fp : List Nat} (h : StC w3 wr F m v L fp) : F ∉ fp := fun hm => by have := (h.list.lt F hm).1; omega
/-- Behind a call that puts a clause, and the store of its answer. -/
theorem StC.step {w3 wr w5 : World} {F : Nat} {m : Int} {v v5 : Value} {L L5 : List (List Int)} {fp fp5 : List Nat} {o : Obj} (h : StC w3 wr F m v L fp) (on : Only fp (wr.alloc o) w5) (l5 : LL w5 (F + 1) 22 v5 L5.length L5 fp5) :
    StC w3 ((w5.setCell ⟨F, 0, none⟩ (.int .i64 m)).setCell ⟨F, 1, none⟩ v5) F m v5 L5 fp5 := by
  have hF := h.out
  have hs := h.box.lt
  have k5 := on.out (h.box.alloc o) hF
  have n5 : F ∉ fp5 := fun hm => by have := (l5.lt F hm).1; omega
  refine ⟨(k5.set 0 _).set 1 _, ?_, ?_⟩
  · exact (l5.only (Only.set1 _ _ _ _) fun b hb => by simp; intro e; subst e; exact n5 hb).only (Only.set1 _ _ _ _) fun b hb => by simp; intro e; subst e; exact n5 hb
  · have b5 : Below F w3 w5 := (h.bel.alloc (Nat.le_of_lt hs) o).trans (on.below (by rw [World.size_alloc]; omega) fun b hb => by have := (h.list.lt b hb).1; omega)
    exact (b5.setCell (p := ⟨F, 0, none⟩) (Nat.le_refl _) _).setCell (p := ⟨F, 1, none⟩) (Nat.le_refl _) _
/-- Behind a call that puts a clause into the box. -/
theorem StC.stepP {w3 wr w5 : World} {F : Nat} {m : Int} {v v5 : Value} {L L5 : List (List Int)} {fp fp5 : List Nat} (h : StC w3 wr F m v L fp) (on : Only (F :: fp) wr w5) (k5 : Blk w5 F 31 [.int .i64 m, v5]) (l5 : LL w5 (F + 1) 22 v5 L5.length L5 fp5) :
    StC w3 w5 F m v5 L5 fp5 :=
  ⟨k5, l5, h.bel.trans (on.below (Nat.le_of_lt h.box.lt) fun b hb => by
    rcases List.mem_cons.1 hb with e | hb
    · omega
    · have := (h.list.lt b hb).1; omega)⟩
theorem StC.alloc {w3 wr : World} {F : Nat} {m : Int} {v : Value} {L : List (List Int)} {fp : List Nat} (h : StC w3 wr F m v L fp) (o : Obj) : StC w3 (wr.alloc o) F m v L fp :=
  ⟨h.box.alloc o, h.list.below (below_alloc _ _), h.bel.alloc (Nat.le_of_lt h.box.lt) o⟩
theorem StC.drew {w3 wr : World} {F : Nat} {m : Int} {v : Value} {L : List (List Int)} {fp : List Nat} (h : StC w3 wr F m v L fp) : StC w3 wr.drew F m v L fp :=
  ⟨h.box, h.list.below ⟨rfl, rfl, rfl, Nat.le_refl _, fun _ _ => rfl⟩, h.bel.trans ⟨rfl, rfl, rfl, Nat.le_refl _, fun _ _ => rfl⟩⟩
theorem StC.cells {w3 wr : World} {F : Nat} {m : Int} {v : Value} {L : List (List Int)} {fp : List Nat} (h : StC w3 wr F m v L fp) : wr.cell? ⟨F, 0, none⟩ = some (.int .i64 m) ∧ wr.cell? ⟨F, 1, none⟩ = some v := ⟨h.box.cell 0, h.box.cell 1⟩
theorem rd_lits (w : World) (xs : List Int) (t : TypeId) (n : Nat) (hn : xs.length = n) (hx : n ≤ 1000) : Mem.rd (w.alloc (.cells (ints xs).toArray t)) (w.alloc (.cells (ints xs).toArray t)).heap.size [.slice (some ⟨w.heap.size, 0, none⟩) n n] xs := by
  subst hn
  refine rd_ints.2 ⟨by unfold maxLen; omega, by rw [len_ints]; omega, fun _ => ⟨_, rfl, by simp, fun j u hu => ?_⟩⟩
  have k := ci_blk w (ints xs).toArray t
  have e : (⟨w.heap.size, 0, none⟩ : Addr).add j = ⟨w.heap.size, j, none⟩ := by
    unfold Addr.add
    split
    · rename_i q; rw [q]
    · simp
  rw [e, k.cell j]
  exact hu

/-- The call gives new clauses, and a truth. -/
def GivesCsB (w : World) (s : Cs) (b : Bool) (e : Ending) (w' : World) : Prop :=
  ∃ A1 n1 c1 f1, e = .returned (.tuple #[.agg #[.int .i64 s.atoms, .slice A1 n1 c1], .bool b]) ∧ Mem.own w' f1 [.slice A1 n1 c1] s.list ∧ f1.Nodup ∧ (∀ b ∈ f1, w.heap.size ≤ b) ∧ Below w.heap.size w w'

end Go.Proofs.Ythlkbkomecnbaaa
