/- Diagrams: DiagramValue, in the model and in the program. -/
import Derived.Test.YtnhjcokmajejcaaDgT
import Derived.Test.YtnhjcokmajejcaaDgK
namespace Go.Proofs.Ytnhjcokmajejcaa
open Go.RowKit
set_option maxRecDepth 100000

def arD (l : List Int) : Bool := l.all fun x => decide (x = 0) || decide (x = 1)
theorem arD_at {l : List Int} (h : arD l = true) {k : Nat} (hk : k < l.length) : ix l k = 0 ∨ ix l k = 1 := by
  rw [ix_lt hk]
  have := List.all_eq_true.1 h _ (List.getElem_mem hk)
  simpa using this
theorem rd_newD1 (W : World) (a : Int) : Mem.rd (W.alloc (.cells #[.int .i64 a] 3)) (W.alloc (.cells #[.int .i64 a] 3)).heap.size [.slice (some ⟨W.heap.size, 0, none⟩) 1 1] [a] :=
  rd_ints.2 ⟨by unfold maxLen; omega, Rd.of_own (World.ownsRow_lit (base := 0) (e := 3) (size := 1) W #[.int .i64 a] 1 (Nat.zero_le _) (by unfold maxLen; omega) rfl)⟩
theorem rd_newD2 (W : World) (a b : Int) : Mem.rd (W.alloc (.cells #[.int .i64 a, .int .i64 b] 3)) (W.alloc (.cells #[.int .i64 a, .int .i64 b] 3)).heap.size [.slice (some ⟨W.heap.size, 0, none⟩) 2 2] [a, b] :=
  rd_ints.2 ⟨by unfold maxLen; omega, Rd.of_own (World.ownsRow_lit (base := 0) (e := 3) (size := 1) W #[.int .i64 a, .int .i64 b] 2 (Nat.zero_le _) (by unfold maxLen; omega) rfl)⟩

/-- Where one goes from a fork, by its bit. -/
def nextP (d : Dg) (bits : List Int) (n : Int) : Int := if ix bits (fkA d n).v.toNat = 1 then (fkA d n).hi else (fkA d n).lo
def goP (d : Dg) (bits : List Int) : Nat → Int → Int
  | 0, n => n
  | k + 1, n => if n < 2 then n else goP d bits k (nextP d bits n)
theorem nextP_ok {d : Dg} (ok : d.Ok) (bits : List Int) {n : Int} (hn : isP d n = true) (h2 : 2 ≤ n) : isP d (nextP d bits n) = true ∧ nextP d bits n < n := by
  have hp := isP_iff.1 hn
  have F := ok.fit h2 hp.2
  have := F.l1
  have := F.h1
  unfold nextP
  split
  · exact ⟨F.high (by omega), by omega⟩
  · exact ⟨F.low (by omega), by omega⟩
theorem goP_fuel {d : Dg} (ok : d.Ok) (bits : List Int) : ∀ {k m : Nat} {n : Int}, isP d n = true → n < k + 2 → n < m + 2 → goP d bits k n = goP d bits m n
  | 0, 0, n, _, _, _ => rfl
  | 0, m + 1, n, _, hk, _ => by unfold goP; rw [if_pos (by omega)]
  | k + 1, 0, n, _, _, hm => by unfold goP; rw [if_pos (by omega)]
  | k + 1, m + 1, n, hn, hk, hm => by
    unfold goP
    by_cases h2 : n < 2
    · rw [if_pos h2, if_pos h2]
    · rw [if_neg h2, if_neg h2]
      have := nextP_ok ok bits hn (by omega)
      exact goP_fuel ok bits this.1 (by omega) (by omega)
def valP (d : Dg) (bits : List Int) (n : Int) : Int := goP d bits 3000 n
theorem valP_end {d : Dg} {bits : List Int} {n : Int} (h : n < 2) : valP d bits n = n := if_pos h
theorem valP_next {d : Dg} (ok : d.Ok) (bits : List Int) {n : Int} (hn : isP d n = true) (h2 : 2 ≤ n) : valP d bits n = valP d bits (nextP d bits n) := by
  have hp := isP_iff.1 hn
  have few := ok.few
  have := nextP_ok ok bits hn h2
  show (if n < 2 then n else goP d bits 2999 (nextP d bits n)) = _
  rw [if_neg (by omega)]
  exact goP_fuel ok bits this.1 (by omega) (by omega)
noncomputable def dgValueB (d : Dg) (n : Int) (bits : List Int) : Int := if (dgB d && isP d n && decide ((bits.length : Int) = d.vars) && arD bits) = true then valP d bits n else -1

end Go.Proofs.Ytnhjcokmajejcaa
