/- Circuits: the words of the nodes, in the program. -/
import Derived.Test.YthlkbkomecnbaaaCiI
import Derived.Test.YthlkbkomecnbaaaCiR
namespace Go.Proofs.Ythlkbkomecnbaaa
open Go.RowKit

def us (l : List Nat) : List Value := l.map fun (x : Nat) => Value.int .u64 (x : Int)
theorem us_len (l : List Nat) : (us l).length = l.length := by simp [us]
theorem us_app (l m : List Nat) : us (l ++ m) = us l ++ us m := by unfold us; exact List.map_append
theorem us_at {l : List Nat} {k : Nat} (h : k < l.length) : (us l)[k]? = some (.int .u64 (el l k : Nat)) := by
  unfold us; rw [List.getElem?_map, List.getElem?_eq_getElem h, el_lt h]; rfl
theorem us_one (l : List Nat) : ∀ u ∈ us l, u.oneCell' = true := by
  intro u hu
  unfold us at hu
  obtain ⟨x, _, rfl⟩ := List.mem_map.1 hu
  rfl
theorem u64_info : (Try.prog.info? 171).map (fun i => (i.zero, i.size, i.bytes)) = some (some (.int .u64 0), 1, 8) := by kernel_rfl
noncomputable def u64Row : TypeInfo := Classical.choose (info_parts u64_info)
theorem u64_row : Try.prog.info? 171 = some u64Row ∧ u64Row.zero = some (.int .u64 0) ∧ u64Row.size = 1 ∧ u64Row.bytes = 8 := Classical.choose_spec (info_parts u64_info)
def GivesU (w : World) (l : List Nat) (e : Ending) (w' : World) : Prop := ∃ v, e = .returned v ∧ w'.ownsRow w.heap.size 171 1 v l.length (us l) ∧ Below w.heap.size w w'

/-- What a bit fills a word with. -/
def fil (d : Nat) : Nat := if d = 1 then 18446744073709551615 else 0
theorem fil_fw (e : Int) (d : Nat) (h : e % 2 = 1 ↔ d = 1) : fil d = fw (fun _ => decide (e % 2 = 1)) := by
  unfold fil
  by_cases hd : d = 1
  · rw [if_pos hd, decide_eq_true (h.2 hd)]; exact fw_all.symm
  · rw [if_neg hd, decide_eq_false (fun q => hd (h.1 q))]; exact fw_none.symm
theorem fil_lt (d : Nat) : fil d < 18446744073709551616 := by unfold fil; split <;> omega
theorem size_any (s : Ci) (A : Option Addr) (c : Nat) (w : World) (h0 : 0 ≤ s.ins) (h1 : s.ins ≤ 12) (hn : s.gates.length ≤ 600) :
    Calls Try.prog 108 #[.agg #[.int .i64 s.ins, .slice A s.gates.length c]] w (GivesInt w s.nodes) := by
  obtain ⟨m, gs⟩ := s
  unfold Ci.nodes
  dsimp only at *
  generalize gs.length = n at *
  go_enter Try.func108, Try.ntmps108
  go_wp2
  go_ret
  exact ⟨rfl, below_alloc _ _⟩
def GivesU64 (w : World) (x : Nat) (e : Ending) (w' : World) : Prop := e = .returned (.int .u64 (x : Int)) ∧ Below w.heap.size w w'
theorem us_read {w : World} {B n k : Nat} {A : Option Addr} {l : List Nat} (h : Rd w B 1 A n (us l)) (hk : k < n) : ∃ ad, A = some ad ∧ ad.block < B ∧ w.cell? (ad.add k) = some (.int .u64 (el l k : Nat)) := by
  obtain ⟨ad, hA, hb, hc⟩ := h.2 (by omega)
  have hl : l.length = n := by have := h.1; rw [us_len] at this; omega
  exact ⟨ad, hA, hb, hc _ _ (us_at (by omega))⟩
theorem edgeW_eq {l : List Ga} {C : List (Nat → Bool)} {k : Nat} {x : Int} (_h0 : 0 ≤ x) (h1 : x < 2 * ((1 + C.length + k : Nat) : Int)) : el (wsTo l C k) (x / 2).toNat ^^^ fil (x % 2).toNat = edgeW l C k x := by
  rw [edgeW_at, wsTo_at l C (by omega), ← fil_fw x (x % 2).toNat (by omega)]
theorem wsTo_lt (l : List Ga) (C : List (Nat → Bool)) {k x : Nat} (h : x < 1 + C.length + k) : el (wsTo l C k) x < 18446744073709551616 := by rw [wsTo_at l C h]; exact fw_lt _
theorem edgeW_lt (l : List Ga) (C : List (Nat → Bool)) (k : Nat) (x : Int) : edgeW l C k x < 18446744073709551616 := fw_lt _

end Go.Proofs.Ythlkbkomecnbaaa
