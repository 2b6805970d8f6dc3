/- Circuits: NodeValues and EdgeValue, in the model and in the program. -/
import Derived.Test.YthlkbkomecnbaaaCiW
namespace Go.Proofs.Ythlkbkomecnbaaa
open Go.RowKit

theorem gives_nil {w w' : World} (b : Below w.heap.size w w') : GivesL w ([] : List Int) (.returned (.slice none 0 0)) w' := ⟨none, 0, 0, [], rfl, own_none w', List.nodup_nil, by simp, b⟩

theorem l6AreC_any (A : Option Addr) (n c : Nat) (l : List Int) (w : World) (h : Mem.rd w w.heap.size [.slice A n c] l) :
    Calls Try.prog 59 #[.slice A n c] w (GivesBool w (arB l)) := by
  have L1 := Lib.hid (rd_len h)
  have hm := rd_max h
  unfold maxLen at hm
  have h' := (rd_ints.1 h).2
  go_enter Try.func59, Try.ntmps59
  go_wp2
  go_loopg [3] n (fun m i wr => ∃ k : Nat, k + m = n ∧ i = .int .i64 k ∧ Hid (∀ j, j < k → ix l j = 0 ∨ ix l j = 1) ∧ Below w.heap.size w wr)
  case atStart => exact ⟨0, by omega, rfl, Lib.hid (fun j hj => absurd hj (by omega)), Below.refl _ _⟩
  case round =>
    obtain ⟨k, hk, rfl, ha, hb⟩ := hrel
    by_cases hlt : k < n
    · obtain ⟨ad, rfl, hbl, d0⟩ := (h'.below hb).int hlt
      have kn : (k : Int) < n := by omega
      have HF : Hid (ix l k ≠ 0 → ix l k ≠ 1 → arB l = false) := Lib.hid (fun z0 z1 => by
        cases hz : arB l
        · rfl
        · have := arB_at hz (k := k) (by rw [L1.out]; exact hlt)
          omega)
      have HS : Hid (ix l k = 0 ∨ ix l k = 1 → ∀ j, j < k + 1 → ix l j = 0 ∨ ix l j = 1) := Lib.hid (fun hz j hj => by
        by_cases e : j = k
        · subst e; exact hz
        · exact ha.out j (by omega))
      generalize ix l k = x at *
      by_cases z : 0 ≤ x ∧ x ≤ 1
      · have hs := Lib.hid (HS.out (by omega))
        go_wp2_with (first | (go_at_call 48; refine (l1In_yes z _).mono ?_; rintro e w3 ⟨rfl, rfl⟩))
        go_roundg (n - (k + 1))
        case measure => omega
        case rel => exact ⟨k + 1, by omega, by go_num, hs, hb⟩
      · have hf := Lib.hid (HF.out (by omega) (by omega))
        go_wp2_with (first | (go_at_call 48; refine (l1In_no (by omega) _).mono ?_; rintro e w3 ⟨rfl, rfl⟩))
        go_ret
        exact ⟨(congrArg (fun b => Ending.returned (.bool b)) hf.out).symm, hb⟩
    · obtain rfl : k = n := by omega
      have E : Hid (arB l = true) := Lib.hid (by
        unfold arB
        rw [List.all_eq_true]
        intro x hx
        obtain ⟨j, hj, rfl⟩ := List.getElem_of_mem hx
        have := ha.out j (by have := L1.out; omega)
        rw [ix_lt hj] at this
        simpa using this)
      go_wp2
      go_ret
      exact ⟨(congrArg (fun b => Ending.returned (.bool b)) E.out).symm, hb⟩

end Go.Proofs.Ythlkbkomecnbaaa
