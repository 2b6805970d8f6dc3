/- Marks on rows of terms that a call gives, and whether they are held. -/
import Derived.Test.YtmpclfjaddjelaaTmApp
import Derived.Test.YtmpclfjaddjelaaShift
namespace Go.Proofs.Ytmpclfjaddjelaa
open Go.RowKit

/-- Terms whose fields are the numbers from q on. -/
def mkT (q : Int) : Nat → List Tm
  | 0 => []
  | n + 1 => mkT q n ++ [⟨q + 4 * n, q + 4 * n + 1, q + 4 * n + 1 + 1, q + 4 * n + 1 + 1 + 1⟩]
theorem mkT_len (q : Int) : ∀ n, (mkT q n).length = n
  | 0 => rfl
  | n + 1 => by simp [mkT, mkT_len q n]
theorem mkT_tx (q : Int) : ∀ {n k : Nat}, k < n → tx (mkT q n) k = ⟨q + 4 * k, q + 4 * k + 1, q + 4 * k + 1 + 1, q + 4 * k + 1 + 1 + 1⟩
  | n + 1, k, h => by
    unfold tx mkT
    by_cases e : k < n
    · rw [List.getElem?_append_left (by rw [mkT_len]; exact e)]
      exact mkT_tx q e
    · obtain rfl : k = n := by omega
      rw [List.getElem?_append_right (by rw [mkT_len]; omega), mkT_len]; simp
def mkdT (l : List Tm) (q : Int) (k : Nat) : List Tm := mkT q k ++ l.drop k
theorem mkdT_succ {l : List Tm} {q : Int} {k : Nat} (h : k < l.length) :
    ((((tms (mkdT l q k)).set (k * 4) (.int .i64 (q + 4 * k))).set (k * 4 + 1) (.int .i64 (q + 4 * k + 1))).set (k * 4 + 2) (.int .i64 (q + 4 * k + 1 + 1))).set (k * 4 + 3) (.int .i64 (q + 4 * k + 1 + 1 + 1)) = tms (mkdT l q (k + 1)) := by
  unfold mkdT
  have hl : (tms (mkT q k)).length = k * 4 := by rw [len_tms, mkT_len]
  rw [split_at h, tms_mid]
  rw [List.set_append_right _ _ (by omega), hl, Nat.sub_self]
  rw [List.set_append_right _ _ (by omega), hl, show k * 4 + 1 - k * 4 = 1 by omega]
  rw [List.set_append_right _ _ (by omega), hl, show k * 4 + 2 - k * 4 = 2 by omega]
  rw [List.set_append_right _ _ (by omega), hl, show k * 4 + 3 - k * 4 = 3 by omega]
  rw [show mkT q (k + 1) = mkT q k ++ [⟨q + 4 * k, q + 4 * k + 1, q + 4 * k + 1 + 1, q + 4 * k + 1 + 1 + 1⟩] from rfl, List.append_assoc, List.cons_append, List.nil_append, tms_mid]
  rfl

/-- The call gives this number, and its slice reads as the marks. -/
def MarksTms2 (w : World) (base : Nat) (v : Value) (n : Nat) (q : Int) (e : Ending) (w' : World) : Prop :=
  e = .returned (.int .i64 (q + 4 * n)) ∧ w'.ownsRow base 64 4 v n (tms (mkT q n)) ∧ w.grownBy w' v.ownBlock

set_option maxHeartbeats 1000000 in
theorem markTermS2_any (base : Nat) (A : Option Addr) (n c : Nat) (l : List Tm) (q : Int) (w : World) (hown : w.ownsRow base 64 4 (.slice A n c) n (tms l)) (hq : 0 ≤ q) (hq' : q ≤ 1000000000000) (hn : n ≤ 1000000000000) :
    Calls Try.prog 36 #[.slice A n c, .int .i64 q] w (MarksTms2 w base (.slice A n c) n q) := by
  have hl : l.length = n := by have := hown.1; rw [len_tms] at this; omega
  have hl := Lib.hid hl
  go_enter Try.func36, Try.ntmps36
  go_wp2
  go_loopg [1, 5] n (fun m j i wr => ∃ k : Nat, k + m = n ∧ i = .int .i64 k ∧ j = .int .i64 (q + 4 * k) ∧ wr.ownsRow base 64 4 (.slice A n c) n (tms (mkdT l q k)) ∧ w.grownBy wr (Value.slice A n c).ownBlock)
  case atStart => exact ⟨0, by omega, rfl, by simp, hown, World.grownBy.refl _ _⟩
  case round =>
    clear hown
    obtain ⟨k, hk, rfl, rfl, ho, hg⟩ := hrel
    by_cases hlt : k < n
    · rcases ho.2 with ⟨_, h0⟩ | ⟨g, cap, cur, hv, _⟩
      · omega
      injection hv with hA _ hc
      subst hA
      subst hc
      obtain ⟨c0, c1, c2, c3⟩ := own_tm ho hlt
      have f0 := ho.frozenAt (k * 4)
      have f1 := ho.frozenAt (k * 4 + 1)
      have f2 := ho.frozenAt (k * 4 + 2)
      have f3 := ho.frozenAt (k * 4 + 3)
      have E := Lib.hid (mkdT_succ (q := q) (show k < l.length by have := hl.out; omega))
      go_wp2
      go_roundg (n - (k + 1))
      case measure => omega
      case rel =>
        have s0 := ho.stored (k * 4) (.int .i64 (q + 4 * k))
        have s1 := s0.1.stored (k * 4 + 1) (.int .i64 (q + 4 * k + 1))
        have s2 := s1.1.stored (k * 4 + 2) (.int .i64 (q + 4 * k + 1 + 1))
        have s3 := s2.1.stored (k * 4 + 3) (.int .i64 (q + 4 * k + 1 + 1 + 1))
        exact ⟨k + 1, by omega, by go_num, by go_num, by rw [← E.out]; exact s3.1, grown_trans (grown_trans (grown_trans (grown_trans hg s0.2) s1.2) s2.2) s3.2⟩
    · obtain rfl : k = n := by omega
      go_wp2
      go_ret
      unfold mkdT at ho
      rw [List.drop_of_length_le (by have := hl.out; omega), List.append_nil] at ho
      exact ⟨rfl, ho, hg⟩

set_option maxHeartbeats 1000000 in
theorem heldTermS_any (A : Option Addr) (n c : Nat) (q : Int) (w : World) (h : Rd w w.heap.size 4 A n (tms (mkT q n))) (hq : 0 ≤ q) (hq' : q ≤ 1000000000000) (hn : n ≤ 1000000000000) :
    Calls Try.prog 41 #[.slice A n c, .int .i64 q] w (GivesInt w (q + 4 * n)) := by
  go_enter Try.func41, Try.ntmps41
  go_wp2
  go_loopg [1, 5] n (fun m j i wr => ∃ k : Nat, k + m = n ∧ i = .int .i64 k ∧ j = .int .i64 (q + 4 * k) ∧ Below w.heap.size w wr)
  case atStart => exact ⟨0, by omega, rfl, by simp, Below.refl _ _⟩
  case round =>
    obtain ⟨k, hk, rfl, rfl, hb⟩ := hrel
    by_cases hlt : k < n
    · obtain ⟨ad, rfl, b1, h0, h1, h2, h3⟩ := (h.below hb).tm hlt
      rw [mkT_tx q hlt] at h0 h1 h2 h3
      dsimp only at h0 h1 h2 h3
      go_wp2
      go_roundg (n - (k + 1))
      case measure => omega
      case rel => exact ⟨k + 1, by omega, by go_num, by go_num, hb⟩
    · obtain rfl : k = n := by omega
      go_wp2
      go_ret
      exact ⟨rfl, hb⟩
end Go.Proofs.Ytmpclfjaddjelaa
