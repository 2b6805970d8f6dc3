/- Equal states, and the first rule between two states. -/
import Derived.Test.YtpaagplopefklaaRun4
namespace Go.Proofs.Ytpaagplopefklaa
open Go.RowKit

theorem list_ne_len {a b : List Int} (h : a.length ≠ b.length) : decide (a = b) = false := decide_eq_false fun e => h (by rw [e])
theorem list_ne_at {a b : List Int} {k : Nat} (h : ix a k ≠ ix b k) : decide (a = b) = false := decide_eq_false fun e => h (by rw [e])
theorem list_eq_of {a b : List Int} (hl : a.length = b.length) (h : ∀ j, j < a.length → ix a j = ix b j) : decide (a = b) = true := decide_eq_true (List.ext_getElem? fun j => by
  by_cases hj : j < a.length
  · have e := h j hj
    rw [ix_lt hj, ix_lt (by omega)] at e
    rw [List.getElem?_eq_getElem hj, List.getElem?_eq_getElem (by omega), e]
  · rw [List.getElem?_eq_none (by omega), List.getElem?_eq_none (by omega)])

set_option maxHeartbeats 1000000 in
theorem equal_int (A : Option Addr) (n c : Nat) (A' : Option Addr) (n' c' : Nat) (a b : List Int) (w : World) (h : Rd w w.heap.size 1 A n (ints a)) (h' : Rd w w.heap.size 1 A' n' (ints b)) (hn : n ≤ maxLen) (hn' : n' ≤ maxLen) :
    Calls Try.prog 109 #[.slice A n c, .slice A' n' c'] w (GivesBool w (decide (a = b))) := by
  have l1 := h.len
  have l2 := h'.len
  unfold maxLen at hn hn'
  by_cases e : n = n'
  · subst e
    have HE := Lib.hid (fun (q : ∀ j, j < n → ix a j = ix b j) => list_eq_of (a := a) (b := b) (by omega) (fun j hj => q j (by omega)))
    clear l1 l2
    go_enter Try.func109, Try.ntmps109
    go_wp2
    go_loopg [5, 13] n (fun m i5 i wr => ∃ k : Nat, k + m = n ∧ i = .int .i64 k ∧ Hid (∀ j, j < k → ix a j = ix b j) ∧ Below w.heap.size w wr)
    case atStart => exact ⟨0, by omega, rfl, Lib.hid (fun j hj => absurd hj (by omega)), Below.refl _ _⟩
    case round =>
      obtain ⟨k, hk, rfl, hj, hb⟩ := hrel
      by_cases hlt : k < n
      · obtain ⟨ad, rfl, hbl, d0⟩ := (h.below hb).int hlt
        obtain ⟨ad', rfl, hbl', d1⟩ := (h'.below hb).int hlt
        by_cases q : ix a k = ix b k
        · have q' : (ix a k != ix b k) = false := by simp [q]
          have q'' : ∀ j, j < k + 1 → ix a j = ix b j := fun j hjk => by
            by_cases z : j < k
            · exact hj.out j z
            · obtain rfl : j = k := by omega
              exact q
          have HQ := Lib.hid q''
          clear q''
          go_wp2
          go_quiet (fail)
          go_wp2
          go_roundg (n - (k + 1))
          case measure => omega
          case rel => exact ⟨k + 1, by omega, by go_num, HQ, hb.trans ⟨rfl, rfl, rfl, Nat.le_refl _, fun _ _ => rfl⟩⟩
        · have q' : (ix a k != ix b k) = true := by simp [q]
          have HF := Lib.hid (list_ne_at q)
          go_wp2
          go_quiet (fail)
          go_wp2
          go_ret
          exact ⟨(congrArg (fun b => Ending.returned (.bool b)) HF.out).symm, hb.trans ⟨rfl, rfl, rfl, Nat.le_refl _, fun _ _ => rfl⟩⟩
      · obtain rfl : k = n := by omega
        have HF := Lib.hid (HE.out hj.out)
        go_wp2
        go_ret
        exact ⟨(congrArg (fun b => Ending.returned (.bool b)) HF.out).symm, hb⟩
  · have HF := Lib.hid (list_ne_len (a := a) (b := b) (by omega))
    have q : ((n : Int) != n') = true := by simp; omega
    have q' : ((n : Nat) != n') = true := by simp; omega
    clear l1 l2
    go_enter Try.func109, Try.ntmps109
    go_wp2
    go_ret
    exact ⟨(congrArg (fun b => Ending.returned (.bool b)) HF.out).symm, Below.refl _ _⟩

set_option maxHeartbeats 1000000 in
theorem l2Same_any (A : Option Addr) (n c : Nat) (A' : Option Addr) (n' c' : Nat) (a b : List Int) (w : World) (h : Rd w w.heap.size 1 A n (ints a)) (h' : Rd w w.heap.size 1 A' n' (ints b)) (hn : n ≤ maxLen) (hn' : n' ≤ maxLen) :
    Calls Try.prog 92 #[.slice A n c, .slice A' n' c'] w (GivesBool w (decide (a = b))) := by
  have l1 := h.len
  have l2 := h'.len
  unfold maxLen at hn hn'
  by_cases e : n = n'
  · subst e
    have HE := Lib.hid (fun (q : ∀ j, j < n → ix a j = ix b j) => list_eq_of (a := a) (b := b) (by omega) (fun j hj => q j (by omega)))
    clear l1 l2
    go_enter Try.func92, Try.ntmps92
    go_wp2
    go_loopg [5] n (fun m i wr => ∃ k : Nat, k + m = n ∧ i = .int .i64 k ∧ Hid (∀ j, j < k → ix a j = ix b j) ∧ Below w.heap.size w wr)
    case atStart => exact ⟨0, by omega, rfl, Lib.hid (fun j hj => absurd hj (by omega)), Below.refl _ _⟩
    case round =>
      obtain ⟨k, hk, rfl, hj, hb⟩ := hrel
      by_cases hlt : k < n
      · obtain ⟨ad, rfl, hbl, d0⟩ := (h.below hb).int hlt
        obtain ⟨ad', rfl, hbl', d1⟩ := (h'.below hb).int hlt
        by_cases q : ix a k = ix b k
        · have q' : (ix a k != ix b k) = false := by simp [q]
          have q'' : ∀ j, j < k + 1 → ix a j = ix b j := fun j hjk => by
            by_cases z : j < k
            · exact hj.out j z
            · obtain rfl : j = k := by omega
              exact q
          have HQ := Lib.hid q''
          clear q''
          go_wp2
          go_quiet (fail)
          go_wp2
          go_roundg (n - (k + 1))
          case measure => omega
          case rel => exact ⟨k + 1, by omega, by go_num, HQ, hb.trans ⟨rfl, rfl, rfl, Nat.le_refl _, fun _ _ => rfl⟩⟩
        · have q' : (ix a k != ix b k) = true := by simp [q]
          have HF := Lib.hid (list_ne_at q)
          go_wp2
          go_quiet (fail)
          go_wp2
          go_ret
          exact ⟨(congrArg (fun b => Ending.returned (.bool b)) HF.out).symm, hb.trans ⟨rfl, rfl, rfl, Nat.le_refl _, fun _ _ => rfl⟩⟩
      · obtain rfl : k = n := by omega
        have HF := Lib.hid (HE.out hj.out)
        go_wp2
        go_ret
        exact ⟨(congrArg (fun b => Ending.returned (.bool b)) HF.out).symm, hb⟩
  · have HF := Lib.hid (list_ne_len (a := a) (b := b) (by omega))
    have q : ((n : Int) != n') = true := by simp; omega
    have q' : ((n : Nat) != n') = true := by simp; omega
    clear l1 l2
    go_enter Try.func92, Try.ntmps92
    go_wp2
    go_ret
    exact ⟨(congrArg (fun b => Ending.returned (.bool b)) HF.out).symm, Below.refl _ _⟩

set_option maxRecDepth 100000 in
set_option maxHeartbeats 1000000 in
theorem isPt_any (st : List Int) (A : Option Addr) (n c : Nat) (b : List Int) (w : World) (h1 : 1 ≤ st.length) (h5 : st.length ≤ 5) (h : Mem.rd w w.heap.size [.slice A n c] b) :
    Calls Try.prog 93 #[ptV st, .slice A n c] w (GivesBool w (decide (st = b))) := by
  obtain ⟨m, hm⟩ : ∃ m : Nat, m = st.length := ⟨_, rfl⟩
  have HM := Lib.hid hm
  unfold ptV
  rw [← hm] at h1 h5 ⊢
  clear hm
  have HS := fun W => run_pt_slice ⟨w.heap.size, 0, none⟩ m h5 W
  have HC := Lib.hid (fun T => (Blk.new w (ptC st).toArray T).pt (by rw [← HM.out]; exact h5))
  rw [← HM.out] at HC
  unfold ptC at HC
  rw [← HM.out] at HC
  have H2 := Lib.hid (fun o => (rd_ints.1 (Mem.rd_on_alloc h o)).2)
  have m2 := rd_max h
  clear h
  go_enter Try.func93, Try.ntmps93
  go_wp2_with fail
  refine (equal_int _ m 5 A n c st b _ (HC.out _) (H2.out _) (by unfold maxLen; omega) m2).mono ?_
  rintro e w2 ⟨rfl, b2⟩
  go_wp2
  go_ret
  exact ⟨rfl, below_call b2⟩
end Go.Proofs.Ytpaagplopefklaa
