/- Results that a call owns: numbers marked, and found again. -/
import Derived.Test.YtfgjogmgcamfdaaDoorMarkSy
namespace Go.Proofs.YtfgjogmgcamfdaaDoor
open Go.RowKit

/-- The call gives a new slice that is its own, and a truth. -/
def GivesLB (w : World) (l : List Int) (b : Bool) (e : Ending) (w' : World) : Prop :=
  ∃ A n c fp, e = .returned (.tuple #[.slice A n c, .bool b]) ∧ Mem.own w' fp [.slice A n c] l ∧ fp.Nodup ∧ (∀ x ∈ fp, w.heap.size ≤ x) ∧ Below w.heap.size w w'
/-- The call gives two new slices that are its own. -/
def GivesLL (w : World) (l1 l2 : List Int) (e : Ending) (w' : World) : Prop :=
  ∃ A n c A' n' c' f1 f2, e = .returned (.tuple #[.slice A n c, .slice A' n' c']) ∧ Mem.own w' f1 [.slice A n c] l1 ∧ Mem.own w' f2 [.slice A' n' c'] l2 ∧ (f1 ++ f2).Nodup ∧ (∀ x ∈ f1 ++ f2, w.heap.size ≤ x) ∧ Below w.heap.size w w'
theorem lit_lt {n : Int} (h : (Lit.int .i64 n).wf = true) : n < 9223372036854775808 := by
  have h1 : (decide (IntKind.i64.min ≤ n) && decide (n ≤ IntKind.i64.max)) = true := h
  simp only [Bool.and_eq_true, decide_eq_true_eq] at h1
  have e : IntKind.i64.max = 9223372036854775807 := by decide
  omega
theorem own_none (w : World) : Mem.own w [] [.slice none 0 0] ([] : List Int) := ⟨none, 0, 0, rfl, Nat.zero_le _, rfl, .inl ⟨rfl, rfl⟩⟩
def MarksIntsU (u : TypeId) (w : World) (base : Nat) (v : Value) (n : Nat) (q : Int) (e : Ending) (w' : World) : Prop :=
  e = .returned (.int .i64 (q + n)) ∧ w'.ownsRow base u 1 v n (ints (seqFrom q n)) ∧ w.grownBy w' v.ownBlock

set_option maxHeartbeats 1000000 in
theorem markIntS_u (u : TypeId) (base : Nat) (A : Option Addr) (n c : Nat) (l : List Int) (q : Int) (w : World) (hown : w.ownsRow base u 1 (.slice A n c) n (ints l)) (hq : 0 ≤ q) (hq' : q ≤ 1000000000000) (hn : n ≤ 1000000000000) :
    Calls Tryd.prog 17 #[.slice A n c, .int .i64 q] w (MarksIntsU u w base (.slice A n c) n q) := by
  have hl : l.length = n := by have := hown.1; rw [len_ints] at this; omega
  have hl := Lib.hid hl
  go_enter Tryd.func17, Tryd.ntmps17
  go_wp2
  go_loopg [1, 5] n (fun m j i wr => ∃ k : Nat, k + m = n ∧ i = .int .i64 k ∧ j = .int .i64 (q + k) ∧ wr.ownsRow base u 1 (.slice A n c) n (ints (marked l q k)) ∧ w.grownBy wr (Value.slice A n c).ownBlock)
  case atStart => exact ⟨0, by omega, rfl, by simp, hown, World.grownBy.refl _ _⟩
  case round =>
    obtain ⟨k, hk, rfl, rfl, ho, hg⟩ := hrel
    clear hown
    by_cases hlt : k < n
    · rcases ho.2 with ⟨_, h0⟩ | ⟨g, cap, cur, hv, _⟩
      · omega
      injection hv with hA _ hc
      subst hA
      subst hc
      have f0 := ho.frozenAt k
      have c0 : wr.cell? ⟨g, k, none⟩ = some (.int .i64 (ix (marked l q k) k)) := by
        rw [ho.cellAt k (by omega)]
        have : k < (marked l q k).length := by rw [marked_len (by rw [hl.out]; omega), hl.out]; exact hlt
        unfold ints
        rw [List.getElem?_map, List.getElem?_eq_getElem this, ix_lt this]; rfl
      have hs := Lib.hid (ho.stored k (.int .i64 (q + k)))
      go_wp2
      go_roundg (n - (k + 1))
      case measure => omega
      case rel =>
        refine ⟨k + 1, by omega, by go_num, by go_num, ?_, grown_trans hg hs.out.2⟩
        rw [← marked_succ (by rw [hl.out]; exact hlt)]
        exact hs.out.1
    · obtain rfl : k = n := by omega
      go_wp2
      go_ret
      rw [marked_all hl.out] at ho
      exact ⟨rfl, ho, hg⟩


theorem cat_ints {ecs : Nat → List Value} {l : List Int} : ∀ {n : Nat}, n ≤ l.length → (∀ k, k < n → ecs k = [.int .i64 (el l k)]) → cat ecs n = ints (l.take n)
  | 0, _, _ => by simp [cat_zero, ints]
  | n + 1, hn, h => by
    rw [cat_succ, cat_ints (n := n) (by omega) fun k hk => h k (by omega), h n (by omega), take_el (by omega)]
    simp [ints]
/-- What is owned as numbers is a row of its own. -/
theorem own_ints {w : World} {fp : List Nat} {A : Option Addr} {n c : Nat} {l : List Int} (h : Mem.own w fp [.slice A n c] l) (h0 : n ≠ 0) :
    ∃ g t, A = some ⟨g, 0, none⟩ ∧ w.ownsRow 0 t 1 (.slice A n c) n (ints l) ∧ fp = [g] := by
  obtain ⟨_, hl, h1 | ⟨g, t, ecs, fps, rfl, ho, rfl, he⟩⟩ := own_row h
  · exact absurd h1 h0
  · have e : cat ecs n = ints l := by rw [cat_ints (by omega) fun k hk => (he k hk).2, List.take_of_length_le (by omega)]
    have e2 : cat fps n = [] := by
      have : ∀ k, k < n → fps k = (fun _ => []) k := fun k hk => (he k hk).1
      rw [cat_congr this]; simp [cat]
    rw [e2]
    rw [e] at ho
    exact ⟨g, t, rfl, ho, rfl⟩
theorem own_at {w : World} {base g n c : Nat} {t : TypeId} {l : List Int} (h : w.ownsRow base t 1 (.slice (some ⟨g, 0, none⟩) n c) n (ints l)) (hl : l.length = n) (hm : n ≤ maxLen) : Mem.own w [g] [.slice (some ⟨g, 0, none⟩) n c] l := by
  refine ⟨_, n, c, rfl, hm, hl, .inr ⟨g, t, fun k => [.int .i64 (el l k)], fun _ => [], rfl, ?_, by simp [cat], fun k _ => ⟨rfl, rfl⟩⟩⟩
  have e : cat (fun k => [Value.int .i64 (el l k)]) n = ints l := by rw [cat_ints (by omega) fun _ _ => rfl, List.take_of_length_le (by omega)]
  rw [e]
  exact ⟨h.1, by rcases h.2 with h | ⟨g', r, s, a, _, b⟩; exact .inl h; exact .inr ⟨g', r, s, a, Nat.zero_le _, b⟩⟩
/-- A row of numbers is owned. -/
theorem mem_ints {w : World} {B c : Nat} {t : TypeId} {A : Option Addr} {l : List Int} (h : w.ownsRow B t 1 (.slice A l.length c) l.length (ints l)) (hl : l.length ≤ maxLen) :
    ∃ fp, Mem.own w fp [.slice A l.length c] l ∧ fp.Nodup ∧ ∀ b ∈ fp, B ≤ b := by
  rw [← fl_ints] at h
  exact own_flat (α := Int) h rfl hl
theorem givesL_of {w w' : World} {l : List Int} {e : Ending} (h : GivesInts w l e w') (hl : l.length ≤ maxLen) : GivesL w l e w' := by
  obtain ⟨v, rfl, ho, hb⟩ := h
  obtain ⟨A, c, rfl, _, _⟩ := own_form ho
  obtain ⟨fp, o, nd, lo⟩ := mem_ints ho hl
  exact ⟨A, _, c, fp, rfl, o, nd, lo, hb⟩

theorem markIntS_W (A : Option Addr) (n c : Nat) (l : List Int) (fp : List Nat) (q : Int) (w : World) (h : Mem.own w fp [.slice A n c] l) (hq : 0 ≤ q) (hq' : q ≤ 1000000000000) (hn : l.length ≤ 1048576) :
    Calls Tryd.prog 17 #[.slice A n c, .int .i64 q] w (fun e w' => e = .returned (.int .i64 (q + l.length)) ∧ Mem.own w' fp [.slice A n c] (seqFrom q l.length) ∧ Only fp w w') := by
  have hl : l.length = n := rd_len (Mem.own_rd h)
  by_cases h0 : n = 0
  · subst h0
    obtain rfl : l = [] := List.length_eq_zero_iff.1 hl
    clear hl hn
    have HH := Lib.hid h
    clear h
    go_enter Tryd.func17, Tryd.ntmps17
    go_wp2
    go_loopg [1, 5] 0 (fun m j i wr => i = .int .i64 0 ∧ j = .int .i64 q ∧ wr = w)
    case atStart => exact ⟨rfl, rfl, rfl⟩
    case round =>
      obtain ⟨rfl, rfl, rfl⟩ := hrel
      go_wp2
      go_ret
      exact ⟨by simp, HH.out, Only.refl _ _⟩
  · obtain ⟨g, t, rfl, ho, rfl⟩ := own_ints h h0
    refine (markIntS_u t 0 _ n c l q w ho hq hq' (by omega)).mono ?_
    rintro e w' ⟨rfl, ho', hg⟩
    rw [hl]
    exact ⟨rfl, own_at ho' (len_seq q n) (by have := rd_max (Mem.own_rd h); exact this), Only.of_grown hg fun k hk => by simp [Value.ownBlock] at hk; simp [hk]⟩
theorem heldIntS_W (A : Option Addr) (n c : Nat) (q : Int) (m : Nat) (w : World) (h : Mem.rd w w.heap.size [.slice A n c] (seqFrom q m)) (hq : 0 ≤ q) (hq' : q ≤ 1000000000000) (hm : m ≤ 1048576) :
    Calls Tryd.prog 18 #[.slice A n c, .int .i64 q] w (fun e w' => e = .returned (.int .i64 (q + m)) ∧ Below w.heap.size w w') := by
  obtain rfl : m = n := by have := rd_len h; rw [len_seq] at this; omega
  exact heldIntS_any A m c q w (rd_ints.1 h).2 hq hq' (by omega)
end Go.Proofs.YtfgjogmgcamfdaaDoor
