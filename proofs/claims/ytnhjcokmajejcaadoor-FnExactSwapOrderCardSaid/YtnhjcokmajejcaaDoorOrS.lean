/- Orders of variables, in the model: OrderValid, OrderBack. -/
import Derived.Test.YtnhjcokmajejcaaDoorOr
import Derived.Test.YtnhjcokmajejcaaDoorGen
namespace Go.Proofs.YtnhjcokmajejcaaDoor
open Go.RowKit
set_option maxRecDepth 100000

theorem has_no2 {l : List Int} {v : Int} (h : ∀ j, j < l.length → ix l j ≠ v) : decide (v ∈ l) = false := decide_eq_false fun hm => by
  obtain ⟨j, hj, e⟩ := List.getElem_of_mem hm
  exact h j hj (by rw [ix_lt hj]; exact e)
theorem has_yes2 {l : List Int} {v : Int} {j : Nat} (hj : j < l.length) (h : ix l j = v) : decide (v ∈ l) = true := decide_eq_true (by rw [← h, ix_lt hj]; exact List.getElem_mem hj)
theorem l2Has_or (A : Option Addr) (n c : Nat) (l : List Int) (v : Int) (w : World) (h : Rd w w.heap.size 1 A n (ints l)) (hn : n ≤ 1048576) :
    Calls Tryd.prog 77 #[.slice A n c, .int .i64 v] w (fun e w' => e = .returned (.bool (decide (v ∈ l))) ∧ w = w') := by
  have hl := h.len
  have HN := Lib.hid (fun (q : ∀ j, j < n → ix l j ≠ v) => has_no2 (l := l) (v := v) fun j hj => q j (by omega))
  have HY := Lib.hid (fun j (hj : j < n) (e : ix l j = v) => has_yes2 (l := l) (v := v) (by omega : j < l.length) e)
  obtain ⟨b, hb⟩ : ∃ b, b = decide (v ∈ l) := ⟨_, rfl⟩
  rw [← hb] at HN HY ⊢
  clear hl hb
  go_enter Tryd.func77, Tryd.ntmps77
  go_wp2
  go_loopg [5] n (fun m i wr => ∃ k : Nat, k + m = n ∧ i = .int .i64 k ∧ Hid (∀ j, j < k → ix l j ≠ v) ∧ wr = w)
  case atStart => exact ⟨0, by omega, rfl, Lib.hid (fun j hj => absurd hj (by omega)), rfl⟩
  case round =>
    obtain ⟨k, hk, rfl, hj, rfl⟩ := hrel
    by_cases hlt : k < n
    · obtain ⟨ad, rfl, hbl, d0⟩ := h.int hlt
      by_cases q : ix l k = v
      · have q' : (ix l k == v) = true := by simp [q]
        have HF := Lib.hid (HY.out k hlt q)
        go_wp2
        go_ret
        exact ⟨(congrArg (fun b => Ending.returned (.bool b)) HF.out).symm, rfl⟩
      · have q' : (ix l k == v) = false := by simp [q]
        have q'' : Hid (∀ j, j < k + 1 → ix l j ≠ v) := Lib.hid fun j hjk => by
          by_cases z : j < k
          · exact hj.out j z
          · obtain rfl : j = k := by omega
            exact q
        go_wp2
        go_roundg (n - (k + 1))
        case measure => omega
        case rel => exact ⟨k + 1, by omega, by go_num, q'', rfl⟩
    · obtain rfl : k = n := by omega
      have HF := Lib.hid (HN.out hj.out)
      go_wp2
      go_ret
      exact ⟨(congrArg (fun b => Ending.returned (.bool b)) HF.out).symm, rfl⟩

set_option maxHeartbeats 2000000 in
theorem orderValid_spec (l : List Int) (vars : Int) (A : Option Addr) (n c : Nat) (w : World) (h : Mem.rd w w.heap.size [.slice A n c] l) :
    Calls Tryd.prog 48 #[.slice A n c, .int .i64 vars] w (GivesBool w (ordB l vars)) := by
  have hl := rd_len h
  have hm := rd_max h
  unfold maxLen at hm
  have h' := (rd_ints.1 h).2
  by_cases g1 : 0 ≤ vars ∧ vars ≤ 12
  · by_cases g2 : (n : Int) = vars
    · have g2' : ((n : Int) != vars) = false := by simp [g2]
      have n12 : n ≤ 12 := by omega
      have HM := Lib.hid (fun (k : Nat) (hk : k < n) q => ordB_miss (l := l) (vars := vars) (v := k) (by omega) q)
      have HY : Hid ((∀ k : Nat, k < n → decide ((k : Int) ∈ l) = true) → ordB l vars = true) := Lib.hid (fun q => ordB_iff.2 ⟨by omega, g1.2, fun v hv => of_decide_eq_true (q v (by omega))⟩)
      have HC := Lib.hid (fun v W (B : Below w.heap.size w W) => l2Has_or A n c l v W ((Mem.rd_on h B) |> fun q => (rd_ints.1 q).2) (by omega))
      generalize ordB l vars = R at *
      clear h hl
      go_enter Tryd.func48, Tryd.ntmps48
      go_wp2_with (first | (go_at_call 54; refine (l1In_yes g1 _).mono ?_; rintro e w3 ⟨rfl, rfl⟩))
      go_loopg [5] n (fun m i wr => ∃ k : Nat, k + m = n ∧ i = .int .i64 k ∧ Hid (∀ j : Nat, j < k → decide ((j : Int) ∈ l) = true) ∧ wr = w)
      case atStart => exact ⟨0, by omega, rfl, Lib.hid (fun j hj => absurd hj (by omega)), rfl⟩
      case round =>
        obtain ⟨k, hk, rfl, ha, rfl⟩ := hrel
        by_cases hlt : k < n
        · have kn : (k : Int) < vars := by omega
          have HCk := Lib.hid (HC.out k wr (Below.refl _ _))
          have HMk := Lib.hid (HM.out k hlt)
          have HS : Hid (decide ((k : Int) ∈ l) = true → ∀ j : Nat, j < k + 1 → decide ((j : Int) ∈ l) = true) := Lib.hid (fun z j hj => by
            by_cases e : j = k
            · subst e; exact z
            · exact ha.out j (by omega))
          generalize decide ((k : Int) ∈ l) = b at *
          cases b
          · have HF := Lib.hid (HMk.out rfl)
            go_wp2_with fail
            refine (HCk.out).mono ?_
            rintro e w1 ⟨rfl, rfl⟩
            go_wp2
            go_ret
            exact ⟨(congrArg (fun b => Ending.returned (.bool b)) HF.out).symm, Below.refl _ _⟩
          · have hs := Lib.hid (HS.out rfl)
            go_wp2_with fail
            refine (HCk.out).mono ?_
            rintro e w1 ⟨rfl, rfl⟩
            go_wp2
            go_roundg (n - (k + 1))
            case measure => omega
            case rel => exact ⟨k + 1, by omega, by go_num, hs, rfl⟩
        · obtain rfl : k = n := by omega
          have kn : ¬ (k : Int) < vars := by omega
          have HF := Lib.hid (HY.out ha.out)
          go_wp2
          go_ret
          exact ⟨(congrArg (fun b => Ending.returned (.bool b)) HF.out).symm, Below.refl _ _⟩
    · rw [ordB_len (by rw [hl]; exact g2)]
      have g2' : ((n : Int) != vars) = true := by simp [g2]
      clear h hl
      go_enter Tryd.func48, Tryd.ntmps48
      go_wp2_with (first | (go_at_call 54; refine (l1In_yes g1 _).mono ?_; rintro e w3 ⟨rfl, rfl⟩))
      go_ret
      exact ⟨rfl, Below.refl _ _⟩
  · have hF : ordB l vars = false := by
      by_cases z : vars ≤ 12
      · exact ordB_len (by omega)
      · exact ordB_far z
    rw [hF]
    have g3 : vars < 0 ∨ 12 < vars := by omega
    clear h hl hF
    go_enter Tryd.func48, Tryd.ntmps48
    go_wp2_with (first | (go_at_call 54; refine (l1In_no g3 _).mono ?_; rintro e w3 ⟨rfl, rfl⟩))
    go_ret
    exact ⟨rfl, Below.refl _ _⟩
/-- The places at which a number stands, among the first m. -/
def hitsTo (l : List Int) (v : Nat) : Nat → List Int
  | 0 => []
  | m + 1 => if ix l m = v then hitsTo l v m ++ [(m : Int)] else hitsTo l v m
theorem hitsTo_before {l : List Int} {v : Nat} : ∀ {m : Nat}, (∀ j, j < m → ix l j ≠ v) → hitsTo l v m = []
  | 0, _ => rfl
  | m + 1, h => by
    unfold hitsTo
    rw [if_neg (h m (by omega))]
    exact hitsTo_before fun j hj => h j (by omega)
theorem hitsTo_one {l : List Int} {v : Nat} {k : Nat} (e : ix l k = v) : ∀ {m : Nat}, k < m → (∀ j, j < m → ix l j = v → j = k) → hitsTo l v m = [(k : Int)]
  | 0, h, _ => by omega
  | m + 1, h, u => by
    unfold hitsTo
    by_cases q : k = m
    · subst q
      rw [if_pos e, hitsTo_before fun j hj ej => by have := u j (by omega) ej; omega]
      rfl
    · rw [if_neg fun z => q (u m (by omega) z).symm]
      exact hitsTo_one e (by omega) fun j hj => u j (by omega)
theorem hitsTo_all {l : List Int} {vars : Int} (h : ordB l vars = true) {v : Nat} (hv : v < l.length) : hitsTo l v l.length = [((atI l v l.length : Nat) : Int)] := by
  obtain ⟨k, hk, e⟩ := List.getElem_of_mem ((ordB_iff.1 h).2.2 v hv)
  rw [← ix_lt hk] at e
  have u : ∀ j, j < l.length → ix l j = v → j = k := fun j hj ej => ord_once h hj hk (by rw [ej, e])
  rw [hitsTo_one e hk u, atI_hit hk e u]
theorem hitsTo_len (l : List Int) (v : Nat) : ∀ m, (hitsTo l v m).length ≤ m
  | 0 => Nat.le_refl _
  | m + 1 => by
    unfold hitsTo
    have := hitsTo_len l v m
    split
    · rw [List.length_append, List.length_singleton]; omega
    · omega

theorem backTo_hits {l : List Int} (h : ordB l l.length = true) {v : Nat} (hv : v < l.length) : backTo l v ++ hitsTo l v l.length = backTo l (v + 1) := by rw [backTo_succ, hitsTo_all h hv]
end Go.Proofs.YtnhjcokmajejcaaDoor
