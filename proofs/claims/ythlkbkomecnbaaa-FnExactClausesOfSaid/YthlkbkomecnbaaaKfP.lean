/- Clauses of a circuit (plain). -/
import Derived.Test.YthlkbkomecnbaaaKoM
import Derived.Test.YthlkbkomecnbaaaCiP
import Derived.Test.YthlkbkomecnbaaaMkP
namespace Go.Proofs.Ythlkbkomecnbaaa
open Go.RowKit

/-- The literal of an edge. -/
def litE (x : Int) : Int := if x % 2 = 1 then -(x / 2) else x / 2
/-- The literals of edges, up to the k-th. -/
def eTo (es : List Int) : Nat → List Int
  | 0 => []
  | k + 1 => if 1 < ix es k then eTo es k ++ [litE (ix es k)] else eTo es k
theorem eTo_len (es : List Int) : ∀ k, (eTo es k).length ≤ k
  | 0 => Nat.le_refl _
  | k + 1 => by
    have := eTo_len es k
    unfold eTo
    split
    · rw [List.length_append]; simp; omega
    · omega
theorem eTo_mem (es : List Int) : ∀ k, ∀ x ∈ eTo es k, ∃ i, i < k ∧ 1 < ix es i ∧ x = litE (ix es i)
  | 0 => by simp [eTo]
  | k + 1 => by
    have ih := eTo_mem es k
    intro x hx
    unfold eTo at hx
    split at hx
    · rename_i h
      rcases List.mem_append.1 hx with hx | hx
      · obtain ⟨i, h1, h2⟩ := ih x hx; exact ⟨i, by omega, h2⟩
      · rw [List.mem_singleton] at hx; exact ⟨k, by omega, h, hx⟩
    · obtain ⟨i, h1, h2⟩ := ih x hx; exact ⟨i, by omega, h2⟩
theorem litE_in {x m : Int} (h0 : 1 < x) (h1 : x ≤ 2 * m + 1) : litE x ≠ 0 ∧ -m ≤ litE x ∧ litE x ≤ m := by
  unfold litE
  split <;> omega
theorem eTo_lits {es : List Int} {m : Int} {k : Nat} (h : ∀ i, i < k → ix es i ≤ 2 * m + 1) : ∀ i, i < (eTo es k).length → ix (eTo es k) i ≠ 0 ∧ -m ≤ ix (eTo es k) i ∧ ix (eTo es k) i ≤ m := fun i hi => by
  obtain ⟨j, hj, h1, e⟩ := eTo_mem es k (ix (eTo es k) i) (by rw [ix_lt hi]; exact List.getElem_mem _)
  rw [e]
  exact litE_in h1 (h j hj)
open Classical in
/-- A clause of edges put behind others. -/
noncomputable def putC (m : Int) (L : List (List Int)) (es : List Int) : List (List Int) :=
  if (∃ k, k < es.length ∧ ix es k = 1) then L else if clauseOkB (eTo es es.length) m = true then L ++ [clauseB (eTo es es.length) m] else L
theorem putC_one {m : Int} {L : List (List Int)} {es : List Int} {k : Nat} (hk : k < es.length) (h : ix es k = 1) : putC m L es = L := by unfold putC; rw [if_pos ⟨k, hk, h⟩]
theorem putC_yes {m : Int} {L : List (List Int)} {es : List Int} (h : ∀ k, k < es.length → ix es k ≠ 1) (c : clauseOkB (eTo es es.length) m = true) : putC m L es = L ++ [clauseB (eTo es es.length) m] := by
  unfold putC; rw [if_neg (fun ⟨k, hk, e⟩ => h k hk e), if_pos c]
theorem putC_no {m : Int} {L : List (List Int)} {es : List Int} (h : ∀ k, k < es.length → ix es k ≠ 1) (c : clauseOkB (eTo es es.length) m = false) : putC m L es = L := by
  unfold putC; rw [if_neg (fun ⟨k, hk, e⟩ => h k hk e), if_neg (by rw [c]; simp)]
theorem sub_len : ∀ (r l : List Int), r.Nodup → (∀ x ∈ r, x ∈ l) → r.length ≤ l.length
  | [], _, _, _ => Nat.zero_le _
  | x :: r, l, hd, h => by
    rw [List.nodup_cons] at hd
    have hx := h x (by simp)
    have := sub_len r (l.erase x) hd.2 fun y hy => (List.mem_erase_of_ne (fun e => hd.1 (by rw [← e]; exact hy))).2 (h y (by simp [hy]))
    rw [List.length_erase_of_mem hx] at this
    have := List.length_pos_of_mem hx
    simp only [List.length_cons]
    omega
theorem clauseB_sub (l : List Int) (a : Int) : (clauseB l a).length ≤ l.length := by
  by_cases h : ∃ r, ClOf l a r
  · obtain ⟨r, hr⟩ := h
    rw [(clauseB_yes hr).1]
    refine sub_len r l ?_ fun x hx => (hr.2 x).1 hx
    exact (cv_pw hr.1).imp fun {x y} h e => by subst e; omega
  · rw [(clauseB_no h).1]; simp
theorem putC_len (m : Int) (L : List (List Int)) (es : List Int) : (putC m L es).length ≤ L.length + 1 := by
  unfold putC
  split
  · omega
  · split
    · simp
    · omega
theorem putC_small {m : Int} {L : List (List Int)} {es : List Int} (hL : ∀ x ∈ L, x.length ≤ 3) (he : es.length ≤ 3) : ∀ x ∈ putC m L es, x.length ≤ 3 := by
  intro x hx
  unfold putC at hx
  split at hx
  · exact hL x hx
  · split at hx
    · rcases List.mem_append.1 hx with hx | hx
      · exact hL x hx
      · rw [List.mem_singleton] at hx
        subst hx
        have := clauseB_sub (eTo es es.length) m
        have := eTo_len es es.length
        omega
    · exact hL x hx
/-- The edges of a gate's three clauses. -/
def es1 (ins : Int) (gs : List Ga) (k : Nat) : List Int := [2 * (1 + ins + k) + 1, (el gs k).a]
def es2 (ins : Int) (gs : List Ga) (k : Nat) : List Int := [2 * (1 + ins + k) + 1, (el gs k).b]
def es3 (ins : Int) (gs : List Ga) (k : Nat) : List Int := [2 * (1 + ins + k), notE (el gs k).a, notE (el gs k).b]
/-- The clauses of the first k gates. -/
noncomputable def csTo (m ins : Int) (gs : List Ga) : Nat → List (List Int)
  | 0 => []
  | k + 1 => putC m (putC m (putC m (csTo m ins gs k) (es1 ins gs k)) (es2 ins gs k)) (es3 ins gs k)
theorem csTo_len (m ins : Int) (gs : List Ga) : ∀ k, (csTo m ins gs k).length ≤ 3 * k
  | 0 => Nat.le_refl _
  | k + 1 => by
    have h0 := csTo_len m ins gs k
    have h1 := putC_len m (csTo m ins gs k) (es1 ins gs k)
    have h2 := putC_len m (putC m (csTo m ins gs k) (es1 ins gs k)) (es2 ins gs k)
    have h3 := putC_len m (putC m (putC m (csTo m ins gs k) (es1 ins gs k)) (es2 ins gs k)) (es3 ins gs k)
    show (putC _ _ _).length ≤ _
    omega
theorem csTo_small (m ins : Int) (gs : List Ga) : ∀ k, ∀ x ∈ csTo m ins gs k, x.length ≤ 3
  | 0 => by simp [csTo]
  | k + 1 => putC_small (putC_small (putC_small (csTo_small m ins gs k) (by simp [es1])) (by simp [es2])) (by simp [es3])
noncomputable def csAll (c : Ci) (e : Int) : List (List Int) := putC (c.nodes - 1) (csTo (c.nodes - 1) c.ins c.gates c.gates.length) [e]
noncomputable def csOf2 (c : Ci) (e : Int) : Bool := ckB c && isE c e
noncomputable def csOf1 (c : Ci) (e : Int) : Cs := if csOf2 c e = true then ⟨c.nodes - 1, csAll c e⟩ else ⟨0, []⟩
theorem sum_small {f : Nat → Nat} : ∀ n, (∀ i, i < n → f i ≤ 3) → sumTo f n ≤ 3 * n
  | 0, _ => Nat.le_refl _
  | n + 1, h => by
    have := sum_small n fun i hi => h i (by omega)
    have := h n (by omega)
    show sumTo f n + f n ≤ _
    omega
theorem csOf1_sz (c : Ci) (e : Int) : szII (csOf1 c e).list ≤ 1048576 := by
  unfold csOf1
  split
  · rename_i h
    unfold csOf2 at h
    rw [Bool.and_eq_true] at h
    have hg := (ckB_iff.1 h.1).few
    have h1 := csTo_len (c.nodes - 1) c.ins c.gates c.gates.length
    have h2 := putC_len (c.nodes - 1) (csTo (c.nodes - 1) c.ins c.gates c.gates.length) [e]
    have h3 : ∀ x ∈ csAll c e, x.length ≤ 3 := putC_small (csTo_small _ _ _ _) (by simp)
    have h4 : (csAll c e).length ≤ 1801 := by show (putC _ _ _).length ≤ _; omega
    show szII (csAll c e) ≤ _
    unfold szII
    have := sum_small (f := fun i => (el (csAll c e) i).length) (csAll c e).length fun i hi => by
      show (el (csAll c e) i).length ≤ 3
      rw [el_lt hi]; exact h3 _ (List.getElem_mem _)
    omega
  · show szII [] ≤ _
    unfold szII; simp [sumTo]
end Go.Proofs.Ythlkbkomecnbaaa
