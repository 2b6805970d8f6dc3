/- Regions that draw their order, in which one operation (a call) changes what others have read ahead of it: a condition on the world is kept up to that operation alone. -/
import Derived.Deep.RegionHeld3
namespace Go.Proofs.Ythlkbkomecnbaaa
open Go

section
variable {P : Program} {ops : Array Oper} {Q : Exit → Act → World → Prop} {md : Region.Mode} {C : World → Prop} {z : Nat}

/-- Operation j waits for i. -/
def waitsB (md : Region.Mode) (ops : Array Oper) (j i : Nat) : Bool := match ops[j]? with
  | some o => o.after.toList.any fun e => Region.binds md e && e.on == i
  | none => true
/-- Each of these, none of which has come up, waits for the one ahead of it, the first one for i. -/
def chainB (md : Region.Mode) (ops : Array Oper) (listed : Array Bool) : Nat → List Nat → Bool
  | _, [] => true
  | i, q :: qs => (waitsB md ops q i && !listed.getD q true) && chainB md ops listed q qs
theorem not_ready {listed : Array Bool} {i q : Nat} (h : waitsB md ops q i = true) (hi : listed.getD i true = false) : q ∉ Region.ready md ops listed := fun hq => by
  obtain ⟨_, o, ho, hall⟩ := mem_ready.1 hq
  unfold waitsB at h
  rw [ho] at h
  dsimp only at h
  rw [List.any_eq_true] at h
  obtain ⟨e, he, hb⟩ := h
  rw [Bool.and_eq_true] at hb
  have h1 := hall e (by simpa using he) hb.1
  rw [show e.on = i by simpa using hb.2] at h1
  rcases Nat.lt_or_ge i listed.size with h' | h'
  · simp [h'] at hi h1
    rw [hi] at h1; cases h1
  · simp [Array.getElem?_eq_none h'] at h1
theorem chain_step {listed : Array Bool} {j : Nat} (hj : j ∈ Region.ready md ops listed) : ∀ {p : List Nat} {i : Nat}, chainB md ops listed i p = true → listed.getD i true = false → j ∉ p ∧ chainB md ops (listed.setIfInBounds j true) i p = true
  | [], i, _, _ => ⟨by simp, rfl⟩
  | q :: qs, i, h, hi => by
    unfold chainB at h
    rw [Bool.and_eq_true, Bool.and_eq_true] at h
    obtain ⟨⟨h1, h2⟩, h3⟩ := h
    have hq : listed.getD q true = false := by simpa using h2
    have hjq : j ≠ q := fun e => not_ready h1 hi (e ▸ hj)
    obtain ⟨n, c⟩ := chain_step hj h3 hq
    refine ⟨fun hm => ?_, ?_⟩
    · rcases List.mem_cons.1 hm with e | e
      · exact hjq e
      · exact n e
    · unfold chainB
      rw [getD_set_ne true hjq, h1, hq, c]; rfl
/-- The region's rest, whatever comes up: C holds till z has come up. -/
def Till (P : Program) (md : Region.Mode) (ops : Array Oper) (Q : Exit → Act → World → Prop) (z : Nat) (C : World → Prop) : Nat → Array Bool → Act → World → Prop
  | 0, L, a, w => wpAny P md ops Q 0 L a w
  | n + 1, L, a, w => (Region.ready md ops L = [] → Q .normal a w) ∧ ∀ i ∈ Region.ready md ops L, wpOp P ops Q i (fun a' w' => if i = z then wpAny P md ops Q n (L.setIfInBounds i true) a' w' else C w' ∧ Till P md ops Q z C n (L.setIfInBounds i true) a' w') a w
theorem till_any : ∀ {n : Nat} {L : Array Bool} {a : Act} {w : World}, Till P md ops Q z C n L a w → wpAny P md ops Q n L a w
  | 0, _, _, _, h => h
  | n + 1, _, _, _, h => ⟨h.1, fun i hi => wpOp_mono (fun a' w' h' => by
      by_cases e : i = z
      · rw [if_pos e] at h'; exact h'
      · rw [if_neg e] at h'; exact till_any h'.2) (h.2 i hi)⟩
theorem till_first {i : Nat} {oi : Oper} {v : Value} {p : List Nat} (hi : ops[i]? = some oi) (hsel : ∀ (j : Nat) (o : Oper) cs b, ops[j]? = some o → o.op ≠ .select cs b)
    (hQ : ∀ c a w, Q (.panic c) (a.put oi.dst v) w → Q (.panic c) a w) (hz : z ∈ p) : ∀ (n : Nat) (L : Array Bool) (a : Act) (w : World),
      (∀ j oj, ops[j]? = some oj → j ≠ i → L.getD j true = false → (∀ e ∈ oj.after, Region.binds md e = true → e.on ≠ i) → oi.apart ops oj = true) →
      chainB md ops L i p = true → i ∈ Region.ready md ops L → YieldsIf P ops C oi v a → C w → Till P md ops Q z C n (L.setIfInBounds i true) (a.put oi.dst v) w → Till P md ops Q z C (n + 1) L a w := by
  intro n
  induction n with
  | zero =>
    intro L a w _ hp hr hy hC H
    have hiu := (mem_ready.1 hr).1
    have hiz : i ≠ z := fun e => (chain_step hr hp hiu).1 (e ▸ hz)
    refine ⟨fun h => (by rw [h] at hr; cases hr), fun j hj => ?_⟩
    by_cases hji : j = i
    · subst hji
      refine hy.wpOp hi hC ?_
      rw [if_neg hiz]
      exact ⟨hC, H⟩
    · have := ready_mono hj hji
      have H' : wpAny P md ops Q 0 (L.setIfInBounds i true) (a.put oi.dst v) w := H
      rw [H'.1] at this
      cases this
  | succ n ih =>
    intro L a w hfree hp hr hy hC H
    have hiu := (mem_ready.1 hr).1
    have hiz : i ≠ z := fun e => (chain_step hr hp hiu).1 (e ▸ hz)
    refine ⟨fun h => (by rw [h] at hr; cases hr), fun j hj => ?_⟩
    by_cases hji : j = i
    · subst hji
      refine hy.wpOp hi hC ?_
      rw [if_neg hiz]
      exact ⟨hC, H⟩
    · obtain ⟨hjp, hp'⟩ := chain_step hj hp hiu
      have hjz : j ≠ z := fun e => hjp (e ▸ hz)
      obtain ⟨hju, oj, hoj, hall⟩ := mem_ready.1 hj
      have hw : ∀ e ∈ oj.after, Region.binds md e = true → e.on ≠ i := fun e he hb heq => by
        have h1 := hall e he hb
        rw [heq] at h1
        rcases Nat.lt_or_ge i L.size with h' | h'
        · simp [h'] at hiu h1
          rw [hiu] at h1; cases h1
        · simp [Array.getElem?_eq_none h'] at h1
      have step := wpOp_putIf hoj (hfree j oj hoj hji hju hw) (fun cs b => hsel i oi cs b hi) (fun cs b => hsel j oj cs b hoj) hQ hy (H.2 j (ready_mono hj hji))
      refine wpOp_mono (fun a' w' h3 => ?_) step
      rw [if_neg hjz] at h3 ⊢
      refine ⟨h3.2.1, ih (L.setIfInBounds j true) a' w' (fun k ok hk hki hun hno => ?_) hp' (ready_mono hr (Ne.symm hji)) h3.1 h3.2.1 ?_⟩
      · refine hfree k ok hk hki ?_ hno
        by_cases hjk : j = k
        · subst hjk; exact hju
        · rw [getD_set_ne true hjk] at hun; exact hun
      · rw [Array.setIfInBounds_comm _ _ hji]
        exact h3.2.2
/-- Take operation i first: z waits for it, by the chain p. -/
theorem till_take {i : Nat} {oi : Oper} {v : Value} {n : Nat} {L : Array Bool} {a : Act} {w : World} (p : List Nat) (hi : ops[i]? = some oi) (hs : Region.noSelect ops = true) (hf : Region.free md ops L i = true)
    (hr : (Region.ready md ops L).contains i = true) (hc : chainB md ops L i p = true) (hz : p.contains z = true) (hQ : ∀ c a w, Q (.panic c) (a.put oi.dst v) w → Q (.panic c) a w) (hy : YieldsIf P ops C oi v a) (hC : C w)
    (h : Till P md ops Q z C n (L.setIfInBounds i true) (a.put oi.dst v) w) : Till P md ops Q z C (n + 1) L a w :=
  till_first hi (Region.noSelect_spec hs) hQ (by simpa using hz) n L a w (Region.free_spec hi hf) hc (by simpa using hr) hy hC h
/-- The one operation that may come up, ahead of z. -/
theorem till_one {i : Nat} {o : Oper} {n : Nat} {L : Array Bool} {a : Act} {w : World} (hr : Region.ready md ops L = [i]) (ho : ops[i]? = some o) (hiz : (i == z) = false)
    (h : ∀ K' : Act → World → Prop, Shut (∀ a w, C w → (C w → Till P md ops Q z C n (L.setIfInBounds i true) a w) → K' a w) → if Region.wanted o (yielded ops a.tmps) = true then Oper.wp P o a w K' Q else K' (a.put o.dst undef) w) :
    Till P md ops Q z C (n + 1) L a w := by
  refine ⟨fun h0 => (by rw [hr] at h0; cases h0), fun j hj => ?_⟩
  rw [hr] at hj
  obtain rfl : j = i := by simpa using hj
  refine wpOp_step ho (fun K' hK => h K' (fun a w hC hT => hK a w ?_))
  rw [if_neg (by simpa using hiz)]
  exact ⟨hC, hT hC⟩
/-- z itself. -/
theorem till_last {o : Oper} {n : Nat} {L : Array Bool} {a : Act} {w : World} (hr : Region.ready md ops L = [z]) (ho : ops[z]? = some o)
    (h : ∀ K' : Act → World → Prop, Shut (∀ a w, wpAnyH P md ops Q (fun _ => True) n (L.setIfInBounds z true) a w → K' a w) → if Region.wanted o (yielded ops a.tmps) = true then Oper.wp P o a w K' Q else K' (a.put o.dst undef) w) :
    Till P md ops Q z C (n + 1) L a w := by
  refine ⟨fun h0 => (by rw [hr] at h0; cases h0), fun j hj => ?_⟩
  rw [hr] at hj
  obtain rfl : j = z := by simpa using hj
  refine wpOp_step ho (fun K' hK => h K' (fun a w hT => hK a w ?_))
  rw [if_pos rfl]
  exact wpAny_of_held _ _ _ _ hT
theorem region_till {id : Nat} {a : Act} {w : World} (z : Nat) (C : World → Prop) (hm : P.follows .mixedOrders = true) (hC : C w.drew)
    (h : C w.drew → Till P .any ops Q z C ops.size (Array.replicate ops.size false) a w.drew) : (Code.region id ops true).wp P Q a w :=
  wp_region_any hm (till_any (h hC))
end
end Go.Proofs.Ythlkbkomecnbaaa
