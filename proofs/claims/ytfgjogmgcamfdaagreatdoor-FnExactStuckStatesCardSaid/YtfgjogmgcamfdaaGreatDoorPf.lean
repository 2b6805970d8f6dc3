/- What chapter 5 answers: plain. -/
import Derived.Test.YtfgjogmgcamfdaaGreatDoorNxP
import Derived.Test.YtfgjogmgcamfdaaGreatDoorClE
import Derived.Test.YtfgjogmgcamfdaaGreatDoorSea
namespace Go.Proofs.YtfgjogmgcamfdaaGreatDoor

/-- How many steps it is from marked states to each one, as far as d rounds tell. -/
def dst (E : Nat → Nat → Bool) (M : Nat → Bool) (N : Nat) : Nat → Nat → Int
  | 0, x => if M x then 0 else -1
  | d + 1, x => if 0 ≤ dst E M N d x then dst E M N d x else if someTo (fun y => decide (dst E M N d y = d) && E y x) N then ((d + 1 : Nat) : Int) else -1
section
variable {E : Nat → Nat → Bool} {M : Nat → Bool} {N : Nat}
theorem dst_keep {d x : Nat} (h : 0 ≤ dst E M N d x) : dst E M N (d + 1) x = dst E M N d x := if_pos h
theorem dst_new {d x : Nat} (h : ¬ 0 ≤ dst E M N d x) (h2 : someTo (fun y => decide (dst E M N d y = d) && E y x) N = true) : dst E M N (d + 1) x = ((d + 1 : Nat) : Int) := by
  show (if _ then _ else _) = _
  rw [if_neg h, if_pos h2]
theorem dst_none {d x : Nat} (h : ¬ 0 ≤ dst E M N d x) (h2 : someTo (fun y => decide (dst E M N d y = d) && E y x) N = false) : dst E M N (d + 1) x = -1 := by
  show (if _ then _ else _) = _
  rw [if_neg h, if_neg (by simp [h2])]
theorem dst_range (d x : Nat) : dst E M N d x = -1 ∨ 0 ≤ dst E M N d x ∧ dst E M N d x ≤ d := by
  induction d with
  | zero => unfold dst; split <;> simp
  | succ d ih =>
    by_cases h : 0 ≤ dst E M N d x
    · rw [dst_keep h]; omega
    · cases h2 : someTo (fun y => decide (dst E M N d y = d) && E y x) N
      · rw [dst_none h h2]; exact .inl rfl
      · rw [dst_new h h2]; exact .inr ⟨by omega, by omega⟩
theorem dst_later {d x : Nat} (h : 0 ≤ dst E M N d x) : ∀ j, dst E M N (d + j) x = dst E M N d x
  | 0 => rfl
  | j + 1 => by
    have := dst_later h j
    rw [← Nat.add_assoc, dst_keep (by rw [this]; exact h), this]
/-- A round that tells nothing new is the last one. -/
theorem dst_still {d : Nat} (h : ∀ x, x < N → dst E M N (d + 1) x = dst E M N d x) : ∀ j x, x < N → dst E M N (d + j) x = dst E M N d x
  | 0, _, _ => rfl
  | 1, x, hx => h x hx
  | j + 2, x, hx => by
    have ih := dst_still h (j + 1)
    by_cases q : 0 ≤ dst E M N d x
    · exact dst_later q _
    · have q' : ¬ 0 ≤ dst E M N (d + (j + 1)) x := by rw [ih x hx]; exact q
      have e : dst E M N (d + (j + 1) + 1) x = -1 := by
        refine dst_none q' ?_
        cases h2 : someTo (fun y => decide (dst E M N (d + (j + 1)) y = ((d + (j + 1) : Nat) : Int)) && E y x) N
        · rfl
        · obtain ⟨y, hy, h3⟩ := some_iff.1 h2
          rw [Bool.and_eq_true, decide_eq_true_eq, ih y hy] at h3
          have := dst_range (E := E) (M := M) (N := N) d y
          omega
      have r := dst_range (E := E) (M := M) (N := N) d x
      show dst E M N (d + (j + 1) + 1) x = _
      rw [e]; omega
/-- How many below n. -/
def cntTo (f : Nat → Bool) : Nat → Nat
  | 0 => 0
  | n + 1 => cntTo f n + (if f n then 1 else 0)
theorem cnt_le (f : Nat → Bool) : ∀ n, cntTo f n ≤ n
  | 0 => Nat.le_refl _
  | n + 1 => by have := cnt_le f n; unfold cntTo; split <;> omega
theorem cnt_mono {f g : Nat → Bool} : ∀ {n : Nat}, (∀ x, x < n → f x = true → g x = true) → cntTo f n ≤ cntTo g n
  | 0, _ => Nat.le_refl _
  | n + 1, h => by
    have ih := cnt_mono (f := f) (g := g) (n := n) fun x hx => h x (by omega)
    have := h n (by omega)
    unfold cntTo
    cases p : f n
    · simp; omega
    · rw [this p]; simp; omega
theorem cnt_more {f g : Nat → Bool} {x : Nat} (hf : f x = false) (hg : g x = true) : ∀ {n : Nat}, x < n → (∀ x, x < n → f x = true → g x = true) → cntTo f n + 1 ≤ cntTo g n
  | 0, hx, _ => by omega
  | n + 1, hx, h => by
    unfold cntTo
    by_cases e : x = n
    · subst e
      have := cnt_mono (f := f) (g := g) (n := x) fun y hy => h y (by omega)
      rw [hf, hg]; simp; omega
    · have ih := cnt_more hf hg (n := n) (by omega) fun y hy => h y (by omega)
      have := h n (by omega)
      cases p : f n
      · simp; omega
      · rw [this p]; simp; omega
/-- Rounds that tell something new are as many as states at most. -/
theorem dst_rounds : ∀ {d : Nat}, (∀ k, k < d → ∃ x, x < N ∧ dst E M N (k + 1) x ≠ dst E M N k x) → d ≤ cntTo (fun x => decide (0 ≤ dst E M N d x)) N
  | 0, _ => Nat.zero_le _
  | d + 1, h => by
    have ih := dst_rounds (d := d) fun k hk => h k (by omega)
    obtain ⟨x, hx, hn⟩ := h d (by omega)
    have h0 : ¬ 0 ≤ dst E M N d x := fun q => hn (dst_keep q)
    have h1 : 0 ≤ dst E M N (d + 1) x := by
      have r := dst_range (E := E) (M := M) (N := N) d x
      have r' := dst_range (E := E) (M := M) (N := N) (d + 1) x
      omega
    have := cnt_more (f := fun x => decide (0 ≤ dst E M N d x)) (g := fun x => decide (0 ≤ dst E M N (d + 1) x)) (x := x) (decide_eq_false h0) (decide_eq_true h1) (n := N) hx
      fun y _ q => by
        rw [decide_eq_true_eq] at q ⊢
        rw [dst_keep q]; exact q
    omega
/-- Behind the first round that tells nothing new stands what N rounds tell. -/
theorem dst_end {d : Nat} (h : ∀ k, k < d → ∃ x, x < N ∧ dst E M N (k + 1) x ≠ dst E M N k x) (h2 : ∀ x, x < N → dst E M N (d + 1) x = dst E M N d x) :
    ∀ x, x < N → dst E M N d x = dst E M N N x := fun x hx => by
  have h3 := dst_rounds h
  have h4 := cnt_le (fun x => decide (0 ≤ dst E M N d x)) N
  have := dst_still h2 (N - d) x hx
  rw [show d + (N - d) = N by omega] at this
  exact this.symm
/-- What is told is told at its own round. -/
theorem dst_first {y : Nat} : ∀ {d : Nat}, 0 ≤ dst E M N d y → dst E M N (dst E M N d y).toNat y = dst E M N d y
  | 0, h => by
    have := dst_range (E := E) (M := M) (N := N) 0 y
    have e : (dst E M N 0 y).toNat = 0 := by omega
    rw [e]
  | d + 1, h => by
    by_cases q : 0 ≤ dst E M N d y
    · rw [dst_keep q]; exact dst_first q
    · cases h2 : someTo (fun z => decide (dst E M N d z = d) && E z y) N
      · rw [dst_none q h2] at h; omega
      · have e := dst_new q h2
        have e2 : (dst E M N (d + 1) y).toNat = d + 1 := by rw [e]; omega
        rw [e2]
/-- The last round has been. -/
theorem dst_done : ∀ x, x < N → dst E M N (N + 1) x = dst E M N N x := by
  have some : ∃ d, d ≤ N ∧ ∀ x, x < N → dst E M N (d + 1) x = dst E M N d x := by
    refine Classical.byContradiction fun hc => ?_
    have h : ∀ k, k < N + 1 → ∃ x, x < N ∧ dst E M N (k + 1) x ≠ dst E M N k x := fun k hk => by
      refine Classical.byContradiction fun hn => hc ⟨k, by omega, fun x hx => ?_⟩
      exact Classical.byContradiction fun q => hn ⟨x, hx, q⟩
    have h3 := dst_rounds h
    have h4 := cnt_le (fun x => decide (0 ≤ dst E M N (N + 1) x)) N
    omega
  obtain ⟨d, hd, h⟩ := some
  intro x hx
  have a := dst_still h (N - d) x hx
  have b := dst_still h (N + 1 - d) x hx
  rw [show d + (N - d) = N by omega] at a
  rw [show d + (N + 1 - d) = N + 1 by omega] at b
  rw [a, b]
/-- One step further. -/
theorem dst_step {x y : Nat} (hx : x < N) (hy : y < N) (h : E y x = true) (h0 : 0 ≤ dst E M N N y) : 0 ≤ dst E M N N x ∧ dst E M N N x ≤ dst E M N N y + 1 := by
  have r := dst_range (E := E) (M := M) (N := N) N y
  obtain ⟨k, hk⟩ : ∃ k : Nat, dst E M N N y = k := ⟨(dst E M N N y).toNat, by omega⟩
  have f := dst_first h0
  rw [hk] at f
  have f : dst E M N k y = k := by simpa using f
  have q : 0 ≤ dst E M N (k + 1) x ∧ dst E M N (k + 1) x ≤ k + 1 := by
    by_cases p : 0 ≤ dst E M N k x
    · have := dst_range (E := E) (M := M) (N := N) k x
      rw [dst_keep p]; omega
    · have s : someTo (fun z => decide (dst E M N k z = k) && E z x) N = true := some_iff.2 ⟨y, hy, by rw [f, h]; simp⟩
      rw [dst_new p s]; omega
  have l := dst_later q.1 (N - k)
  rw [show k + 1 + (N - k) = N + 1 by omega, dst_done x hx] at l
  rw [l, hk]; exact q
/-- A state that is not marked has one ahead of it that is one step nearer. -/
theorem dst_back {x : Nat} : ∀ {d : Nat} {k : Nat}, dst E M N d x = ((k + 1 : Nat) : Int) → ∃ y, y < N ∧ dst E M N d y = k ∧ E y x = true
  | 0, k, h => by
    have := dst_range (E := E) (M := M) (N := N) 0 x
    omega
  | d + 1, k, h => by
    by_cases q : 0 ≤ dst E M N d x
    · rw [dst_keep q] at h
      obtain ⟨y, h1, h2, h3⟩ := dst_back h
      exact ⟨y, h1, by rw [dst_keep (by omega)]; exact h2, h3⟩
    · cases h2 : someTo (fun z => decide (dst E M N d z = d) && E z x) N
      · rw [dst_none q h2] at h; omega
      · rw [dst_new q h2] at h
        obtain ⟨y, h3, h4⟩ := some_iff.1 h2
        rw [Bool.and_eq_true, decide_eq_true_eq] at h4
        have e : d = k := by omega
        refine ⟨y, h3, ?_, h4.2⟩
        rw [dst_keep (by omega), h4.1, e]
/-- What marked states come to. -/
inductive Rch (E : Nat → Nat → Bool) (M : Nat → Bool) (N : Nat) : Nat → Prop
  | mark {x : Nat} : x < N → M x = true → Rch E M N x
  | step {y x : Nat} : Rch E M N y → x < N → E y x = true → Rch E M N x
theorem Rch.lt {x : Nat} (h : Rch E M N x) : x < N := by cases h <;> assumption
theorem rch_of_dst {d : Nat} : ∀ {x : Nat}, x < N → 0 ≤ dst E M N d x → Rch E M N x := by
  induction d with
  | zero =>
    intro x hx h
    refine .mark hx ?_
    unfold dst at h
    cases q : M x
    · rw [q] at h; simp at h
    · rfl
  | succ d ih =>
    intro x hx h
    by_cases q : 0 ≤ dst E M N d x
    · exact ih hx q
    · cases h2 : someTo (fun z => decide (dst E M N d z = d) && E z x) N
      · rw [dst_none q h2] at h; omega
      · obtain ⟨y, h3, h4⟩ := some_iff.1 h2
        rw [Bool.and_eq_true, decide_eq_true_eq] at h4
        exact .step (ih h3 (by omega)) hx h4.2
theorem dst_mark {x : Nat} (h : M x = true) : ∀ d, dst E M N d x = 0
  | 0 => by unfold dst; rw [if_pos h]
  | d + 1 => by rw [dst_keep (by rw [dst_mark h d]; exact Int.le_refl _), dst_mark h d]
theorem dst_rch {x : Nat} (hx : x < N) : 0 ≤ dst E M N N x ↔ Rch E M N x := by
  refine ⟨rch_of_dst hx, fun h => ?_⟩
  clear hx
  induction h with
  | mark _ h => rw [dst_mark h]; exact Int.le_refl _
  | step h hx he ih => exact (dst_step hx h.lt he ih).1
/-- Nothing but what the marked states come to is as near: the numbers of steps are the only ones that fit. -/
theorem dst_only {f : Nat → Int} (h0 : ∀ x, x < N → (f x = 0 ↔ M x = true)) (h1 : ∀ x, x < N → -1 ≤ f x)
    (h2 : ∀ x y, x < N → y < N → E y x = true → 0 ≤ f y → 0 ≤ f x ∧ f x ≤ f y + 1)
    (h3 : ∀ x, x < N → ∀ k : Nat, f x = ((k + 1 : Nat) : Int) → ∃ y, y < N ∧ f y = k ∧ E y x = true) : ∀ x, x < N → f x = dst E M N N x := by
  have up : ∀ k : Nat, ∀ x, x < N → f x = k → 0 ≤ dst E M N N x ∧ dst E M N N x ≤ k := by
    intro k
    induction k with
    | zero => intro x hx h; rw [dst_mark ((h0 x hx).1 h)]; simp
    | succ k ih =>
      intro x hx h
      obtain ⟨y, hy, e, he⟩ := h3 x hx k h
      have := ih y hy e
      have := dst_step hx hy he this.1
      omega
  have down : ∀ k : Nat, ∀ x, x < N → dst E M N N x = k → 0 ≤ f x ∧ f x ≤ k := by
    intro k
    induction k with
    | zero =>
      intro x hx h
      have m : M x = true := by
        cases hN : M x
        · exfalso
          have f1 := dst_first (E := E) (M := M) (N := N) (d := N) (y := x) (by omega)
          rw [h] at f1
          have f1 : dst E M N 0 x = 0 := by simpa using f1
          unfold dst at f1
          rw [hN] at f1; simp at f1
        · rfl
      rw [(h0 x hx).2 m]; simp
    | succ k ih =>
      intro x hx h
      obtain ⟨y, hy, e, he⟩ := dst_back h
      have := ih y hy e
      have := h2 x y hx hy he this.1
      omega
  intro x hx
  have r := dst_range (E := E) (M := M) (N := N) N x
  have l := h1 x hx
  by_cases p : 0 ≤ f x
  · have u := up (f x).toNat x hx (by omega)
    have v := down (dst E M N N x).toNat x hx (by omega)
    omega
  · rcases r with r | r
    · omega
    · have v := down (dst E M N N x).toNat x hx (by omega)
      omega
end
end Go.Proofs.YtfgjogmgcamfdaaGreatDoor
namespace Go.Proofs.YtfgjogmgcamfdaaGreatDoor

/-- The numbers of a function, below z. -/
def lsR (g : Nat → Int) (z : Nat) : List Int := (List.range z).map g
theorem lsR_len (g : Nat → Int) (z : Nat) : (lsR g z).length = z := by simp [lsR]
theorem lsR_at (g : Nat → Int) {z x : Nat} (h : x < z) : (lsR g z)[x]? = some (g x) := by simp [lsR, h]
theorem lsR_ix (g : Nat → Int) {z x : Nat} (h : x < z) : ix (lsR g z) x = g x := by unfold ix; rw [lsR_at g h]; rfl
theorem lsR_set (g : Nat → Int) {z x : Nat} (v : Int) (h : x < z) : (lsR g z).set x v = lsR (upd g x v) z := by
  apply List.ext_getElem?
  intro j
  rw [List.getElem?_set, lsR_len]
  by_cases hj : j < z
  · rw [lsR_at _ hj, lsR_at _ hj]
    by_cases e : x = j
    · subst e; rw [if_pos rfl, if_pos h, upd_at]
    · rw [if_neg e, show upd g x v j = g j by unfold upd; rw [if_neg (fun q => e q.symm)]]
  · rw [List.getElem?_eq_none (by rw [lsR_len]; omega), List.getElem?_eq_none (by rw [lsR_len]; omega)]
    split
    · omega
    · rfl
theorem lsR_succ (g : Nat → Int) (k : Nat) : lsR g (k + 1) = lsR g k ++ [g k] := by unfold lsR; rw [List.range_succ, List.map_append]; rfl
theorem lsR_congr {f g : Nat → Int} {z : Nat} (h : ∀ x, x < z → f x = g x) : lsR f z = lsR g z := by
  apply List.ext_getElem?
  intro j
  by_cases hj : j < z
  · rw [lsR_at _ hj, lsR_at _ hj, h j hj]
  · rw [List.getElem?_eq_none (by rw [lsR_len]; omega), List.getElem?_eq_none (by rw [lsR_len]; omega)]

/-- The numbers of a row, told in a round, of g. -/
def inR (row : List Int) (d : Nat) (g : Nat → Int) : Nat → Nat → Int
  | 0 => g
  | i + 1 => if inR row d g i (ix row i).toNat < 0 then upd (inR row d g i) (ix row i).toNat ((d + 1 : Nat) : Int) else inR row d g i
/-- The numbers of the first n rows, told in a round. -/
def midR (L : List (List Int)) (d : Nat) (f : Nat → Int) : Nat → Nat → Int
  | 0 => f
  | n + 1 => if midR L d f n n = d then inR (el L n) d (midR L d f n) (el L n).length else midR L d f n
/-- Something new was told. -/
def chg (f g : Nat → Int) (z : Nat) : Prop := ∃ x, x < z ∧ f x < 0 ∧ 0 ≤ g x

theorem upd_other {β : Type} (f : Nat → β) {k i : Nat} (x : β) (h : i ≠ k) : upd f k x i = f i := by simp [upd, h]
theorem inR_yes {row : List Int} {d i : Nat} {g : Nat → Int} (h : inR row d g i (ix row i).toNat < 0) : inR row d g (i + 1) = upd (inR row d g i) (ix row i).toNat ((d + 1 : Nat) : Int) := if_pos h
theorem inR_no {row : List Int} {d i : Nat} {g : Nat → Int} (h : ¬ inR row d g i (ix row i).toNat < 0) : inR row d g (i + 1) = inR row d g i := if_neg h
theorem inR_eq {row : List Int} {d : Nat} {g : Nat → Int} (hg : ∀ x, -1 ≤ g x) (x : Nat) : ∀ i, inR row d g i x = if 0 ≤ g x then g x else if someTo (fun j => decide ((ix row j).toNat = x)) i then ((d + 1 : Nat) : Int) else -1
  | 0 => by
    show g x = _
    have := hg x
    by_cases q : 0 ≤ g x
    · rw [if_pos q]
    · rw [if_neg q]
      show g x = if false = true then _ else _
      rw [if_neg (by simp)]; omega
  | i + 1 => by
    have ih := inR_eq (row := row) (d := d) hg x i
    show _ = if 0 ≤ g x then g x else if (someTo (fun j => decide ((ix row j).toNat = x)) i || decide ((ix row i).toNat = x)) then _ else _
    by_cases q : inR row d g i (ix row i).toNat < 0
    · rw [inR_yes q]
      by_cases e : (ix row i).toNat = x
      · rw [e, upd_at, decide_eq_true rfl, Bool.or_true, if_pos (rfl : true = true)]
        rw [e, ih] at q
        by_cases p : 0 ≤ g x
        · rw [if_pos p] at q; omega
        · rw [if_neg p]
      · rw [upd_other _ _ (fun q => e q.symm), decide_eq_false e, Bool.or_false]; exact ih
    · rw [inR_no q]
      by_cases e : (ix row i).toNat = x
      · rw [e] at q
        rw [ih] at q ⊢
        by_cases p : 0 ≤ g x
        · rw [if_pos p, if_pos p]
        · rw [if_neg p] at q
          rw [if_neg p, if_neg p, decide_eq_true e, Bool.or_true, if_pos (rfl : true = true)]
          by_cases c : someTo (fun j => decide ((ix row j).toNat = x)) i = true
          · rw [if_pos c]
          · rw [if_neg c] at q; omega
      · rw [decide_eq_false e, Bool.or_false]; exact ih
theorem inR_low {row : List Int} {d : Nat} {g : Nat → Int} (hg : ∀ x, -1 ≤ g x) (i x : Nat) : -1 ≤ inR row d g i x := by
  rw [inR_eq hg]
  split
  · exact hg x
  · split <;> omega
theorem inR_keep {row : List Int} {d : Nat} {g : Nat → Int} (hg : ∀ x, -1 ≤ g x) (i : Nat) {x : Nat} (h : 0 ≤ g x) : inR row d g i x = g x := by rw [inR_eq hg, if_pos h]
theorem row_has {row : List Int} (h : ∀ k, k < row.length → 0 ≤ ix row k) (x : Nat) : someTo (fun j => decide ((ix row j).toNat = x)) row.length = memP row x := by
  apply bool_iff
  rw [some_iff, mem_ix]
  constructor
  · rintro ⟨i, a, b⟩
    have b := of_decide_eq_true b
    have := h i a
    exact ⟨i, a, by omega⟩
  · rintro ⟨i, a, b⟩
    exact ⟨i, a, decide_eq_true (by omega)⟩
theorem midR_yes {L : List (List Int)} {d n : Nat} {f : Nat → Int} (h : midR L d f n n = d) : midR L d f (n + 1) = inR (el L n) d (midR L d f n) (el L n).length := if_pos h
theorem midR_no {L : List (List Int)} {d n : Nat} {f : Nat → Int} (h : ¬ midR L d f n n = d) : midR L d f (n + 1) = midR L d f n := if_neg h
theorem midR_eq {L : List (List Int)} {d z : Nat} {f : Nat → Int} (hf : ∀ x, -1 ≤ f x) (hr : ∀ n, n < z → ∀ k, k < (el L n).length → 0 ≤ ix (el L n) k) :
    ∀ n, n ≤ z → ∀ x, midR L d f n x = if 0 ≤ f x then f x else if someTo (fun y => decide (f y = d) && memP (el L y) x) n then ((d + 1 : Nat) : Int) else -1
  | 0, _, x => by
    show f x = _
    have := hf x
    by_cases q : 0 ≤ f x
    · rw [if_pos q]
    · rw [if_neg q]
      show f x = if false = true then _ else _
      rw [if_neg (by simp)]; omega
  | n + 1, hn, x => by
    have ih := midR_eq (L := L) (d := d) hf hr n (by omega)
    have low : ∀ x, -1 ≤ midR L d f n x := fun x => by
      rw [ih x]
      split
      · exact hf x
      · split <;> omega
    have same : midR L d f n n = d ↔ f n = d := by
      rw [ih n]
      by_cases p : 0 ≤ f n
      · rw [if_pos p]
      · rw [if_neg p]
        have := hf n
        split <;> constructor <;> intro q <;> omega
    show _ = if 0 ≤ f x then f x else if (someTo (fun y => decide (f y = d) && memP (el L y) x) n || (decide (f n = d) && memP (el L n) x)) then _ else _
    by_cases q : midR L d f n n = d
    · rw [midR_yes q, inR_eq low, row_has (hr n (by omega)), decide_eq_true (same.1 q), Bool.true_and]
      by_cases p : 0 ≤ f x
      · have e1 : midR L d f n x = f x := by rw [ih x, if_pos p]
        rw [e1, if_pos p, if_pos p]
      · by_cases c : someTo (fun y => decide (f y = d) && memP (el L y) x) n = true
        · have e1 : midR L d f n x = ((d + 1 : Nat) : Int) := by rw [ih x, if_neg p, if_pos c]
          rw [e1, if_pos (by omega), if_neg p, c, Bool.true_or, if_pos (rfl : true = true)]
        · have e1 : midR L d f n x = -1 := by rw [ih x, if_neg p, if_neg c]
          have c' : someTo (fun y => decide (f y = d) && memP (el L y) x) n = false := by simpa using c
          rw [e1, if_neg (by omega), if_neg p, c', Bool.false_or]
    · rw [midR_no q, decide_eq_false (fun e => q (same.2 e)), Bool.false_and, Bool.or_false, ih x]
theorem midR_low {L : List (List Int)} {d z : Nat} {f : Nat → Int} (hf : ∀ x, -1 ≤ f x) (hr : ∀ n, n < z → ∀ k, k < (el L n).length → 0 ≤ ix (el L n) k) {n : Nat} (hn : n ≤ z) (x : Nat) : -1 ≤ midR L d f n x := by
  rw [midR_eq hf hr n hn]
  split
  · exact hf x
  · split <;> omega
theorem midR_keep {L : List (List Int)} {d z : Nat} {f : Nat → Int} (hf : ∀ x, -1 ≤ f x) (hr : ∀ n, n < z → ∀ k, k < (el L n).length → 0 ≤ ix (el L n) k) {n x : Nat} (hn : n ≤ z) (h : 0 ≤ f x) : midR L d f n x = f x := by rw [midR_eq hf hr n hn, if_pos h]
/-- The steps that rows tell. -/
def rowE (L : List (List Int)) : Nat → Nat → Bool := fun y x => memP (el L y) x
theorem dst_low {E : Nat → Nat → Bool} {M : Nat → Bool} {z d : Nat} (x : Nat) : -1 ≤ dst E M z d x := by have := dst_range (E := E) (M := M) (N := z) d x; omega
theorem dst_mid {L : List (List Int)} {M : Nat → Bool} {z d : Nat} (hr : ∀ n, n < z → ∀ k, k < (el L n).length → 0 ≤ ix (el L n) k) : midR L d (dst (rowE L) M z d) z = dst (rowE L) M z (d + 1) := by
  funext x
  rw [midR_eq (fun x => dst_low x) hr z (Nat.le_refl _)]
  rfl
/-- A round told nothing. -/
theorem chg_none {E : Nat → Nat → Bool} {M : Nat → Bool} {z d : Nat} (h : ¬ chg (dst E M z d) (dst E M z (d + 1)) z) : ∀ x, x < z → dst E M z (d + 1) x = dst E M z d x := fun x hx => by
  by_cases q : 0 ≤ dst E M z d x
  · exact dst_keep q
  · have a := dst_low (E := E) (M := M) (z := z) (d := d) x
    have b := dst_low (E := E) (M := M) (z := z) (d := d + 1) x
    by_cases p : 0 ≤ dst E M z (d + 1) x
    · exact absurd ⟨x, hx, by omega, p⟩ h
    · omega
theorem chg_some {E : Nat → Nat → Bool} {M : Nat → Bool} {z d : Nat} (h : chg (dst E M z d) (dst E M z (d + 1)) z) : ∃ x, x < z ∧ dst E M z (d + 1) x ≠ dst E M z d x := by
  obtain ⟨x, hx, a, b⟩ := h
  exact ⟨x, hx, by omega⟩
theorem chg_same {f g : Nat → Int} {z : Nat} (h : ∀ x, x < z → 0 ≤ g x → 0 ≤ f x) : ¬ chg f g z := by
  rintro ⟨x, hx, a, b⟩
  have := h x hx b
  omega
/-- The steps of rows, with as many as there are marked states at first. -/
theorem dst_congr {E E' : Nat → Nat → Bool} {M M' : Nat → Bool} {z : Nat} (h : ∀ y x, y < z → x < z → E y x = E' y x) (hm : ∀ x, x < z → M x = M' x) : ∀ d x, x < z → dst E M z d x = dst E' M' z d x
  | 0, x, hx => by show (if M x then (0 : Int) else -1) = if M' x then 0 else -1; rw [hm x hx]
  | d + 1, x, hx => by
    have ih := dst_congr h hm d
    have e : someTo (fun y => decide (dst E M z d y = d) && E y x) z = someTo (fun y => decide (dst E' M' z d y = d) && E' y x) z := by
      apply bool_iff
      rw [some_iff, some_iff]
      constructor
      · rintro ⟨i, a, b⟩
        refine ⟨i, a, ?_⟩
        rw [← ih i a, ← h i x a hx]; exact b
      · rintro ⟨i, a, b⟩
        refine ⟨i, a, ?_⟩
        rw [ih i a, h i x a hx]; exact b
    show (if 0 ≤ dst E M z d x then dst E M z d x else if someTo _ z then _ else _) = if 0 ≤ dst E' M' z d x then dst E' M' z d x else if someTo _ z then _ else _
    rw [ih x hx, e]
end Go.Proofs.YtfgjogmgcamfdaaGreatDoor
namespace Go.Proofs.YtfgjogmgcamfdaaGreatDoor

/-- The numbers behind a state, as a list. -/
def rowT (T : Nat → Nat → Bool) (a : Nat) : List Int := pick (T a) 448
/-- The record behind i numbers of those behind a state. -/
def bfsIn (T : Nat → Nat → Bool) (x : Sst) (a : Nat) : Nat → Sst
  | 0 => x
  | i + 1 => stp (bfsIn T x a i) a (ix (rowT T a) i).toNat
/-- The record behind k states of the queue. -/
def bfsO (T : Nat → Nat → Bool) (x : Sst) : Nat → Sst
  | 0 => x
  | k + 1 => bfsIn T (bfsO T x k) (ix (bfsO T x k).Q k).toNat (rowT T (ix (bfsO T x k).Q k).toNat).length
/-- The record at first. -/
def bfs0 (M : Nat → Bool) : Sst := ⟨fun n => if M n then 0 else -1, fun _ => 0, pick M 448⟩

structure Inv (T : Nat → Nat → Bool) (M : Nat → Bool) (z : Nat) (x : Sst) (k : Nat) : Prop where
  rng : ∀ i, i < x.Q.length → 0 ≤ ix x.Q i ∧ ix x.Q i < z
  mem : ∀ n, n < z → (0 ≤ x.D n ↔ ∃ i, i < x.Q.length ∧ ix x.Q i = n)
  low : ∀ n, -1 ≤ x.D n
  mono : ∀ i j, i ≤ j → j < x.Q.length → x.D (ix x.Q i).toNat ≤ x.D (ix x.Q j).toNat
  top : k < x.Q.length → ∀ j, j < x.Q.length → x.D (ix x.Q j).toNat ≤ x.D (ix x.Q k).toNat + 1
  zero : ∀ n, n < z → (x.D n = 0 ↔ M n = true)
  back : ∀ n, n < z → ∀ j : Nat, x.D n = ((j + 1 : Nat) : Int) → ∃ y, y < z ∧ x.D y = j ∧ T y n = true
  done : ∀ i, i < k → i < x.Q.length → ∀ n, n < z → T (ix x.Q i).toNat n = true → 0 ≤ x.D n ∧ x.D n ≤ x.D (ix x.Q i).toNat + 1
  big : ∀ n, x.D n ≤ x.Q.length
  cnt : x.Q.length ≤ cntTo (fun n => decide (0 ≤ x.D n)) z
/-- What is found stays. -/
structure Ext (x x' : Sst) : Prop where
  len : x.Q.length ≤ x'.Q.length
  at' : ∀ i, i < x.Q.length → ix x'.Q i = ix x.Q i
  keep : ∀ m, 0 ≤ x.D m → x'.D m = x.D m
theorem Ext.refl (x : Sst) : Ext x x := ⟨Nat.le_refl _, fun _ _ => rfl, fun _ _ => rfl⟩
theorem Ext.trans {x y u : Sst} (h : Ext x y) (k : Ext y u) : Ext x u :=
  ⟨Nat.le_trans h.len k.len, fun i hi => (k.at' i (Nat.lt_of_lt_of_le hi h.len)).trans (h.at' i hi), fun m hm => (k.keep m (by rw [h.keep m hm]; exact hm)).trans (h.keep m hm)⟩

section
variable {T : Nat → Nat → Bool} {M : Nat → Bool} {z k a n : Nat} {x : Sst}
theorem Inv.short (h : Inv T M z x k) : x.Q.length ≤ z := Nat.le_trans h.cnt (cnt_le _ _)
theorem Inv.has (h : Inv T M z x k) {i : Nat} (hi : i < x.Q.length) : 0 ≤ x.D (ix x.Q i).toNat ∧ (ix x.Q i).toNat < z ∧ ((ix x.Q i).toNat : Int) = ix x.Q i := by
  have r := h.rng i hi
  refine ⟨(h.mem _ (by omega)).2 ⟨i, hi, by omega⟩, by omega, by omega⟩
theorem stp_new (hD : x.D n = -1) : stp x a n = ⟨upd x.D n (x.D a + 1), upd x.H n a, x.Q ++ [(n : Int)]⟩ := if_pos hD
theorem stp_old (hD : x.D n ≠ -1) : (stp x a n).D = x.D ∧ (stp x a n).Q = x.Q := by
  unfold stp
  rw [if_neg hD]
  split <;> exact ⟨rfl, rfl⟩
theorem inv_same {y : Sst} (hd : y.D = x.D) (hq : y.Q = x.Q) (h : Inv T M z x k) : Inv T M z y k := by
  obtain ⟨D, H, Q⟩ := x
  obtain ⟨D', H', Q'⟩ := y
  simp only at hd hq
  subst hd hq
  exact ⟨h.rng, h.mem, h.low, h.mono, h.top, h.zero, h.back, h.done, h.big, h.cnt⟩
theorem ext_stp : Ext x (stp x a n) := by
  by_cases q : x.D n = -1
  · rw [stp_new q]
    refine ⟨by simp, fun i hi => ix_app_lt hi, fun m hm => upd_other _ _ fun e => ?_⟩
    rw [e] at hm; omega
  · obtain ⟨hd, hq⟩ := stp_old (a := a) q
    exact ⟨by rw [hq]; exact Nat.le_refl _, fun i _ => by rw [hq], fun m _ => by rw [hd]⟩
theorem inv_stp (h : Inv T M z x k) (hk : k < x.Q.length) (ha : a = (ix x.Q k).toNat) (hn : n < z) (ht : T a n = true) :
    Inv T M z (stp x a n) k ∧ 0 ≤ (stp x a n).D n ∧ (stp x a n).D n ≤ (stp x a n).D a + 1 := by
  have hA := h.has hk
  rw [← ha] at hA
  by_cases q : x.D n = -1
  · rw [stp_new q]
    have na : a ≠ n := fun e => by rw [e] at hA; omega
    have hl : (x.Q ++ [(n : Int)]).length = x.Q.length + 1 := by simp
    have old : ∀ i, i < x.Q.length → ix (x.Q ++ [(n : Int)]) i = ix x.Q i := fun i hi => ix_app_lt hi
    have new : ix (x.Q ++ [(n : Int)]) x.Q.length = n := ix_app_at
    have dn : upd x.D n (x.D a + 1) n = x.D a + 1 := upd_at _ _ _
    have dq : ∀ i, i < x.Q.length → upd x.D n (x.D a + 1) (ix x.Q i).toNat = x.D (ix x.Q i).toNat := fun i hi => upd_other _ _ fun e => by
      have := (h.has hi).1
      rw [e] at this; omega
    have dk : ∀ m, 0 ≤ x.D m → upd x.D n (x.D a + 1) m = x.D m := fun m hm => upd_other _ _ fun e => by rw [e] at hm; omega
    have tn : ((n : Int)).toNat = n := by simp
    refine ⟨⟨?_, ?_, ?_, ?_, ?_, ?_, ?_, ?_, ?_, ?_⟩, ?_, ?_⟩
    · intro i hi
      rw [hl] at hi
      by_cases e : i < x.Q.length
      · rw [old i e]; exact h.rng i e
      · obtain rfl : i = x.Q.length := by omega
        rw [new]; omega
    · intro m hm
      show 0 ≤ upd x.D n (x.D a + 1) m ↔ _
      by_cases e : m = n
      · subst e
        rw [dn]
        exact ⟨fun _ => ⟨x.Q.length, by rw [hl]; omega, new⟩, fun _ => by omega⟩
      · rw [upd_other _ _ e, h.mem m hm]
        constructor
        · rintro ⟨i, hi, he⟩
          exact ⟨i, by rw [hl]; omega, by rw [old i hi]; exact he⟩
        · rintro ⟨i, hi, he⟩
          rw [hl] at hi
          by_cases e2 : i < x.Q.length
          · exact ⟨i, e2, by rw [← old i e2]; exact he⟩
          · obtain rfl : i = x.Q.length := by omega
            rw [new] at he; omega
    · intro m
      show -1 ≤ upd x.D n (x.D a + 1) m
      by_cases e : m = n
      · subst e; rw [dn]; omega
      · rw [upd_other _ _ e]; exact h.low m
    · intro i j hij hj
      show upd x.D n (x.D a + 1) _ ≤ upd x.D n (x.D a + 1) _
      rw [hl] at hj
      by_cases e : j < x.Q.length
      · rw [old i (by omega), old j e, dq i (by omega), dq j e]; exact h.mono i j hij e
      · obtain rfl : j = x.Q.length := by omega
        rw [new, tn, dn]
        by_cases e2 : i < x.Q.length
        · rw [old i e2, dq i e2, ha]; exact h.top hk i e2
        · obtain rfl : i = x.Q.length := by omega
          rw [new, tn, dn]; exact Int.le_refl _
    · intro _ j hj
      show upd x.D n (x.D a + 1) _ ≤ upd x.D n (x.D a + 1) _ + 1
      rw [hl] at hj
      rw [old k hk, dq k hk]
      by_cases e : j < x.Q.length
      · rw [old j e, dq j e]; exact h.top hk j e
      · obtain rfl : j = x.Q.length := by omega
        rw [new, tn, dn, ha]; exact Int.le_refl _
    · intro m hm
      show upd x.D n (x.D a + 1) m = 0 ↔ _
      by_cases e : m = n
      · subst e
        have := h.zero m hm
        rw [dn]
        constructor
        · intro e; omega
        · intro e; rw [← this] at e; omega
      · rw [upd_other _ _ e]; exact h.zero m hm
    · intro m hm j hj
      change upd x.D n (x.D a + 1) m = _ at hj
      by_cases e : m = n
      · subst e
        rw [dn] at hj
        exact ⟨a, hA.2.1, by show upd x.D m (x.D a + 1) a = _; rw [upd_other _ _ na]; omega, ht⟩
      · rw [upd_other _ _ e] at hj
        obtain ⟨y, h1, h2, h3⟩ := h.back m hm j hj
        exact ⟨y, h1, (dk y (by omega)).trans h2, h3⟩
    · intro i hik hi m hm hT
      have hi' : i < x.Q.length := by omega
      change T (ix (x.Q ++ [(n : Int)]) i).toNat m = true at hT
      show 0 ≤ upd x.D n (x.D a + 1) m ∧ upd x.D n (x.D a + 1) m ≤ upd x.D n (x.D a + 1) (ix (x.Q ++ [(n : Int)]) i).toNat + 1
      rw [old i hi'] at hT ⊢
      have := h.done i hik hi' m hm hT
      rw [dk m this.1, dq i hi']; exact this
    · intro m
      show upd x.D n (x.D a + 1) m ≤ ((x.Q ++ [(n : Int)]).length : Int)
      rw [hl]
      by_cases e : m = n
      · subst e; rw [dn]; have := h.big a; omega
      · rw [upd_other _ _ e]; have := h.big m; omega
    · show (x.Q ++ [(n : Int)]).length ≤ _
      rw [hl]
      have := h.cnt
      have c := cnt_more (f := fun m => decide (0 ≤ x.D m)) (g := fun m => decide (0 ≤ upd x.D n (x.D a + 1) m)) (x := n) (by simp [q]) (by simp only [dn]; exact decide_eq_true (by omega)) (n := z) hn
        fun m _ hm => by
          simp only [decide_eq_true_eq] at hm ⊢
          rw [dk m hm]; exact hm
      exact Nat.le_trans (Nat.add_le_add_right this 1) c
    · show 0 ≤ upd x.D n (x.D a + 1) n
      rw [dn]; omega
    · show upd x.D n (x.D a + 1) n ≤ upd x.D n (x.D a + 1) a + 1
      rw [dn, upd_other _ _ na]; exact Int.le_refl _
  · obtain ⟨hd, hq⟩ := stp_old (a := a) q
    refine ⟨inv_same hd hq h, ?_⟩
    rw [hd]
    have l := h.low n
    have h0 : 0 ≤ x.D n := by omega
    obtain ⟨i, hi, e⟩ := (h.mem n hn).1 h0
    have := h.top hk i hi
    rw [e, ← ha] at this
    simp at this
    exact ⟨h0, this⟩
end
theorem rowT_at {T : Nat → Nat → Bool} {z : Nat} {a : Nat} (hT : ∀ y n, T y n = true → n < z) {i : Nat} (hi : i < (rowT T a).length) : (ix (rowT T a) i).toNat < z ∧ T a (ix (rowT T a) i).toNat = true ∧ 0 ≤ ix (rowT T a) i := by
  have := pick_range i hi
  exact ⟨hT a _ this.2.2, this.2.2, this.1⟩
theorem inv_in {T : Nat → Nat → Bool} {M : Nat → Bool} {z k : Nat} {x : Sst} (hT : ∀ y n, T y n = true → n < z) (h : Inv T M z x k) (hk : k < x.Q.length) :
    ∀ i, i ≤ (rowT T (ix x.Q k).toNat).length → Inv T M z (bfsIn T x (ix x.Q k).toNat i) k ∧ Ext x (bfsIn T x (ix x.Q k).toNat i) ∧
      ∀ j, j < i → 0 ≤ (bfsIn T x (ix x.Q k).toNat i).D (ix (rowT T (ix x.Q k).toNat) j).toNat ∧ (bfsIn T x (ix x.Q k).toNat i).D (ix (rowT T (ix x.Q k).toNat) j).toNat ≤ (bfsIn T x (ix x.Q k).toNat i).D (ix x.Q k).toNat + 1
  | 0, _ => ⟨h, Ext.refl _, fun j hj => absurd hj (by omega)⟩
  | i + 1, hi => by
    obtain ⟨h1, h2, h3⟩ := inv_in hT h hk i (by omega)
    have r := rowT_at hT (a := (ix x.Q k).toNat) (i := i) (by omega)
    have hk' := Nat.lt_of_lt_of_le hk h2.len
    have ha : (ix x.Q k).toNat = (ix (bfsIn T x (ix x.Q k).toNat i).Q k).toNat := by rw [h2.at' k hk]
    obtain ⟨g1, g2, g3⟩ := inv_stp h1 hk' ha r.1 r.2.1
    have e := ext_stp (x := bfsIn T x (ix x.Q k).toNat i) (a := (ix x.Q k).toNat) (n := (ix (rowT T (ix x.Q k).toNat) i).toNat)
    refine ⟨g1, h2.trans e, fun j hj => ?_⟩
    by_cases q : j = i
    · subst q; exact ⟨g2, g3⟩
    · obtain ⟨f1, f2⟩ := h3 j (by omega)
      have hA := (h1.has hk').1
      rw [← ha] at hA
      show 0 ≤ (stp _ _ _).D _ ∧ (stp _ _ _).D _ ≤ (stp _ _ _).D _ + 1
      rw [e.keep _ f1, e.keep _ hA]; exact ⟨f1, f2⟩
theorem inv_out {T : Nat → Nat → Bool} {M : Nat → Bool} {z k : Nat} {x : Sst} (hz : z ≤ 448) (hT : ∀ y n, T y n = true → n < z) (h : Inv T M z (bfsO T x k) k) (hk : k < (bfsO T x k).Q.length) :
    Inv T M z (bfsO T x (k + 1)) (k + 1) ∧ k + 1 ≤ (bfsO T x (k + 1)).Q.length := by
  obtain ⟨h1, h2, h3⟩ := inv_in hT h hk _ (Nat.le_refl _)
  show Inv T M z (bfsIn T (bfsO T x k) _ _) (k + 1) ∧ k + 1 ≤ (bfsIn T (bfsO T x k) _ _).Q.length
  generalize bfsIn T (bfsO T x k) (ix (bfsO T x k).Q k).toNat (rowT T (ix (bfsO T x k).Q k).toNat).length = y at *
  have hk' := Nat.lt_of_lt_of_le hk h2.len
  have ea := h2.at' k hk
  refine ⟨⟨h1.rng, h1.mem, h1.low, h1.mono, ?_, h1.zero, h1.back, ?_, h1.big, h1.cnt⟩, hk'⟩
  · intro hk2 j hj
    have a1 := h1.top hk' j hj
    have a2 := h1.mono k (k + 1) (by omega) hk2
    omega
  · intro i hi hi2 n hn ht
    by_cases q : i = k
    · subst q
      rw [ea] at ht ⊢
      have hm : (n : Int) ∈ rowT T (ix (bfsO T x i).Q i).toNat := pick_mem.2 ⟨by omega, ht⟩
      obtain ⟨j, hj, e⟩ := mem_ix.1 (memP_iff.2 hm)
      have := h3 j hj
      rw [e] at this
      simpa using this
    · exact h1.done i (by omega) hi2 n hn ht
theorem pick_cnt (P : Nat → Bool) : ∀ m, (pick P m).length = cntTo P m
  | 0 => rfl
  | m + 1 => by
    show (pick P m ++ _).length = cntTo P m + _
    rw [List.length_append, pick_cnt P m]
    split <;> simp
theorem inv_first {T : Nat → Nat → Bool} {M : Nat → Bool} {z : Nat} (hz : z ≤ 448) (hM : ∀ n, M n = true → n < z) : Inv T M z (bfs0 M) 0 := by
  have g : ∀ i, i < (pick M 448).length → 0 ≤ ix (pick M 448) i ∧ ix (pick M 448) i < z ∧ M (ix (pick M 448) i).toNat = true := fun i hi => by
    have q := pick_range i hi
    have := hM _ q.2.2
    exact ⟨by omega, by omega, q.2.2⟩
  have d0 : ∀ i, i < (pick M 448).length → (bfs0 M).D (ix (pick M 448) i).toNat = 0 := fun i hi => if_pos (g i hi).2.2
  refine ⟨fun i hi => ⟨(g i hi).1, (g i hi).2.1⟩, ?_, ?_, ?_, ?_, ?_, ?_, fun i hi => absurd hi (by omega), ?_, ?_⟩
  · intro n hn
    show 0 ≤ (if M n then (0 : Int) else -1) ↔ ∃ i, i < (pick M 448).length ∧ ix (pick M 448) i = n
    rw [← mem_ix, memP_iff, pick_mem]
    cases M n <;> simp <;> omega
  · intro n
    show -1 ≤ (if M n then (0 : Int) else -1)
    split <;> omega
  · intro i j hij hj
    show (bfs0 M).D (ix (pick M 448) i).toNat ≤ (bfs0 M).D (ix (pick M 448) j).toNat
    rw [d0 j hj, d0 i (Nat.lt_of_le_of_lt hij hj)]; exact Int.le_refl _
  · intro h0 j hj
    show (bfs0 M).D (ix (pick M 448) j).toNat ≤ (bfs0 M).D (ix (pick M 448) 0).toNat + 1
    rw [d0 j hj, d0 0 h0]; omega
  · intro n _
    show (if M n then (0 : Int) else -1) = 0 ↔ _
    cases M n <;> simp
  · intro n _ j hj
    change (if M n then (0 : Int) else -1) = _ at hj
    split at hj <;> omega
  · intro n
    show (if M n then (0 : Int) else -1) ≤ _
    split <;> omega
  · show (pick M 448).length ≤ cntTo (fun n => decide (0 ≤ (if M n then (0 : Int) else -1))) z
    rw [pick_gap (n := z) hz fun x a _ => by
      cases q : M x
      · rfl
      · have := hM x q; omega, pick_cnt]
    exact cnt_mono fun n _ h => by rw [h]; rfl
theorem inv_end {T : Nat → Nat → Bool} {M : Nat → Bool} {z k : Nat} {x : Sst} (h : Inv T M z x k) (hk : x.Q.length ≤ k) : ∀ n, n < z → x.D n = dst T M z z n := by
  refine dst_only h.zero (fun n _ => h.low n) (fun n y hn hy ht hf => ?_) h.back
  obtain ⟨i, hi, e⟩ := (h.mem y hy).1 hf
  have := h.done i (by omega) hi n hn (by rw [e]; simpa using ht)
  rw [e] at this
  simpa using this
end Go.Proofs.YtfgjogmgcamfdaaGreatDoor
namespace Go.Proofs.YtfgjogmgcamfdaaGreatDoor

/-- The steps of a system, by numbers. -/
def stepE (s : Sy) : Nat → Nat → Bool := fun y x => nxP s (stL s.vars y) s.rules.length x
/-- How many steps it is to a state. -/
def dstS (s : Sy) (z : Nat) : Nat → Int := dst (stepE s) (oneP (firstN s)) z z
def stepsB (s : Sy) : List Int := if sysB s then lsR (dstS s (sizeB s).toNat) (sizeB s).toNat else []
def reachB (s : Sy) : List Int := if sysB s then pick (fun n => decide (0 ≤ dstS s (sizeB s).toNat n)) (sizeB s).toNat else []
def canE (s : Sy) (P : Nat → Bool) (z : Nat) : Nat → Int := dst (fun y x => stepE s x y) P z z
def canB (s : Sy) (l : List Int) : List Int := if setB s l then pick (fun n => decide (0 ≤ canE s (memP l) (sizeB s).toNat n)) (sizeB s).toNat else []
def alwaysB (s : Sy) (e : List Tm) : Bool := sysB s && kindB e s.vars.length 2 && decide ((mixL gWithout (reachB s) (whereB s e)).length = 0)
def provesB (s : Sy) (e : List Tm) (l : List Int) : Bool := closedB s l && kindB e s.vars.length 2 && decide ((mixL gWithout l (whereB s e)).length = 0)
def stuckB (s : Sy) : List Int := if sysB s then pick (fun n => decide (0 ≤ dstS s (sizeB s).toNat n) && decide ((nextL s (stL s.vars n) s.rules.length).length = 0)) (sizeB s).toNat else []

theorem pickIf_len {b : Bool} {P : Nat → Bool} {z : Nat} (hz : b = true → z ≤ 400) : (if b then pick P z else []).length ≤ 1000000 := by
  cases b
  · simp
  · rw [if_pos rfl]
    have := pick_len P z
    have := hz rfl
    omega
theorem size_to {s : Sy} (h : sysB s = true) : (sizeB s).toNat ≤ 400 := by have := sizeB_bd h; omega
theorem reachB_len (s : Sy) : (reachB s).length ≤ 1000000 := pickIf_len fun h => size_to h
theorem canB_len (s : Sy) (l : List Int) : (canB s l).length ≤ 1000000 := pickIf_len fun h => size_to (by unfold setB at h; rw [Bool.and_eq_true] at h; exact h.1)
theorem stuckB_len (s : Sy) : (stuckB s).length ≤ 1000000 := pickIf_len fun h => size_to h
theorem stepsB_len (s : Sy) : (stepsB s).length ≤ 1000000 := by
  unfold stepsB
  cases h : sysB s
  · simp
  · rw [if_pos rfl, lsR_len]
    have := size_to h
    omega

/-- The table's steps are the system's. -/
theorem dst_tab (s : Sy) (M : Nat → Bool) (z : Nat) {x : Nat} (hx : x < z) : dst (stepT s z) M z z x = dst (stepE s) M z z x :=
  dst_congr (fun y x hy _ => by unfold stepT; rw [if_pos hy]; rfl) (fun _ _ => rfl) z x hx
/-- The rows' steps are the system's. -/
theorem dst_rows {s : Sy} (ok : SysOk s) (M : Nat → Bool) (z : Nat) {x : Nat} (hx : x < z) : dst (rowE (stepsL s z)) M z z x = dst (stepE s) M z z x :=
  dst_congr (fun y x hy _ => by unfold rowE; rw [stepsL_at s hy]; exact row_mem ok) (fun _ _ => rfl) z x hx
theorem stepE_lt {s : Sy} (ok : SysOk s) {z : Nat} (hz : (z : Int) = sizeB s) {y x : Nat} (h : stepE s y x = true) : x < z := by
  obtain ⟨i, hi, e⟩ := (row_ix ok).1 h
  have := row_range ok i hi
  omega
theorem stepT_lt {s : Sy} (ok : SysOk s) {z : Nat} (hz : (z : Int) = sizeB s) : ∀ y x, stepT s z y x = true → x < z := fun y x h => by
  unfold stepT at h
  by_cases q : y < z
  · rw [if_pos q] at h; exact stepE_lt ok hz h
  · rw [if_neg q] at h; cases h
theorem stepT_from {s : Sy} {z : Nat} {y x : Nat} (h : stepT s z y x = true) : y < z := by
  unfold stepT at h
  by_cases q : y < z
  · exact q
  · rw [if_neg q] at h; cases h
/-- What stands in the queue when the search is done. -/
theorem queue_mem {T : Nat → Nat → Bool} {M : Nat → Bool} {z : Nat} {x : Sst} (h : Inv T M z x x.Q.length) (n : Nat) : memP x.Q n = (decide (n < z) && decide (0 ≤ dst T M z z n)) := by
  apply bool_iff
  rw [mem_ix, Bool.and_eq_true, decide_eq_true_eq, decide_eq_true_eq]
  constructor
  · rintro ⟨i, hi, e⟩
    have r := h.rng i hi
    have hn : n < z := by omega
    exact ⟨hn, by rw [← inv_end h (Nat.le_refl _) n hn]; exact (h.mem n hn).2 ⟨i, hi, e⟩⟩
  · rintro ⟨hn, h0⟩
    rw [← inv_end h (Nat.le_refl _) n hn] at h0
    exact (h.mem n hn).1 h0
theorem queue_pick {T : Nat → Nat → Bool} {M : Nat → Bool} {z : Nat} {x : Sst} (hz : z ≤ 448) (h : Inv T M z x x.Q.length) : pick (memP x.Q) 448 = pick (fun n => decide (0 ≤ dst T M z z n)) z := by
  rw [pick_gap (n := z) hz fun n a _ => by rw [queue_mem h, decide_eq_false (by omega), Bool.false_and]]
  exact pick_congr fun n hn => by rw [queue_mem h, decide_eq_true hn, Bool.true_and]

/-- The rows the other way round. -/
def turnL (L : List (List Int)) (z k : Nat) : List (List Int) := (List.range k).map fun n => pick (fun m => memP (el L m) n) z
theorem turnL_len (L : List (List Int)) (z k : Nat) : (turnL L z k).length = k := by simp [turnL]
theorem turnL_succ (L : List (List Int)) (z k : Nat) : turnL L z (k + 1) = turnL L z k ++ [pick (fun m => memP (el L m) k) z] := by unfold turnL; rw [List.range_succ, List.map_append]; rfl
theorem turnL_at (L : List (List Int)) (z : Nat) {k i : Nat} (h : i < k) : el (turnL L z k) i = pick (fun m => memP (el L m) i) z := by
  rw [el_lt (by rw [turnL_len]; exact h)]; simp [turnL]
theorem pick_memP (P : Nat → Bool) (z n : Nat) : memP (pick P z) n = (decide (n < z) && P n) := by
  apply bool_iff
  rw [memP_iff, pick_mem, Bool.and_eq_true, decide_eq_true_eq]
theorem turn_range (L : List (List Int)) {z : Nat} : ∀ n, n < z → ∀ k, k < (el (turnL L z z) n).length → 0 ≤ ix (el (turnL L z z) n) k ∧ ix (el (turnL L z z) n) k < z := fun n hn k hk => by
  rw [turnL_at L z hn] at hk ⊢
  have := pick_range k hk
  exact ⟨this.1, this.2.1⟩
theorem dst_turn {s : Sy} (ok : SysOk s) (M : Nat → Bool) (z : Nat) {x : Nat} (hx : x < z) : dst (rowE (turnL (stepsL s z) z z)) M z z x = canE s M z x :=
  dst_congr (fun y x hy hx => by
    unfold rowE
    rw [turnL_at _ _ hy, pick_memP, decide_eq_true hx, Bool.true_and, stepsL_at s hx]
    exact row_mem ok) (fun _ _ => rfl) z x hx
/-- A table the other way round, behind k rows and i numbers of the next one. -/
def backT (T : Nat → Nat → Bool) (k : Nat) (R : List Int) (i : Nat) : Nat → Nat → Bool := fun m n => (decide (n < k) && T n m) || (decide (n = k) && memP (R.take i) m)
/-- A table the other way round. -/
def turnT (T : Nat → Nat → Bool) : Nat → Nat → Bool := fun m n => decide (n < 400) && T n m
theorem backT_zero (T : Nat → Nat → Bool) (k : Nat) (R : List Int) : backT T k R 0 = fun m n => decide (n < k) && T n m := by
  funext m n
  unfold backT
  simp [memP]
theorem backT_step (T : Nat → Nat → Bool) {k i x : Nat} {R : List Int} (hi : i < R.length) (hx : ix R i = x) : updT (backT T k R i) x (addP (backT T k R i x) k) = backT T k R (i + 1) := by
  funext m n
  unfold updT
  have e : memP (R.take (i + 1)) m = (memP (R.take i) m || decide (m = x)) := by
    rw [take_el hi, show [el R i] = [(x : Int)] by rw [← hx]; rfl, mem_snoc]; rfl
  by_cases q : m = x
  · subst q
    rw [if_pos rfl]
    unfold addP backT
    rw [e, decide_eq_true (rfl : m = m)]
    by_cases p : n = k
    · subst p; simp
    · rw [decide_eq_false p]; simp
  · rw [if_neg q]
    unfold backT
    rw [e, decide_eq_false q, Bool.or_false]
theorem backT_end (T : Nat → Nat → Bool) {k z : Nat} (hz : z ≤ 448) (hT : ∀ y n, T y n = true → n < z) : backT T k (rowT T k) (rowT T k).length = fun m n => decide (n < k + 1) && T n m := by
  funext m n
  unfold backT
  rw [List.take_of_length_le (Nat.le_refl _)]
  have e : memP (rowT T k) m = T k m := by
    unfold rowT
    rw [pick_memP]
    cases h : T k m
    · simp
    · have := hT k m h
      rw [decide_eq_true (by omega)]; rfl
  rw [e]
  by_cases p : n = k
  · subst p
    rw [decide_eq_false (by omega), decide_eq_true rfl, decide_eq_true (by omega)]; simp
  · rw [decide_eq_false p]
    by_cases q : n < k
    · rw [decide_eq_true q, decide_eq_true (by omega)]; simp
    · rw [decide_eq_false q, decide_eq_false (by omega)]; simp
theorem turnT_lt {T : Nat → Nat → Bool} {z : Nat} (h : ∀ y x, T y x = true → y < z) : ∀ y n, turnT T y n = true → n < z := fun y n q => by
  unfold turnT at q
  rw [Bool.and_eq_true] at q
  exact h _ _ q.2
theorem dst_back_tab (s : Sy) (M : Nat → Bool) {z : Nat} (hz : z ≤ 400) {x : Nat} (hx : x < z) : dst (turnT (stepT s z)) M z z x = canE s M z x :=
  dst_congr (fun y x hy hx => by
    unfold turnT stepT
    rw [decide_eq_true (by omega), if_pos hx]; rfl) (fun _ _ => rfl) z x hx
theorem mix_empty {a b : List Int} {P Q : Nat → Bool} (ha : setsB a 400 = true) (hb : setsB b 400 = true) (hp : ∀ x, x < 448 → P x = memP a x) (hq : ∀ x, x < 448 → Q x = memP b x) : emptyB (gWithout P Q) = decide ((mixL gWithout a b).length = 0) := by
  apply bool_iff
  rw [empty_iff, decide_eq_true_eq]
  unfold mixL
  rw [ha, hb, Bool.and_true, if_pos rfl, pick_zero]
  constructor
  · intro h x hx
    have := h x hx
    unfold gWithout at this ⊢
    rw [← hp x hx, ← hq x hx]; exact this
  · intro h x hx
    have := h x hx
    unfold gWithout at this ⊢
    rw [hp x hx, hq x hx]; exact this
theorem cut_where {s : Sy} {e : List Tm} {z : Nat} (hz : sysB s = true) (hk : kindB e s.vars.length 2 = true) (hzz : (z : Int) = sizeB s) (x : Nat) : cutP (whP s e) z x = memP (whereB s e) x := by
  unfold whereB
  rw [hz, hk, Bool.and_true, if_pos rfl, pick_memP, show (sizeB s).toNat = z by omega]
  unfold cutP
  rw [Bool.and_comm]
theorem where_sets {s : Sy} {e : List Tm} : setsB (whereB s e) 400 = true := by
  unfold whereB
  cases h : (sysB s && kindB e s.vars.length 2)
  · rw [if_neg (by simp)]; exact sets_pick (fun _ => false) (m := 0) (by omega)
  · rw [if_pos rfl]
    rw [Bool.and_eq_true] at h
    have := sizeB_bd h.1
    exact sets_pick _ (by omega)
theorem reach_sets {s : Sy} : setsB (reachB s) 400 = true := by
  unfold reachB
  cases h : sysB s
  · rw [if_neg (by simp)]; exact sets_pick (fun _ => false) (m := 0) (by omega)
  · rw [if_pos rfl]
    have := sizeB_bd h
    exact sets_pick _ (by omega)
theorem always_eq {s : Sy} {e : List Tm} {z : Nat} {x : Sst} (hz : sysB s = true) (hk : kindB e s.vars.length 2 = true) (hzz : (z : Int) = sizeB s) (iv : Inv (stepT s z) (oneP (firstN s)) z x x.Q.length) :
    emptyB (gWithout (memP x.Q) (cutP (whP s e) z)) = alwaysB s e := by
  unfold alwaysB
  rw [hz, hk, Bool.and_true, Bool.true_and]
  refine mix_empty reach_sets where_sets (fun n _ => ?_) fun n _ => cut_where hz hk hzz n
  unfold reachB
  rw [hz, if_pos rfl, pick_memP, show (sizeB s).toNat = z by omega, queue_mem iv]
  by_cases q : n < z
  · rw [dst_tab s _ z q]; rfl
  · rw [decide_eq_false q, Bool.false_and, Bool.false_and]
theorem proves_eq {s : Sy} {e : List Tm} {l : List Int} {z : Nat} (hc : closedB s l = true) (hk : kindB e s.vars.length 2 = true) (hzz : (z : Int) = sizeB s) :
    emptyB (gWithout (memP l) (cutP (whP s e) z)) = provesB s e l := by
  unfold provesB
  rw [hc, hk, Bool.true_and, Bool.true_and]
  have h1 : setB s l = true := by
    unfold closedB at hc
    rw [Bool.and_eq_true] at hc
    exact hc.1
  unfold setB at h1
  rw [Bool.and_eq_true] at h1
  have bd := sizeB_bd h1.1
  exact mix_empty (sets_wide h1.2 bd.2) where_sets (fun n _ => rfl) fun n _ => cut_where h1.1 hk hzz n
theorem reach_eq {s : Sy} {z : Nat} {x : Sst} (hz : sysB s = true) (hzz : (z : Int) = sizeB s) (iv : Inv (stepT s z) (oneP (firstN s)) z x x.Q.length) : pick (memP x.Q) 448 = reachB s := by
  have := sizeB_bd hz
  rw [queue_pick (by omega) iv]
  unfold reachB
  rw [hz, if_pos rfl, show (sizeB s).toNat = z by omega]
  exact pick_congr fun n hn => by rw [dst_tab s _ z hn]; rfl
theorem queue_in {T : Nat → Nat → Bool} {M : Nat → Bool} {z : Nat} {x : Sst} (hz : z ≤ 400) (iv : Inv T M z x x.Q.length) : ∀ k, k < x.Q.length → 0 ≤ ix x.Q k ∧ ix x.Q k < 448 := fun k hk => by
  have := iv.rng k hk
  omega
end Go.Proofs.YtfgjogmgcamfdaaGreatDoor
