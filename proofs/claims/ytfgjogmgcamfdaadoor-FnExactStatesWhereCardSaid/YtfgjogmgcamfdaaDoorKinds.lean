/- The kinds of the terms of an expression: impl.KindsOf, impl.TermsValid. -/
import Derived.Test.YtfgjogmgcamfdaaDoorLeaf
import Derived.Deep.LoopGhost
namespace Go.Proofs.YtfgjogmgcamfdaaDoor
open Go.RowKit

theorem int_info : (Tryd.prog.info? 3).map (fun i => (i.zero, i.size, i.bytes)) = some (some (.int .i64 0), 1, 8) := by kernel_rfl
/-- int's row of the table of types, under a name. -/
noncomputable def intRow : TypeInfo := Classical.choose (info_parts int_info)
theorem int_row : Tryd.prog.info? 3 = some intRow ∧ intRow.zero = some (.int .i64 0) ∧ intRow.size = 1 ∧ intRow.bytes = 8 := Classical.choose_spec (info_parts int_info)

/-- 'append(v, z)' onto a row of int of the call's own. -/
theorem app_int {ops : Array Oper} {rest : List Oper} {o : Oper} {a : Act} {Q : Exit → Act → World → Prop} {w : World} (hgd : o.guard = none) (s x : Operand)
    (ho : o.op = .call { callee := .builtin .append, args := #[s, x], argTypes := #[29, 29] }) (base : Nat) (v : Value) (k : Nat) (l : List Int) (z : Int)
    (hs : a.eval s = v) (hown : w.ownsRow base 3 1 v k (ints l)) (hx : a.eval x = .slice (some ⟨w.heap.size, 0, none⟩) 1 1) (hk : k < 1000000000000) (hb : base ≤ w.heap.size)
    (h : ∀ v' w', w'.ownsRow base 3 1 v' (k + 1) (ints (l ++ [z])) → Below base w w' → wpList Tryd.prog ops Q rest (a.put o.dst v') w') :
    wpList Tryd.prog ops Q (o :: rest) a (w.alloc (.cells #[.int .i64 z] 3)) := by
  refine wpList_append_own _ hgd s x 29 ho base 3 intRow (.int .i64 0) 1 8 Tryd.underlying29 int_row.1 int_row.2.1 int_row.2.2.1 int_row.2.2.2 rfl (by decide) v k _ hs (hown.alloc _) ⟨w.heap.size, 0, none⟩ 1 1 [.int .i64 z] hx rfl ?_ ?_ (by unfold maxLen; omega) (by omega) (by simp; omega) ?_
  · intro j u hu
    cases j with
    | zero => rw [add_zero', World.cell?_alloc_at _ _ _ _ rfl]; simpa using hu
    | succ j => simp at hu
  · intro u hu; simp at hu; subst hu; rfl
  · intro v' w' h1 h2 _
    refine h v' w' (by simpa [ints] using h1) ?_
    exact ((Below.refl base w).alloc hb _).grown h2 (by simp; omega) (fun g hg => (hown.lt g hg).1)

/-- The kinds of the first k terms, while all are well. -/
def kindsTo (l : List Tm) (vars : Int) : Nat → Option (List Int)
  | 0 => some []
  | k + 1 => match kindsTo l vars k with
    | none => none
    | some ks => if kind (tx l k) ks vars = 0 then none else some (ks ++ [kind (tx l k) ks vars])
theorem kindsTo_len {l : List Tm} {vars : Int} : ∀ {k : Nat} {ks : List Int}, kindsTo l vars k = some ks → ks.length = k
  | 0, ks, h => by simp [kindsTo] at h; subst h; rfl
  | k + 1, ks, h => by
    simp only [kindsTo] at h
    cases hk : kindsTo l vars k with
    | none => rw [hk] at h; cases h
    | some ks' =>
      rw [hk] at h
      dsimp only at h
      split at h
      · cases h
      · injection h with h; subst h; simp [kindsTo_len hk]
theorem kindsTo_none {l : List Tm} {vars : Int} {k : Nat} (h : kindsTo l vars k = none) : ∀ n, k ≤ n → kindsTo l vars n = none := by
  intro n hn
  induction n with
  | zero => obtain rfl : k = 0 := by omega
            exact h
  | succ n ih =>
    by_cases e : k = n + 1
    · subst e; exact h
    · simp only [kindsTo, ih (by omega)]
/-- Whether so many terms over so many variables may be an expression. -/
def sizesOk (n : Nat) (vars : Int) : Bool := decide (0 ≤ vars) && decide (vars ≤ 5) && decide (1 ≤ n) && decide (n ≤ 40)
/-- The kinds of the terms of an expression; nothing if it is none. -/
def kindsOf (l : List Tm) (vars : Int) : List Int := if sizesOk l.length vars then (kindsTo l vars l.length).getD [] else []

/-- The call gives a new slice of these numbers. -/
def GivesInts (w : World) (ks : List Int) (e : Ending) (w' : World) : Prop := ∃ v, e = .returned v ∧ w'.ownsRow w.heap.size 3 1 v ks.length (ints ks) ∧ Below w.heap.size w w'

set_option maxHeartbeats 1000000 in
theorem kindsOf_impl (A : Option Addr) (n c : Nat) (l : List Tm) (vars : Int) (w : World) (h : Rd w w.heap.size 4 A n (tms l)) (hn : n ≤ maxLen) :
    Calls Tryd.prog 96 #[.slice A n c, .int .i64 vars] w (GivesInts w (kindsOf l vars)) := by
  unfold maxLen at hn
  by_cases g : vars < 0 ∨ 5 < vars ∨ n < 1 ∨ 40 < n
  · have e : kindsOf l vars = [] := by
      unfold kindsOf
      rw [h.tlen, if_neg (by simp [sizesOk]; omega)]
    rw [e]
    clear e h
    have hd : decide (vars < 0) = true ∨ decide (vars < 0) = false := by cases decide (vars < 0) <;> simp
    go_enter Tryd.func96, Tryd.ntmps96
    go_wp2
    all_goals (go_ret; exact ⟨_, rfl, World.ownsRow_nil _ _ _ _, Below.refl _ _⟩)
  · have g1 : 0 ≤ vars := by omega
    have g2 : vars ≤ 5 := by omega
    have g3 : 1 ≤ n := by omega
    have g4 : n ≤ 40 := by omega
    clear g
    have d1 : decide (vars < 0) = false := decide_eq_false (by omega)
    have d2 : decide (5 < vars) = false := decide_eq_false (by omega)
    have d3 : decide ((n : Int) < 1) = false := decide_eq_false (by omega)
    have d4 : decide (40 < (n : Int)) = false := decide_eq_false (by omega)
    go_enter Tryd.func96, Tryd.ntmps96
    go_wp2_with (first | (at_make; refine wpList_make_own _ rfl _ _ 29 rfl w.heap.size 3 intRow _ 1 Tryd.underlying29 int_row.1 int_row.2.1 int_row.2.2.1 _ _ _ n rfl rfl (by omega) (by rw [int_row.2.2.2]; omega) (by unfold maxLen; omega) (Nat.le_refl _) ?_; intro w1 hown hg))
    have hbw := (Below.refl w.heap.size w).grown hg (Nat.le_refl _) (by simp)
    clear hg
    go_loopg [5, 30] n (fun m v i wr => ∃ (k : Nat) (ks : List Int), k + m = n ∧ i = .int .i64 k ∧ Hid (kindsTo l vars k = some ks) ∧ wr.ownsRow w.heap.size 3 1 v k (ints ks) ∧ Below w.heap.size w wr)
    case atStart => exact ⟨0, [], by omega, rfl, Lib.hid rfl, hown, hbw⟩
    case round =>
      obtain ⟨k, ks, hk, rfl, hto, hown', hb⟩ := hrel
      clear hown hbw
      by_cases hlt : k < n
      · obtain ⟨A', c', rfl, _, hR⟩ := own_form hown'
        obtain ⟨ad, rfl, _, h0, h1, h2, h3⟩ := (h.below hb).tm hlt
        have hR' := fun o : Obj => (hR.alloc (Nat.le_refl _) o).more (B' := (wr.alloc o).heap.size) (by simp)
        have HR := Lib.hid hR'; clear hR'
        cases hz : kind (tx l k) ks vars == 0
        · go_wp2_with (first
            | (go_at_call 111; refine (kindOf_any (tx l k) A' k c' ks vars _ (HR.out _)).mono ?_; rintro e w2 ⟨rfl, hb2⟩
               have hb3 := below_call hb2)
            | (at_builtin; refine app_int rfl _ _ rfl w.heap.size _ k ks _ rfl (own_below hown' hb3) rfl (by omega) (by have := hb.size; have := hb3.size; omega) ?_; intro v' w3 hown3 hb4))
          have hf : kindsTo l vars (k + 1) = some (ks ++ [kind (tx l k) ks vars]) := by
            simp only [kindsTo, hto.out]; rw [if_neg (by simpa using hz)]
          go_roundg (n - (k + 1))
          case measure => omega
          case rel => exact ⟨k + 1, _, by omega, by go_num, Lib.hid hf, hown3, (hb.trans (hb3.mono hb.size)).trans hb4⟩
        · have hf : kindsTo l vars (k + 1) = none := by
            simp only [kindsTo, hto.out]; rw [if_pos (by simpa using hz)]
          have HF := Lib.hid hf; clear hf
          go_wp2_with (first
            | (go_at_call 111; refine (kindOf_any (tx l k) _ k c' ks vars _ (HR.out _)).mono ?_; rintro e w2 ⟨rfl, hb2⟩
               have hb3 := below_call hb2))
          go_ret
          have e : kindsOf l vars = [] := by unfold kindsOf; rw [kindsTo_none HF.out _ (by rw [h.tlen]; omega)]; simp
          rw [e]
          exact ⟨_, rfl, World.ownsRow_nil _ _ _ _, hb.trans (hb3.mono hb.size)⟩
      · obtain rfl : k = n := by omega
        go_wp2
        go_ret
        have e : kindsOf l vars = ks := by
          unfold kindsOf
          rw [if_pos (by rw [h.tlen]; simp [sizesOk]; omega), h.tlen, hto.out]; rfl
        rw [e]
        exact ⟨_, rfl, by rw [kindsTo_len hto.out]; exact hown', hb⟩
end Go.Proofs.YtfgjogmgcamfdaaDoor
