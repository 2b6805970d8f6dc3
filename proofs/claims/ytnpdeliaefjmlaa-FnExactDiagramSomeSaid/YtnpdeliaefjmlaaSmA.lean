/- Diagrams: DiagramSome: the fold, and which numbers are variables, ascending. -/
import Derived.Test.YtnpdeliaefjmlaaDgZ
import Derived.BigQuiet
import Derived.Deep.RegionHeld3
namespace Go.Proofs.Ytnpdeliaefjmlaa
open Go.RowKit
set_option maxRecDepth 100000

/-! ### The fold (plain) -/
/-- What is true for some value of a variable. -/
noncomputable def smR (d : Dg) (n v : Int) : Dg × Int :=
  if (runF 3 13 d n v).2 < 0 then (d, -1) else
  if (runF 4 13 (runF 3 13 d n v).1 n v).2 < 0 then (d, -1) else
  runF 2 13 (runF 4 13 (runF 3 13 d n v).1 n v).1 (runF 3 13 d n v).2 (runF 4 13 (runF 3 13 d n v).1 n v).2
/-- The same for the first k variables of a list. -/
noncomputable def smK (d : Dg) (n : Int) (l : List Int) : Nat → Dg × Int
  | 0 => (d, n)
  | k + 1 => if (smK d n l k).2 < 0 then smK d n l k else smR (smK d n l k).1 (smK d n l k).2 (ix l k)
theorem smR_ok {d : Dg} (ok : d.Ok) {n v : Int} (p : isP d n = true) (h : varIn d v = true) (hx : 0 ≤ (smR d n v).2) :
    (smR d n v).1.Ok ∧ isP (smR d n v).1 (smR d n v).2 = true ∧ (smR d n v).1.vars = d.vars := by
  have g0 : fitA d 3 n v := fit_fix (x := 0) (by decide) p h
  have g1 : fitA d 4 n v := fit_fix (x := 1) (by decide) p h
  unfold smR at hx ⊢
  by_cases c0 : (runF 3 13 d n v).2 < 0
  · rw [if_pos c0] at hx; exact absurd hx (by show ¬ (0 : Int) ≤ -1; decide)
  · rw [if_neg c0] at hx ⊢
    obtain ⟨E0, K0, P0, _⟩ := run_ok ok g0 (rk_13 ok g0) (by omega)
    have g1' := g1.ext E0
    by_cases c1 : (runF 4 13 (runF 3 13 d n v).1 n v).2 < 0
    · rw [if_pos c1] at hx; exact absurd hx (by show ¬ (0 : Int) ≤ -1; decide)
    · rw [if_neg c1] at hx ⊢
      obtain ⟨E1, K1, P1, _⟩ := run_ok K0 g1' (rk_13 K0 g1') (by omega)
      have g2 : fitA (runF 4 13 (runF 3 13 d n v).1 n v).1 2 (runF 3 13 d n v).2 (runF 4 13 (runF 3 13 d n v).1 n v).2 := ⟨by decide, by decide, E1.isP P0, fun _ => P1, fun q => by omega, fun q => by omega, fun q => by omega⟩
      obtain ⟨E2, K2, P2, _⟩ := run_ok K1 g2 (rk_13 K1 g2) hx
      exact ⟨K2, P2, by rw [E2.vars, E1.vars, E0.vars]⟩
theorem smK_neg {d : Dg} {n : Int} {l : List Int} {k : Nat} (h : (smK d n l k).2 < 0) : ∀ m, k ≤ m → smK d n l m = smK d n l k
  | 0, hm => by rw [show k = 0 by omega]
  | m + 1, hm => by
    by_cases e : k = m + 1
    · rw [e]
    · have := smK_neg h m (by omega)
      show (if (smK d n l m).2 < 0 then smK d n l m else _) = _
      rw [this, if_pos h]
theorem smK_ok {d : Dg} (ok : d.Ok) {n : Int} (p : isP d n = true) {l : List Int} : ∀ {k : Nat}, (∀ j, j < k → varIn d (ix l j) = true) → 0 ≤ (smK d n l k).2 →
    (smK d n l k).1.Ok ∧ isP (smK d n l k).1 (smK d n l k).2 = true ∧ (smK d n l k).1.vars = d.vars
  | 0, _, _ => ⟨ok, p, rfl⟩
  | k + 1, hv, hx => by
    have e : smK d n l (k + 1) = if (smK d n l k).2 < 0 then smK d n l k else smR (smK d n l k).1 (smK d n l k).2 (ix l k) := rfl
    by_cases c : (smK d n l k).2 < 0
    · rw [e, if_pos c] at hx; omega
    · rw [e, if_neg c] at hx ⊢
      obtain ⟨K, P, V⟩ := smK_ok ok p (k := k) (fun j hj => hv j (by omega)) (by omega)
      have hk : varIn (smK d n l k).1 (ix l k) = true := by unfold varIn; rw [V]; exact hv k (by omega)
      obtain ⟨K2, P2, V2⟩ := smR_ok K P hk hx
      exact ⟨K2, P2, V2.trans V⟩

/-! ### Variables, ascending -/
def allV (f : Nat → Bool) : Nat → Bool
  | 0 => true
  | k + 1 => allV f k && f k
theorem allV_true {f : Nat → Bool} {n : Nat} : allV f n = true ↔ ∀ k, k < n → f k = true := by
  induction n with
  | zero => simp [allV]
  | succ n ih =>
    simp only [allV, Bool.and_eq_true, ih]
    constructor
    · rintro ⟨h1, h2⟩ k hk
      by_cases e : k = n
      · subst e; exact h2
      · exact h1 k (by omega)
    · intro h; exact ⟨fun k hk => h k (by omega), h n (by omega)⟩
theorem allV_false {f : Nat → Bool} {n k : Nat} (hk : k < n) (h : f k = false) : allV f n = false := by
  cases e : allV f n with
  | false => rfl
  | true => rw [allV_true.1 e k hk] at h; cases h
/-- The least that may stand at a place. -/
def loV (l : List Int) : Nat → Int
  | 0 => 0
  | k + 1 => ix l k + 1
def okV (l : List Int) (vars : Int) (k : Nat) : Bool := decide (loV l k ≤ ix l k) && decide (ix l k < vars)
/-- Whether numbers are variables, ascending. -/
def setV (l : List Int) (vars : Int) : Bool := allV (okV l vars) l.length
theorem okV_at {l : List Int} {vars : Int} {n : Nat} (h : allV (okV l vars) n = true) : ∀ k, k < n → (k : Int) ≤ ix l k ∧ ix l k < vars ∧ loV l k ≤ ix l k := by
  intro k
  induction k with
  | zero =>
    intro hk
    have := allV_true.1 h 0 hk
    simp only [okV, Bool.and_eq_true, decide_eq_true_eq] at this
    have e : loV l 0 = 0 := rfl
    omega
  | succ k ih =>
    intro hk
    have h1 := ih (by omega)
    have := allV_true.1 h (k + 1) hk
    simp only [okV, Bool.and_eq_true, decide_eq_true_eq] at this
    have e : loV l (k + 1) = ix l k + 1 := rfl
    omega
theorem loV_bd {l : List Int} {vars : Int} {n : Nat} (h : allV (okV l vars) n = true) (hv : 0 ≤ vars) : 0 ≤ loV l n ∧ loV l n ≤ vars := by
  cases n with
  | zero => exact ⟨Int.le_refl _, hv⟩
  | succ n =>
    have := okV_at h n (by omega)
    have e : loV l (n + 1) = ix l n + 1 := rfl
    omega
theorem okV_spec {l : List Int} {vars : Int} {k : Nat} (h : allV (okV l vars) k = true) : okV l vars k = (inB (ix l k) 0 (vars - 1) && (decide (k = 0) || decide (ix l (k - 1) < ix l k))) := by
  apply Bool.eq_iff_iff.2
  unfold okV inB
  cases k with
  | zero => have e : loV l 0 = 0 := rfl
            rw [e]; simp; omega
  | succ k =>
    have := okV_at h k (by omega)
    have e : loV l (k + 1) = ix l k + 1 := rfl
    rw [e]
    simp; omega
theorem setV_long {l : List Int} {vars : Int} (h : setV l vars = true) (v0 : 0 ≤ vars) : (l.length : Int) ≤ vars := by
  unfold setV at h
  cases n : l.length with
  | zero => omega
  | succ m => rw [n] at h; have := okV_at h m (by omega); omega
theorem setV_in {d : Dg} {l : List Int} (h : setV l d.vars = true) : ∀ j, j < l.length → varIn d (ix l j) = true := fun j hj => by
  have := okV_at h j hj
  unfold varIn
  rw [decide_eq_true_eq]; omega

set_option maxHeartbeats 4000000 in
theorem areVars_any (A : Option Addr) (n c : Nat) (l : List Int) (vars : Int) (w : World) (h : Mem.rd w w.heap.size [.slice A n c] l) (v0 : 0 ≤ vars) (v1 : vars ≤ 9000) :
    Calls Try.prog 79 #[.slice A n c, .int .i64 vars] w (GivesBool w (setV l vars)) := by
  have hm := rd_max h
  have hl := rd_len h
  unfold maxLen at hm
  unfold setV
  rw [hl]
  have h' := (rd_ints.1 h).2
  clear h hl
  go_enter Try.func79, Try.ntmps79
  go_wp2
  go_loopg [5, 10] n (fun m y i wr => ∃ k : Nat, k + m = n ∧ i = .int .i64 k ∧ y = .int .i64 (loV l k) ∧ Hid (allV (okV l vars) k = true) ∧ wr = w)
  case atStart => exact ⟨0, by omega, rfl, rfl, Lib.hid rfl, rfl⟩
  case round =>
    obtain ⟨k, hk, rfl, rfl, ha, rfl⟩ := hrel
    by_cases hlt : k < n
    · obtain ⟨ad, rfl, _, hc⟩ := h'.int hlt
      have hb := loV_bd ha.out v0
      have hlo : loV l (k + 1) = ix l k + 1 := rfl
      have HN : Hid (allV (okV l vars) (k + 1) = okV l vars k) := Lib.hid (by simp [allV, ha.out])
      cases hz : okV l vars k
      · have hf : allV (okV l vars) n = false := allV_false hlt hz
        have HF := Lib.hid hf; clear hf
        unfold okV at hz
        generalize ix l k = x at *
        generalize loV l k = y at *
        clear hlo
        by_cases q : x < y
        · clear hz
          go_wp2
          go_ret
          exact ⟨(congrArg (fun b => Ending.returned (.bool b)) HF.out).symm, Below.refl _ _⟩
        · have q2 : vars ≤ x := by simp at hz; omega
          clear hz
          go_wp2
          go_ret
          exact ⟨(congrArg (fun b => Ending.returned (.bool b)) HF.out).symm, Below.refl _ _⟩
      · rw [hz] at HN
        unfold okV at hz
        have HL := Lib.hid hlo
        clear hlo
        generalize ix l k = x at *
        generalize loV l k = y at *
        simp only [Bool.and_eq_true, decide_eq_true_eq] at hz
        obtain ⟨q1, q2⟩ := hz
        go_wp2
        go_roundg (n - (k + 1))
        case measure => omega
        case rel => exact ⟨k + 1, by omega, by go_num, by rw [HL.out], HN, rfl⟩
    · obtain rfl : k = n := by omega
      go_wp2
      go_ret
      exact ⟨(congrArg (fun b => Ending.returned (.bool b)) ha.out).symm, Below.refl _ _⟩


set_option maxHeartbeats 40000000 in
theorem l8Vars_any (d : Dg) (A : Option Addr) (n c : Nat) (A2 : Option Addr) (n2 c2 : Nat) (l : List Int) (w : World) (h : Mem.rd w w.heap.size [.slice A2 n2 c2] l) (v0 : 0 ≤ d.vars) (v1 : d.vars ≤ 9000) :
    Calls Try.prog 77 #[.agg #[.int .i64 d.vars, .slice A n c], .slice A2 n2 c2] w (GivesBool w (setV l d.vars)) := by
  have hm := rd_max h
  have hl := rd_len h
  unfold maxLen at hm
  unfold setV
  rw [hl]
  have h' := (rd_ints.1 h).2
  have BX := Lib.hid (ci_box (w := w) (v1 := .int .i64 d.vars) (v2 := .slice A n c) (t := 46))
  have wv : IntKind.i64.wrap (d.vars - 1) = d.vars - 1 := IntWalk.i64_in _ (by omega)
  obtain ⟨V, hV⟩ : ∃ V, V = d.vars := ⟨_, rfl⟩
  clear h hl
  go_enter Try.func77, Try.ntmps77
  go_wp2
  go_loopg [5] n2 (fun m i wr => ∃ k : Nat, k + m = n2 ∧ i = .int .i64 k ∧ Hid (allV (okV l d.vars) k = true) ∧ Below (w.alloc (.cells #[.int .i64 d.vars, .slice A n c] 46)).heap.size (w.alloc (.cells #[.int .i64 d.vars, .slice A n c] 46)) wr)
  case atStart => exact ⟨0, by omega, rfl, Lib.hid rfl, Below.refl _ _⟩
  case round =>
    obtain ⟨k, hk, rfl, ha, hb⟩ := hrel
    obtain ⟨B, x0, x1⟩ := BX.out _ hb
    by_cases hlt : k < n2
    · obtain ⟨ad', rfl, hbl', hc'⟩ := (h'.below B).int hlt
      have hsp := okV_spec ha.out
      have hsz : w.heap.size < wr.heap.size := by have := hb.size; simp at this; omega
      have kn : (k : Int) < n2 := by omega
      cases q1 : inB (ix l k) 0 (d.vars - 1)
      · have hf : allV (okV l d.vars) n2 = false := allV_false hlt (by rw [hsp, q1]; rfl)
        have HF := Lib.hid hf; clear hf hsp
        have Q1 := Lib.hid q1; clear q1
        go_wp2
        go_quiet ((go_at_call 54; exact Calls.quiet_of_same ((l1In_any _ _ _ _).mono fun _ _ h => ⟨h.1.trans (by rw [Q1.out]), h.2.symm⟩)))
        go_wp2
        go_ret
        exact ⟨(congrArg (fun b => Ending.returned (.bool b)) HF.out).symm, B.trans ⟨rfl, rfl, rfl, Nat.le_refl _, fun _ _ => rfl⟩⟩
      have Q1 := Lib.hid q1
      by_cases k0 : k = 0
      · have hasc : okV l d.vars k = true := by rw [hsp, q1, decide_eq_true k0]; rfl
        have kz' : ¬ (0 : Int) < (k : Int) := by omega
        have kd : decide ((0 : Int) < (k : Int)) = false := decide_eq_false kz'
        have kd' : decide (0 < k) = false := decide_eq_false (by omega)
        clear q1 hsp k0
        have HA : Hid (allV (okV l d.vars) (k + 1) = true) := Lib.hid (by show (allV (okV l d.vars) k && okV l d.vars k) = true; rw [ha.out, hasc]; rfl)
        clear hasc
        go_wp2
        go_quiet ((go_at_call 54; exact Calls.quiet_of_same ((l1In_any _ _ _ _).mono fun _ _ h => ⟨h.1.trans (by rw [Q1.out]), h.2.symm⟩)))
        go_wp2
        go_roundg (n2 - (k + 1))
        case measure => omega
        case rel => exact ⟨k + 1, by omega, by go_num, HA, hb.trans ⟨rfl, rfl, rfl, Nat.le_refl _, fun _ _ => rfl⟩⟩
      · have kz : (0 : Int) < (k : Int) := by omega
        have kd : decide ((0 : Int) < (k : Int)) = true := decide_eq_true kz
        have kd' : decide (0 < k) = true := decide_eq_true (by omega)
        have wk : IntKind.i64.wrap ((k : Int) - 1) = ((k - 1 : Nat) : Int) := by rw [show (k : Int) - 1 = ((k - 1 : Nat) : Int) by omega]; exact IntWalk.i64_in _ (by omega)
        obtain ⟨ad2, e2, hbl2, hc2⟩ := (h'.below B).int (k := k - 1) (by omega)
        injection e2 with e2
        subst e2
        have k1n : ((k - 1 : Nat) : Int) < n2 := by omega
        cases q3 : decide (ix l k ≤ ix l (k - 1))
        · have hasc : okV l d.vars k = true := by rw [hsp, q1]; have := of_decide_eq_false q3; rw [decide_eq_true (show ix l (k - 1) < ix l k by omega)]; simp
          clear q1 hsp k0
          have HA : Hid (allV (okV l d.vars) (k + 1) = true) := Lib.hid (by show (allV (okV l d.vars) k && okV l d.vars k) = true; rw [ha.out, hasc]; rfl)
          clear hasc
          go_wp2
          go_quiet ((go_at_call 54; exact Calls.quiet_of_same ((l1In_any _ _ _ _).mono fun _ _ h => ⟨h.1.trans (by rw [Q1.out]), h.2.symm⟩)))
          go_wp2
          go_roundg (n2 - (k + 1))
          case measure => omega
          case rel => exact ⟨k + 1, by omega, by go_num, HA, hb.trans ⟨rfl, rfl, rfl, Nat.le_refl _, fun _ _ => rfl⟩⟩
        · have hf : allV (okV l d.vars) n2 = false := allV_false hlt (by rw [hsp, q1]; have := of_decide_eq_true q3; rw [decide_eq_false (show ¬ ix l (k - 1) < ix l k by omega), decide_eq_false k0]; rfl)
          have HF := Lib.hid hf; clear hf hsp q1 k0
          go_wp2
          go_quiet ((go_at_call 54; exact Calls.quiet_of_same ((l1In_any _ _ _ _).mono fun _ _ h => ⟨h.1.trans (by rw [Q1.out]), h.2.symm⟩)))
          go_wp2
          go_ret
          exact ⟨(congrArg (fun b => Ending.returned (.bool b)) HF.out).symm, B.trans ⟨rfl, rfl, rfl, Nat.le_refl _, fun _ _ => rfl⟩⟩
    · obtain rfl : k = n2 := by omega
      have kk : ¬ (k : Int) < k := by omega
      go_wp2
      go_ret
      exact ⟨(congrArg (fun b => Ending.returned (.bool b)) ha.out).symm, B⟩
end Go.Proofs.Ytnpdeliaefjmlaa
