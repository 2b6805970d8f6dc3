/- Systems: rules, of the program and of the model. -/
import Derived.Test.YthlkbkomecnbaaaSpecKinds3
import Derived.Test.YthlkbkomecnbaaaToSy
namespace Go.Proofs.Ythlkbkomecnbaaa
open Go.RowKit

theorem Blk.new (w : World) (a : Array Value) (t : TypeId) : Blk (w.alloc (.cells a t)) w.heap.size t a.toList := by
  unfold Blk
  show (w.heap.push _)[w.heap.size]? = _
  rw [Array.getElem?_push_size, Array.toArray_toList]

/-- Whether all of the first n are so. -/
def allTo (f : Nat → Bool) : Nat → Bool
  | 0 => true
  | k + 1 => allTo f k && f k
theorem allTo_true {f : Nat → Bool} {n : Nat} : allTo f n = true ↔ ∀ k, k < n → f k = true := by
  induction n with
  | zero => simp [allTo]
  | succ n ih =>
    simp only [allTo, Bool.and_eq_true, ih]
    constructor
    · rintro ⟨h1, h2⟩ k hk
      by_cases e : k = n
      · subst e; exact h2
      · exact h1 k (by omega)
    · intro h; exact ⟨fun k hk => h k (by omega), h n (by omega)⟩
theorem allTo_false {f : Nat → Bool} {n k : Nat} (hk : k < n) (h : f k = false) : allTo f n = false := by
  cases e : allTo f n with
  | false => rfl
  | true => rw [allTo_true.1 e k hk] at h; cases h
theorem allTo_congr {f g : Nat → Bool} {n : Nat} (h : ∀ k, k < n → f k = g k) : allTo f n = allTo g n := by
  induction n with
  | zero => rfl
  | succ n ih => simp only [allTo, ih fun k hk => h k (by omega), h n (by omega)]
theorem bool_iff {a b : Bool} (h : a = true ↔ b = true) : a = b := by cases a <;> cases b <;> simp_all

/-- Whether a variable is one. -/
def varB (v : Vr) : Bool := inB v.low (-9999) 9999 && (inB v.high (-9999) 9999 && (inB v.first v.low v.high && decide (v.high - v.low + 1 ≤ 20)))
theorem varB_iff {v : Vr} : varB v = true ↔ (-9999 ≤ v.low ∧ v.low ≤ 9999) ∧ (-9999 ≤ v.high ∧ v.high ≤ 9999) ∧ (v.low ≤ v.first ∧ v.first ≤ v.high) ∧ v.high - v.low + 1 ≤ 20 := by simp [varB, inB]

theorem has_any (v : Vr) (n : Int) (w : World) : Calls Try.prog 162 #[v.v, .int .i64 n] w (GivesBool w (inB n v.low v.high)) := by
  obtain ⟨a, b, c⟩ := v
  show Calls _ _ #[.agg #[.int .i64 a, .int .i64 b, .int .i64 c], .int .i64 n] w (GivesBool w (inB n a b))
  cases h : inB n a b
  · rcases inB_not.1 h with h | h
    · have d1 : decide (a ≤ n) = false := by simp; omega
      go_enter Try.func162, Try.ntmps162
      go_wp2
      go_ret
      exact ⟨rfl, below_alloc _ _⟩
    · have d2 : decide (n ≤ b) = false := by simp; omega
      by_cases h' : a ≤ n
      · go_enter Try.func162, Try.ntmps162
        go_wp2
        go_ret
        exact ⟨rfl, below_alloc _ _⟩
      · go_enter Try.func162, Try.ntmps162
        go_wp2
        go_ret
        exact ⟨rfl, below_alloc _ _⟩
  · obtain ⟨h1, h2⟩ := inB_iff.1 h
    have d2 : decide (n ≤ b) = true := by simp; omega
    go_enter Try.func162, Try.ntmps162
    go_wp2
    go_ret
    exact ⟨rfl, below_alloc _ _⟩
theorem span_any (v : Vr) (w : World) (h1 : -10000 ≤ v.low) (h2 : v.low ≤ 10000) (h3 : -10000 ≤ v.high) (h4 : v.high ≤ 10000) : Calls Try.prog 178 #[v.v] w (GivesInt w (v.high - v.low + 1)) := by
  obtain ⟨a, b, c⟩ := v
  show Calls _ _ #[.agg #[.int .i64 a, .int .i64 b, .int .i64 c]] w (GivesInt w (b - a + 1))
  dsimp only at h1 h2 h3 h4
  go_enter Try.func178, Try.ntmps178
  go_wp2
  go_ret
  exact ⟨rfl, below_alloc _ _⟩

set_option maxHeartbeats 1000000 in
theorem isOne_any (v : Vr) (w : World) : Calls Try.prog 159 #[v.v] w (GivesBool w (varB v)) := by
  have HH := fun W => has_any v v.first W
  have HS := fun W => span_any v W
  unfold varB
  obtain ⟨a, b, c⟩ := v
  dsimp only at HH HS ⊢
  unfold Vr.v at HH HS ⊢
  dsimp only at HH HS ⊢
  have HH := Lib.hid HH
  have HS := Lib.hid HS
  cases h1 : inB a (-9999) 9999
  · go_enter Try.func159, Try.ntmps159
    go_wp2_with (first | (go_at_call 148; refine (isNumber_any _ _).mono ?_; rintro e w' ⟨rfl, rfl⟩))
    go_ret
    exact ⟨rfl, below_alloc _ _⟩
  cases h2 : inB b (-9999) 9999
  · go_enter Try.func159, Try.ntmps159
    go_wp2_with (first | (go_at_call 148; refine (isNumber_any _ _).mono ?_; rintro e w' ⟨rfl, rfl⟩))
    go_ret
    exact ⟨rfl, below_alloc _ _⟩
  have k1 := inB_iff.1 h1
  have k2 := inB_iff.1 h2
  cases h3 : inB c a b
  all_goals
    have H3 := Lib.hid h3
    clear h3
    by_cases h4 : b - a + 1 ≤ 20
  all_goals
    go_enter Try.func159, Try.ntmps159
    go_wp2_with (first
      | (go_at_call 148; refine (isNumber_any _ _).mono ?_; rintro e w' ⟨rfl, rfl⟩)
      | (go_at_call 162; refine (HH.out _).mono ?_; rintro e w2 ⟨rfl, b2⟩; rw [H3.out]; obtain ⟨hc2, hf2⟩ := bcell b2)
      | (go_at_call 178; refine (HS.out _ (by omega) (by omega) (by omega) (by omega)).mono ?_; rintro e w3 ⟨rfl, b3⟩))
    go_ret
    refine ⟨by simp [h4], ?_⟩
    first
      | exact (below_call b2).trans (b3.mono (by have := b2.size; simp at this; omega))
      | exact below_call b2

set_option maxHeartbeats 1000000 in
theorem l2Var_any (v : Vr) (w : World) : Calls Try.prog 153 #[v.v] w (GivesBool w (varB v)) := by
  have e : varB v = (inB v.low (-9999) 9999 && (inB v.high v.low 9999 && (decide (v.high - v.low < 20) && inB v.first v.low v.high))) := by
    apply bool_iff; rw [varB_iff]; simp [inB]; omega
  rw [e]; clear e
  obtain ⟨a, b, c⟩ := v
  unfold Vr.v
  dsimp only
  cases h1 : inB a (-9999) 9999
  · go_enter Try.func153, Try.ntmps153
    go_wp2_with (first | (go_at_call 48; refine (l1In_any _ _ _ _).mono ?_; rintro e w' ⟨rfl, rfl⟩))
    go_ret
    exact ⟨rfl, below_alloc _ _⟩
  cases h2 : inB b a 9999
  · go_enter Try.func153, Try.ntmps153
    go_wp2_with (first | (go_at_call 48; refine (l1In_any _ _ _ _).mono ?_; rintro e w' ⟨rfl, rfl⟩))
    go_ret
    exact ⟨rfl, below_alloc _ _⟩
  have k1 := inB_iff.1 h1
  have k2 := inB_iff.1 h2
  by_cases h4 : b - a < 20
  all_goals
    cases h3 : inB c a b
  all_goals
    go_enter Try.func153, Try.ntmps153
    go_wp2_with (first | (go_at_call 48; refine (l1In_any _ _ _ _).mono ?_; rintro e w' ⟨rfl, rfl⟩))
    go_ret
    exact ⟨by simp [h4], below_alloc _ _⟩
end Go.Proofs.Ythlkbkomecnbaaa
namespace Go.Proofs.Ythlkbkomecnbaaa
open Go.RowKit

/-- Whether the last kind is k. -/
def lastB (ks : List Int) (k : Int) : Bool := decide (0 < ks.length) && (ix ks (ks.length - 1) == k)
/-- Whether an expression is of kind k. -/
def kindB (l : List Tm) (vars k : Int) : Bool := lastB (kindsOf l vars) k

theorem isOfKind_any (A : Option Addr) (n c : Nat) (l : List Tm) (vars k : Int) (w : World) (h : Mem.rd w w.heap.size [.slice A n c] l) :
    Calls Try.prog 179 #[.slice A n c, .int .i64 vars, .int .i64 k] w (GivesBool w (kindB l vars k)) := by
  have HK := Lib.hid (kindsOf_impl A n c l vars w (rd_tms.1 h).2 (rd_max h))
  unfold kindB
  clear h
  have hkl := kinds_len l vars
  generalize kindsOf l vars = ks at HK hkl ⊢
  obtain ⟨m, hm⟩ : ∃ m, m = ks.length := ⟨_, rfl⟩
  cases m with
  | zero =>
    have e : lastB ks k = false := by unfold lastB; rw [← hm]; rfl
    rw [e]; clear e
    have HM := Lib.hid hm; clear hm
    go_enter Try.func179, Try.ntmps179
    go_wp2_with fail
    refine (HK.out).mono ?_
    rintro e w1 ⟨v, rfl, o1, b1⟩
    rw [← HM.out] at o1
    obtain ⟨A1, c1, rfl, _, _⟩ := own_form o1
    go_wp2
    go_ret
    exact ⟨rfl, b1⟩
  | succ m =>
    have hm40 : m ≤ 40 := by omega
    clear hkl
    cases e0 : ix ks m == k
    all_goals
      have e : lastB ks k = (ix ks m == k) := by unfold lastB; rw [← hm]; simp
      rw [e, e0]; clear e
      have HM := Lib.hid hm; clear hm
      go_enter Try.func179, Try.ntmps179
      go_wp2_with fail
      refine (HK.out).mono ?_
      rintro e w1 ⟨v, rfl, o1, b1⟩
      rw [← HM.out] at o1
      obtain ⟨A1, c1, rfl, _, _⟩ := own_form o1
      obtain ⟨ad, rfl, _, hc⟩ := (Rd.of_own o1).int (k := m) (by omega)
      go_wp2
      try (go_quiet (fail))
      try go_wp2
      go_ret
      exact ⟨rfl, b1⟩
theorem l2Is_any (A : Option Addr) (n c : Nat) (l : List Tm) (vars k : Int) (w : World) (h : Mem.rd w w.heap.size [.slice A n c] l) :
    Calls Try.prog 176 #[.slice A n c, .int .i64 vars, .int .i64 k] w (GivesBool w (kindB l vars k)) := by
  have HK := Lib.hid (kindsOf_spec A n c l vars w (rd_tms.1 h).2 (rd_max h))
  unfold kindB
  clear h
  have hkl := kinds_len l vars
  generalize kindsOf l vars = ks at HK hkl ⊢
  obtain ⟨m, hm⟩ : ∃ m, m = ks.length := ⟨_, rfl⟩
  cases m with
  | zero =>
    have e : lastB ks k = false := by unfold lastB; rw [← hm]; rfl
    rw [e]; clear e
    have HM := Lib.hid hm; clear hm
    go_enter Try.func176, Try.ntmps176
    go_wp2_with fail
    refine (HK.out).mono ?_
    rintro e w1 ⟨v, rfl, o1, b1⟩
    rw [← HM.out] at o1
    obtain ⟨A1, c1, rfl, _, _⟩ := own_form o1
    go_wp2
    go_ret
    exact ⟨rfl, b1⟩
  | succ m =>
    have hm40 : m ≤ 40 := by omega
    clear hkl
    cases e0 : ix ks m == k
    all_goals
      have e : lastB ks k = (ix ks m == k) := by unfold lastB; rw [← hm]; simp
      rw [e, e0]; clear e
      have HM := Lib.hid hm; clear hm
      go_enter Try.func176, Try.ntmps176
      go_wp2_with fail
      refine (HK.out).mono ?_
      rintro e w1 ⟨v, rfl, o1, b1⟩
      rw [← HM.out] at o1
      obtain ⟨A1, c1, rfl, _, _⟩ := own_form o1
      obtain ⟨ad, rfl, _, hc⟩ := (Rd.of_own o1).int (k := m) (by omega)
      go_wp2
      try (go_quiet (fail))
      try go_wp2
      go_ret
      exact ⟨rfl, b1⟩

/-- The least that may stand at a place. -/
def lo (l : List Int) : Nat → Int
  | 0 => 0
  | k + 1 => ix l k + 1
def ascOk (l : List Int) (vars : Int) (k : Nat) : Bool := decide (lo l k ≤ ix l k) && decide (ix l k < vars)
/-- Whether numbers are variables, ascending. -/
def setsB (l : List Int) (vars : Int) : Bool := allTo (ascOk l vars) l.length
theorem asc_at {l : List Int} {vars : Int} {n : Nat} (h : allTo (ascOk l vars) n = true) : ∀ k, k < n → (k : Int) ≤ ix l k ∧ ix l k < vars ∧ lo l k ≤ ix l k := by
  intro k
  induction k with
  | zero =>
    intro hk
    have := allTo_true.1 h 0 hk
    simp only [ascOk, Bool.and_eq_true, decide_eq_true_eq] at this
    have e : lo l 0 = 0 := rfl
    omega
  | succ k ih =>
    intro hk
    have h1 := ih (by omega)
    have := allTo_true.1 h (k + 1) hk
    simp only [ascOk, Bool.and_eq_true, decide_eq_true_eq] at this
    have e : lo l (k + 1) = ix l k + 1 := rfl
    omega
theorem lo_bd {l : List Int} {vars : Int} {n : Nat} (h : allTo (ascOk l vars) n = true) (hv : 0 ≤ vars) : 0 ≤ lo l n ∧ lo l n ≤ vars := by
  cases n with
  | zero => exact ⟨Int.le_refl _, hv⟩
  | succ n =>
    have := asc_at h n (by omega)
    have e : lo l (n + 1) = ix l n + 1 := rfl
    omega

set_option maxHeartbeats 1000000 in
theorem areVariables_any (A : Option Addr) (n c : Nat) (l : List Int) (vars : Int) (w : World) (h : Mem.rd w w.heap.size [.slice A n c] l) (v0 : 0 ≤ vars) (v1 : vars ≤ 9000) :
    Calls Try.prog 180 #[.slice A n c, .int .i64 vars] w (GivesBool w (setsB l vars)) := by
  have hm := rd_max h
  have hl := rd_len h
  unfold maxLen at hm
  unfold setsB
  rw [hl]
  have h' := (rd_ints.1 h).2
  clear h hl
  go_enter Try.func180, Try.ntmps180
  go_wp2
  go_loopg [5, 10] n (fun m y i wr => ∃ k : Nat, k + m = n ∧ i = .int .i64 k ∧ y = .int .i64 (lo l k) ∧ Hid (allTo (ascOk l vars) k = true) ∧ wr = w)
  case atStart => exact ⟨0, by omega, rfl, rfl, Lib.hid rfl, rfl⟩
  case round =>
    obtain ⟨k, hk, rfl, rfl, ha, rfl⟩ := hrel
    by_cases hlt : k < n
    · obtain ⟨ad, rfl, _, hc⟩ := h'.int hlt
      have hb := lo_bd ha.out v0
      have hlo : lo l (k + 1) = ix l k + 1 := rfl
      have HN : Hid (allTo (ascOk l vars) (k + 1) = ascOk l vars k) := Lib.hid (by simp [allTo, ha.out])
      cases hz : ascOk l vars k
      · have hf : allTo (ascOk l vars) n = false := allTo_false hlt hz
        have HF := Lib.hid hf; clear hf
        unfold ascOk at hz
        generalize ix l k = x at *
        generalize lo l k = y at *
        clear hlo
        by_cases q : x < y
        · clear hz
          go_wp2
          go_ret
          exact ⟨(congrArg (fun b => Ending.returned (.bool b)) HF.out).symm, Below.refl _ _⟩
        · have q2 : vars ≤ x := by simp at hz; omega
          clear hz
          go_wp2
          go_ret
          exact ⟨(congrArg (fun b => Ending.returned (.bool b)) HF.out).symm, Below.refl _ _⟩
      · rw [hz] at HN
        unfold ascOk at hz
        have HL := Lib.hid hlo
        clear hlo
        generalize ix l k = x at *
        generalize lo l k = y at *
        simp only [Bool.and_eq_true, decide_eq_true_eq] at hz
        obtain ⟨q1, q2⟩ := hz
        go_wp2
        go_roundg (n - (k + 1))
        case measure => omega
        case rel => exact ⟨k + 1, by omega, by go_num, by rw [HL.out], HN, rfl⟩
    · obtain rfl : k = n := by omega
      go_wp2
      go_ret
      exact ⟨(congrArg (fun b => Ending.returned (.bool b)) ha.out).symm, Below.refl _ _⟩

/-- Whether a rule is one over so many variables. -/
def ruleB (r : Rl) (vars : Int) : Bool := kindB r.cond vars 2 && (setsB r.sets vars && (decide (r.terms.length = r.sets.length) && allTo (fun i => kindB (el r.terms i) vars 1) r.terms.length))
theorem rule_bad {r : Rl} {vars : Int} {k : Nat} (hk : k < r.terms.length) (h : kindB (el r.terms k) vars 1 = false) : ruleB r vars = false := by
  unfold ruleB
  rw [allTo_false (f := fun i => kindB (el r.terms i) vars 1) hk h]; simp

set_option maxHeartbeats 2000000 in
theorem isOver_any (r : Rl) (A1 : Option Addr) (n1 c1 : Nat) (A2 : Option Addr) (n2 c2 : Nat) (A3 : Option Addr) (n3 c3 : Nat) (vars : Int) (w : World) (h1 : Mem.rd w w.heap.size [.slice A1 n1 c1] r.cond) (h2 : Mem.rd w w.heap.size [.slice A2 n2 c2] r.sets)
    (h3 : Mem.rd w w.heap.size [.slice A3 n3 c3] r.terms) (v0 : 0 ≤ vars) (v1 : vars ≤ 9000) :
    Calls Try.prog 160 #[.agg #[.slice A1 n1 c1, .slice A2 n2 c2, .slice A3 n3 c3], .int .i64 vars] w (GivesBool w (ruleB r vars)) := by
  have m2 := rd_max h2
  have m3 := rd_max h3
  unfold maxLen at m2 m3
  have L2 := rd_len h2
  have L3 := rd_len h3
  have BX : Hid (∀ W, Below (w.alloc (.cells #[.slice A1 n1 c1, .slice A2 n2 c2, .slice A3 n3 c3] 150)).heap.size (w.alloc (.cells #[.slice A1 n1 c1, .slice A2 n2 c2, .slice A3 n3 c3] 150)) W →
      Below w.heap.size w W ∧ W.cell? ⟨w.heap.size, 0, none⟩ = some (.slice A1 n1 c1) ∧ W.cell? ⟨w.heap.size, 1, none⟩ = some (.slice A2 n2 c2) ∧ W.cell? ⟨w.heap.size, 2, none⟩ = some (.slice A3 n3 c3)) :=
    Lib.hid fun W hW => ⟨below_call hW, ((Blk.new w _ _).below hW (by simp)).cell 0, ((Blk.new w _ _).below hW (by simp)).cell 1, ((Blk.new w _ _).below hW (by simp)).cell 2⟩
  cases g1 : kindB r.cond vars 2
  · have e : ruleB r vars = false := by unfold ruleB; rw [g1]; rfl
    have E := Lib.hid e; clear e
    have G1 := Lib.hid g1; clear g1 L2 L3
    go_enter Try.func160, Try.ntmps160
    go_wp2_with fail
    refine (isOfKind_any A1 n1 c1 r.cond vars 2 _ (Mem.rd_on_alloc h1 _)).mono ?_
    rintro e w2 ⟨rfl, b2⟩
    rw [G1.out]
    go_wp2
    go_ret
    exact ⟨(congrArg (fun b => Ending.returned (.bool b)) E.out).symm, below_call b2⟩
  cases g2 : setsB r.sets vars
  · have e : ruleB r vars = false := by unfold ruleB; rw [g1, g2]; rfl
    have E := Lib.hid e; clear e
    have G1 := Lib.hid g1; clear g1 L2 L3
    have G2 := Lib.hid g2; clear g2
    go_enter Try.func160, Try.ntmps160
    go_wp2_with fail
    refine (isOfKind_any A1 n1 c1 r.cond vars 2 _ (Mem.rd_on_alloc h1 _)).mono ?_
    rintro e w2 ⟨rfl, b2⟩
    rw [G1.out]
    obtain ⟨B2, x0, x1, x2⟩ := BX.out w2 b2
    go_wp2_with fail
    refine (areVariables_any A2 n2 c2 r.sets vars _ (Mem.rd_on h2 B2) v0 v1).mono ?_
    rintro e w3 ⟨rfl, b3⟩
    rw [G2.out]
    go_wp2
    go_ret
    exact ⟨(congrArg (fun b => Ending.returned (.bool b)) E.out).symm, B2.trans (b3.mono B2.size)⟩
  by_cases g3 : n3 = n2
  · subst g3
    have e : ruleB r vars = allTo (fun i => kindB (el r.terms i) vars 1) n3 := by unfold ruleB; rw [g1, g2, L2, L3]; simp
    have E := Lib.hid e; clear e
    have G1 := Lib.hid g1; clear g1
    have G2 := Lib.hid g2; clear g2
    have L3 := Lib.hid L3
    clear L2
    go_enter Try.func160, Try.ntmps160
    go_wp2_with fail
    refine (isOfKind_any A1 n1 c1 r.cond vars 2 _ (Mem.rd_on_alloc h1 _)).mono ?_
    rintro e w2 ⟨rfl, b2⟩
    rw [G1.out]
    obtain ⟨B2, x0, x1, x2⟩ := BX.out w2 b2
    go_wp2_with fail
    refine (areVariables_any A2 n3 c2 r.sets vars _ (Mem.rd_on h2 B2) v0 v1).mono ?_
    rintro e w3 ⟨rfl, b3⟩
    rw [G2.out]
    obtain ⟨B3, y0, y1, y2⟩ := BX.out w3 (b2.trans (b3.mono b2.size))
    clear x0 x1 x2
    go_wp2
    go_loopg [31] n3 (fun m i wr => ∃ k : Nat, k + m = n3 ∧ i = .int .i64 k ∧ Hid (allTo (fun i => kindB (el r.terms i) vars 1) k = true) ∧ Below w.heap.size w wr)
    case atStart => exact ⟨0, by omega, rfl, Lib.hid rfl, B3⟩
    case round =>
      obtain ⟨k, hk, rfl, ha, hb⟩ := hrel
      by_cases hlt : k < n3
      · obtain ⟨ad, A4, n4, c4, rfl, _, hc, hr⟩ := ll_at (Mem.rd_below h3 hb) hlt
        have hr := Mem.rd_more hr hb.size
        cases hz : kindB (el r.terms k) vars 1
        · have hf := Lib.hid (rule_bad (by rw [L3.out]; exact hlt) hz)
          have HZ := Lib.hid hz; clear hz
          go_wp2_with fail
          refine (isOfKind_any A4 n4 c4 (el r.terms k) vars 1 _ hr).mono ?_
          rintro e w4 ⟨rfl, b4⟩
          rw [HZ.out]
          go_wp2
          go_ret
          exact ⟨(congrArg (fun b => Ending.returned (.bool b)) hf.out).symm, hb.trans (b4.mono hb.size)⟩
        · have hf : Hid (allTo (fun i => kindB (el r.terms i) vars 1) (k + 1) = true) := Lib.hid (by simp only [allTo, ha.out, hz]; rfl)
          have HZ := Lib.hid hz; clear hz
          go_wp2_with fail
          refine (isOfKind_any A4 n4 c4 (el r.terms k) vars 1 _ hr).mono ?_
          rintro e w4 ⟨rfl, b4⟩
          rw [HZ.out]
          go_wp2
          go_roundg (n3 - (k + 1))
          case measure => omega
          case rel => exact ⟨k + 1, by omega, by go_num, hf, hb.trans (b4.mono hb.size)⟩
      · obtain rfl : k = n3 := by omega
        have E2 := Lib.hid (E.out.trans ha.out)
        go_wp2
        go_ret
        exact ⟨(congrArg (fun b => Ending.returned (.bool b)) E2.out).symm, hb⟩
  · have e : ruleB r vars = false := by unfold ruleB; rw [L2, L3, decide_eq_false g3]; simp
    have E := Lib.hid e; clear e
    have G1 := Lib.hid g1; clear g1 L2 L3
    have G2 := Lib.hid g2; clear g2
    have q : ((n3 : Int) != n2) = true := by simp; omega
    have q' : ((n3 : Nat) != n2) = true := by simp; omega
    go_enter Try.func160, Try.ntmps160
    go_wp2_with fail
    refine (isOfKind_any A1 n1 c1 r.cond vars 2 _ (Mem.rd_on_alloc h1 _)).mono ?_
    rintro e w2 ⟨rfl, b2⟩
    rw [G1.out]
    obtain ⟨B2, x0, x1, x2⟩ := BX.out w2 b2
    go_wp2_with fail
    refine (areVariables_any A2 n2 c2 r.sets vars _ (Mem.rd_on h2 B2) v0 v1).mono ?_
    rintro e w3 ⟨rfl, b3⟩
    rw [G2.out]
    obtain ⟨B3, y0, y1, y2⟩ := BX.out w3 (b2.trans (b3.mono b2.size))
    clear x0 x1 x2
    go_wp2
    go_ret
    exact ⟨(congrArg (fun b => Ending.returned (.bool b)) E.out).symm, B3⟩
end Go.Proofs.Ythlkbkomecnbaaa
