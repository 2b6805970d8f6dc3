/- Sets of states, of the program and of the model. -/
import Derived.Test.YtnhjcokmajejcaaSysH
import Derived.Test.YtnhjcokmajejcaaPt
import Derived.Test.YtnhjcokmajejcaaSysC
import Derived.Deep.QuietTactic
import Derived.BigQuiet
namespace Go.Proofs.Ytnhjcokmajejcaa
open Go.RowKit

/-- How many states a system has; 0 if it is none. -/
def sizeOf (s : Sy) : Int := if sysB s then sizeB s else 0

set_option maxRecDepth 100000 in
set_option maxHeartbeats 2000000 in
theorem sizeOf_spec (s : Sy) (A1 : Option Addr) (n1 c1 : Nat) (A2 : Option Addr) (n2 c2 : Nat) (w : World) (h1 : Mem.rd w w.heap.size [.slice A1 n1 c1] s.vars) (h2 : Mem.rd w w.heap.size [.slice A2 n2 c2] s.rules) :
    Calls Try.prog 77 #[.agg #[.slice A1 n1 c1, .slice A2 n2 c2]] w (GivesInt w (sizeOf s)) := by
  have L1 := Lib.hid (rd_len h1)
  have BX := Lib.hid (sy_box (w := w) (v1 := .slice A1 n1 c1) (v2 := .slice A2 n2 c2))
  have SV := Lib.hid (fun o => sysValid_spec s A1 n1 c1 A2 n2 c2 (w.alloc o) (Mem.rd_on_alloc h1 o) (Mem.rd_on_alloc h2 o))
  unfold sizeOf
  cases hz : sysB s
  · have HZ := Lib.hid hz; clear hz
    go_enter Try.func77, Try.ntmps77
    go_wp2_with fail
    refine (SV.out _).mono ?_
    rintro e w2 ⟨rfl, b2⟩
    rw [HZ.out]
    go_wp2
    go_ret
    exact ⟨rfl, below_call b2⟩
  · have ok := sys_ok hz
    have HZ := Lib.hid hz; clear hz
    rw [L1.out] at ok
    obtain ⟨⟨_, g2, _⟩, hv, _⟩ := ok
    have HV := Lib.hid hv; clear hv
    have E : Hid (sizeB s = prodTo s.vars n1) := Lib.hid (by unfold sizeB; rw [L1.out])
    go_enter Try.func77, Try.ntmps77
    go_wp2_with fail
    refine (SV.out _).mono ?_
    rintro e w2 ⟨rfl, b2⟩
    rw [HZ.out]
    obtain ⟨B2, z0, z1⟩ := BX.out _ b2
    go_wp2
    go_loopg [3, 4] n1 (fun m x i wr => ∃ k : Nat, k + m = n1 ∧ i = .int .i64 k ∧ x = .int .i64 (prodTo s.vars k) ∧ Below (w.alloc (.cells #[.slice A1 n1 c1, .slice A2 n2 c2] 33)).heap.size (w.alloc (.cells #[.slice A1 n1 c1, .slice A2 n2 c2] 33)) wr)
    case atStart => exact ⟨0, by omega, rfl, rfl, b2⟩
    case round =>
      clear z0 z1 B2
      obtain ⟨k, hk, rfl, rfl, hb⟩ := hrel
      obtain ⟨B, x0, x1⟩ := BX.out _ hb
      by_cases hlt : k < n1
      · obtain ⟨ad, rfl, hbl, d0, d1, d2⟩ := vr_at (Mem.rd_below h1 B) hlt
        have hvk := varB_iff.1 (allTo_true.1 HV.out k hlt)
        have hp := prod_bd5 (l := s.vars) (k := k) (allTo_true.2 fun i hi => allTo_true.1 HV.out i (by omega)) (by omega)
        have HP : Hid (prodTo s.vars (k + 1) = prodTo s.vars k * ((el s.vars k).high - (el s.vars k).low + 1)) := Lib.hid rfl
        generalize el s.vars k = v at *
        obtain ⟨a, b, c⟩ := v
        dsimp only at HP hvk d0 d1 d2
        generalize prodTo s.vars k = p at *
        have hb1 : p * (b - a + 1) ≤ 3200000 * 20 := Int.mul_le_mul (by omega) (by omega) (by omega) (by omega)
        have hb0 : 0 ≤ p * (b - a + 1) := Int.mul_nonneg (by omega) (by omega)
        have wv1 : IntKind.i64.wrap (b - a) = b - a := IntWalk.i64_in _ (by omega)
        have wv2 : IntKind.i64.wrap (b - a + 1) = b - a + 1 := IntWalk.i64_in _ (by omega)
        have wv3 : IntKind.i64.wrap (p * (b - a + 1)) = p * (b - a + 1) := IntWalk.i64_in _ (by omega)
        go_wp2
        go_quiet (fail)
        go_wp2
        go_roundg (n1 - (k + 1))
        case measure => omega
        case rel => exact ⟨k + 1, by omega, by go_num, by rw [HP.out], hb.trans ⟨rfl, rfl, rfl, Nat.le_refl _, fun _ _ => rfl⟩⟩
      · obtain rfl : k = n1 := by omega
        go_wp2
        go_ret
        exact ⟨(congrArg (fun z => Ending.returned (.int .i64 z)) E.out).symm, B⟩


end Go.Proofs.Ytnhjcokmajejcaa
namespace Go.Proofs.Ytnhjcokmajejcaa
open Go.RowKit

/-- How many values a variable has. -/
def spn (v : Vr) : Int := v.high - v.low + 1
/-- The number that the first k values have. -/
def numTo (l : List Vr) (st : List Int) : Nat → Int
  | 0 => 0
  | k + 1 => numTo l st k * ((el l k).high - (el l k).low + 1) + ix st k - (el l k).low
theorem num_bd {l : List Vr} {st : List Int} (hv : ∀ k, k < l.length → varB (el l k) = true) (h : ∀ k, k < l.length → (el l k).low ≤ ix st k ∧ ix st k ≤ (el l k).high) :
    ∀ {k : Nat}, k ≤ l.length → 0 ≤ numTo l st k ∧ numTo l st k + 1 ≤ prodTo l k := by
  intro k
  induction k with
  | zero => intro _; exact ⟨Int.le_refl _, by show (0 : Int) + 1 ≤ 1; omega⟩
  | succ k ih =>
    intro hk
    obtain ⟨a, b⟩ := ih (by omega)
    have v := varB_iff.1 (hv k (by omega))
    have c := h k (by omega)
    have e1 : numTo l st (k + 1) = numTo l st k * ((el l k).high - (el l k).low + 1) + ix st k - (el l k).low := rfl
    have e2 : prodTo l (k + 1) = prodTo l k * ((el l k).high - (el l k).low + 1) := rfl
    rw [e1, e2]
    generalize numTo l st k = x at *
    generalize prodTo l k = p at *
    generalize (el l k).high = hi at *
    generalize (el l k).low = lo at *
    have h1 := Int.mul_le_mul_of_nonneg_right (show x + 1 ≤ p from b) (show 0 ≤ hi - lo + 1 by omega)
    have h2 := Int.mul_nonneg a (show 0 ≤ hi - lo + 1 by omega)
    rw [Int.add_mul] at h1
    omega
theorem prod_mono {l : List Vr} (hv : ∀ k, k < l.length → varB (el l k) = true) {k : Nat} : ∀ {n : Nat}, k ≤ n → n ≤ l.length → prodTo l k ≤ prodTo l n := by
  intro n
  induction n with
  | zero =>
    intro h _
    have e : k = 0 := by omega
    rw [e]
    exact Int.le_refl _
  | succ n ih =>
    intro h hn
    by_cases e : k = n + 1
    · subst e; exact Int.le_refl _
    · have a := ih (by omega) (by omega)
      have v := varB_iff.1 (hv n (by omega))
      have e2 : prodTo l (n + 1) = prodTo l n * ((el l n).high - (el l n).low + 1) := rfl
      have p1 := (prod_bd (l := l) (k := n) (allTo_true.2 fun i hi => hv i (by omega))).1
      rw [e2]
      have hz : 1 ≤ (el l n).high - (el l n).low + 1 := by omega
      generalize (el l n).high - (el l n).low + 1 = z at hz ⊢
      have h1 := Int.mul_le_mul_of_nonneg_left hz (show 0 ≤ prodTo l n by omega)
      omega
theorem num_sys {s : Sy} {st : List Int} (ok : SysOk s) (h : hasB s.vars st = true) {k : Nat} (hk : k ≤ s.vars.length) : 0 ≤ numTo s.vars st k ∧ numTo s.vars st k < 400 := by
  obtain ⟨a, b⟩ := num_bd (st := st) ok.vars (has_at h) hk
  have c := prod_mono ok.vars hk (Nat.le_refl _)
  have d := ok.size
  unfold sizeB at d
  omega
/-- The number of a state. -/
def numL (s : Sy) (st : List Int) : Int := numTo s.vars st s.vars.length
def numB (s : Sy) (st : List Int) : Int := if inRangeB s st then numL s st else -1

/-- What is left of a number when the last m variables are taken away. -/
def remTo (l : List Vr) (n : Int) : Nat → Int
  | 0 => n
  | m + 1 => remTo l n m / ((el l (l.length - 1 - m)).high - (el l (l.length - 1 - m)).low + 1)
/-- A state with the last m variables laid by a number. -/
def layTo (l : List Vr) (n : Int) (base : List Int) : Nat → List Int
  | 0 => base
  | m + 1 => (layTo l n base m).set (l.length - 1 - m) ((el l (l.length - 1 - m)).low + remTo l n m % ((el l (l.length - 1 - m)).high - (el l (l.length - 1 - m)).low + 1))
theorem lay_len (l : List Vr) (n : Int) (base : List Int) : ∀ m, (layTo l n base m).length = base.length
  | 0 => rfl
  | m + 1 => by show ((layTo l n base m).set _ _).length = _; rw [List.length_set, lay_len]
/-- The state with a number. -/
def stL (l : List Vr) (n : Int) : List Int := layTo l n (List.replicate l.length 0) l.length
theorem stL_len (l : List Vr) (n : Int) : (stL l n).length = l.length := by unfold stL; rw [lay_len]; simp
theorem lay_ix (l : List Vr) (n : Int) (base : List Int) (hb : base.length = l.length) : ∀ m, m ≤ l.length → ∀ j, j < l.length →
    ix (layTo l n base m) j = if l.length - m ≤ j then (el l j).low + remTo l n (l.length - 1 - j) % ((el l j).high - (el l j).low + 1) else ix base j
  | 0, _, j, hj => by rw [if_neg (by omega)]; rfl
  | m + 1, hm, j, hj => by
    show ix ((layTo l n base m).set _ _) j = _
    rw [ix_set (by rw [lay_len]; omega), lay_ix l n base hb m (by omega) j hj]
    by_cases e : l.length - 1 - m = j
    · rw [if_pos e, if_pos (by omega)]
      subst e
      rw [show l.length - 1 - (l.length - 1 - m) = m by omega]
    · rw [if_neg e]
      by_cases q : l.length - m ≤ j
      · rw [if_pos q, if_pos (by omega)]
      · rw [if_neg q, if_neg (by omega)]
theorem lay_all (l : List Vr) (n : Int) (base : List Int) (hb : base.length = l.length) : layTo l n base l.length = stL l n := by
  apply List.ext_getElem?
  intro j
  by_cases hj : j < l.length
  · have h1 : j < (layTo l n base l.length).length := by rw [lay_len]; omega
    have h2 : j < (stL l n).length := by rw [stL_len]; omega
    rw [List.getElem?_eq_getElem h1, List.getElem?_eq_getElem h2, ← ix_lt h1, ← ix_lt h2]
    unfold stL
    rw [lay_ix l n base hb _ (Nat.le_refl _) j hj, lay_ix l n _ (by simp) _ (Nat.le_refl _) j hj, if_pos (by omega), if_pos (by omega)]
  · rw [List.getElem?_eq_none (by rw [lay_len]; omega), List.getElem?_eq_none (by rw [stL_len]; omega)]
theorem stL_ix (l : List Vr) (n : Int) {j : Nat} (hj : j < l.length) : ix (stL l n) j = (el l j).low + remTo l n (l.length - 1 - j) % ((el l j).high - (el l j).low + 1) := by
  unfold stL
  rw [lay_ix l n _ (by simp) _ (Nat.le_refl _) j hj, if_pos (by omega)]
theorem rem_bd {l : List Vr} {n : Int} (hv : ∀ k, k < l.length → varB (el l k) = true) (h0 : 0 ≤ n) : ∀ {m : Nat}, m ≤ l.length → 0 ≤ remTo l n m ∧ remTo l n m ≤ n := by
  intro m
  induction m with
  | zero => intro _; exact ⟨h0, Int.le_refl _⟩
  | succ m ih =>
    intro hm
    obtain ⟨a, b⟩ := ih (by omega)
    have v := varB_iff.1 (hv (l.length - 1 - m) (by omega))
    show 0 ≤ remTo l n m / _ ∧ remTo l n m / _ ≤ n
    have h1 := Int.ediv_nonneg a (show 0 ≤ (el l (l.length - 1 - m)).high - (el l (l.length - 1 - m)).low + 1 by omega)
    have h2 := Int.ediv_le_self ((el l (l.length - 1 - m)).high - (el l (l.length - 1 - m)).low + 1) a
    omega
theorem stL_has {l : List Vr} (n : Int) (hv : ∀ k, k < l.length → varB (el l k) = true) : hasB l (stL l n) = true := by
  rw [hasB_all (stL_len _ _), allTo_true]
  intro k hk
  have v := varB_iff.1 (hv k hk)
  rw [stL_ix l n hk]
  have h1 := Int.emod_nonneg (remTo l n (l.length - 1 - k)) (show (el l k).high - (el l k).low + 1 ≠ 0 by omega)
  have h2 := Int.emod_lt_of_pos (remTo l n (l.length - 1 - k)) (show 0 < (el l k).high - (el l k).low + 1 by omega)
  simp [inB]; omega
/-- The state with a number of a system; nothing if there is none. -/
def stateAtB (s : Sy) (n : Int) : List Int := if sysB s && (decide (0 ≤ n) && decide (n < sizeB s)) then stL s.vars n else []
theorem stateAtB_len (s : Sy) (n : Int) : (stateAtB s n).length ≤ 1000000 := by
  unfold stateAtB
  cases hz : sysB s
  · simp
  · have ok := sysOk_of hz
    have := ok.hi
    split
    · rw [stL_len]; omega
    · simp
/-- Whether numbers are a set of states. -/
def setB (s : Sy) (l : List Int) : Bool := sysB s && setsB l (sizeB s)
end Go.Proofs.Ytnhjcokmajejcaa
namespace Go.Proofs.Ytnhjcokmajejcaa
open Go.RowKit

theorem sizeB_bd {s : Sy} (h : sysB s = true) : 1 ≤ sizeB s ∧ sizeB s ≤ 400 := by
  have ok := sysOk_of h
  exact ⟨(prod_bd (l := s.vars) (k := s.vars.length) (allTo_true.2 fun i hi => ok.vars i hi)).1, ok.size⟩

theorem setValid_impl (s : Sy) (l : List Int) (A1 : Option Addr) (n1 c1 : Nat) (A2 : Option Addr) (n2 c2 : Nat) (A3 : Option Addr) (n3 c3 : Nat) (w : World) (h1 : Mem.rd w w.heap.size [.slice A1 n1 c1] s.vars) (h2 : Mem.rd w w.heap.size [.slice A2 n2 c2] s.rules) (h3 : Mem.rd w w.heap.size [.slice A3 n3 c3] l) :
    Calls Try.prog 39 #[.agg #[.slice A1 n1 c1, .slice A2 n2 c2], .slice A3 n3 c3] w (GivesBool w (setB s l)) := by
  have L1 := Lib.hid (rd_len h1)
  have BX := Lib.hid (sy_box (w := w) (v1 := .slice A1 n1 c1) (v2 := .slice A2 n2 c2))
  have SV := Lib.hid (fun o => sysValid_impl s A1 n1 c1 A2 n2 c2 (w.alloc o) (Mem.rd_on_alloc h1 o) (Mem.rd_on_alloc h2 o))
  unfold setB
  cases hz : sysB s
  · have HZ := Lib.hid hz; clear hz
    go_enter Try.func39, Try.ntmps39
    go_wp2_with fail
    refine (SV.out _).mono ?_
    rintro e w2 ⟨rfl, b2⟩
    rw [HZ.out]
    go_wp2
    go_ret
    exact ⟨rfl, below_call b2⟩
  · have ok := sys_ok hz
    have SB := Lib.hid (sizeB_bd hz)
    have HZ := Lib.hid hz; clear hz
    rw [L1.out] at ok
    obtain ⟨⟨_, g2, _⟩, hv, _⟩ := ok
    have HV := Lib.hid hv; clear hv
    go_enter Try.func39, Try.ntmps39
    go_wp2_with fail
    refine (SV.out _).mono ?_
    rintro e w2 ⟨rfl, b2⟩
    rw [HZ.out]
    obtain ⟨B2, x0, x1⟩ := BX.out _ b2
    go_wp2_with fail
    refine (size_any s A1 n1 c1 A2 n2 c2 w2 (Mem.rd_on h1 B2) g2 HV.out).mono ?_
    rintro e w3 ⟨rfl, b3⟩
    have B3 := B2.trans (b3.mono B2.size)
    go_wp2_with fail
    refine (areVariables_any A3 n3 c3 l (sizeB s) w3 (Mem.rd_on h3 B3) (by have := SB.out; omega) (by have := SB.out; omega)).mono ?_
    rintro e w4 ⟨rfl, b4⟩
    go_wp2
    go_ret
    exact ⟨by simp, B3.trans (b4.mono B3.size)⟩

set_option maxRecDepth 100000 in
set_option maxHeartbeats 4000000 in
theorem setValid_spec (s : Sy) (l : List Int) (A1 : Option Addr) (n1 c1 : Nat) (A2 : Option Addr) (n2 c2 : Nat) (A3 : Option Addr) (n3 c3 : Nat) (w : World) (h1 : Mem.rd w w.heap.size [.slice A1 n1 c1] s.vars) (h2 : Mem.rd w w.heap.size [.slice A2 n2 c2] s.rules) (h3 : Mem.rd w w.heap.size [.slice A3 n3 c3] l) :
    Calls Try.prog 34 #[.agg #[.slice A1 n1 c1, .slice A2 n2 c2], .slice A3 n3 c3] w (GivesBool w (setB s l)) := by
  have m3 := rd_max h3
  unfold maxLen at m3
  have L3 := rd_len h3
  have SZ := Lib.hid (fun o => sizeOf_spec s A1 n1 c1 A2 n2 c2 (w.alloc o) (Mem.rd_on_alloc h1 o) (Mem.rd_on_alloc h2 o))
  obtain ⟨z, hz⟩ : ∃ z, z = sizeOf s := ⟨_, rfl⟩
  have hzb : 0 ≤ z ∧ z ≤ 400 := by
    rw [hz]; unfold sizeOf
    by_cases q : sysB s = true
    · rw [if_pos q]; have := sizeB_bd q; omega
    · rw [if_neg q]; omega
  have E : Hid (setB s l = (allTo (ascOk l z) n3 && decide (0 < z))) := Lib.hid (by
    unfold setB
    rw [hz]; unfold sizeOf
    cases q : sysB s
    · simp
    · have := sizeB_bd q
      simp only [if_true]
      rw [decide_eq_true (show 0 < sizeB s by omega), ← L3]
      simp [setsB])
  have HZB := Lib.hid hzb
  rw [← hz] at SZ
  clear hz L3
  have h3' := (rd_ints.1 h3).2
  have wv : IntKind.i64.wrap (z - 1) = z - 1 := IntWalk.i64_in _ (by omega)
  clear hzb
  go_enter Try.func34, Try.ntmps34
  go_wp2_with fail
  refine (SZ.out _).mono ?_
  rintro e w2 ⟨rfl, b2⟩
  have B2 := below_call b2
  go_wp2
  go_loopg [6] n3 (fun m i wr => ∃ k : Nat, k + m = n3 ∧ i = .int .i64 k ∧ Hid (allTo (ascOk l z) k = true) ∧ Below w.heap.size w wr)
  case atStart => exact ⟨0, by omega, rfl, Lib.hid rfl, B2⟩
  case round =>
    clear B2
    obtain ⟨k, hk, rfl, ha, hb⟩ := hrel
    by_cases hlt : k < n3
    · obtain ⟨ad', rfl, hbl', hc'⟩ := (h3'.below hb).int hlt
      have hsp := asc_spec ha.out
      cases q1 : inB (ix l k) 0 (z - 1)
      · have HF : Hid (setB s l = false) := Lib.hid (by rw [E.out, allTo_false (f := ascOk l z) hlt (by rw [hsp, q1]; rfl)]; rfl)
        clear hsp
        have Q1 := Lib.hid q1; clear q1
        go_wp2
        go_quiet ((go_at_call 50; exact Calls.quiet_of_same ((l1In_any _ _ _ _).mono fun _ _ h => ⟨h.1.trans (by rw [Q1.out]), h.2.symm⟩)))
        go_wp2
        go_ret
        exact ⟨(congrArg (fun b => Ending.returned (.bool b)) HF.out).symm, hb.trans ⟨rfl, rfl, rfl, Nat.le_refl _, fun _ _ => rfl⟩⟩
      have Q1 := Lib.hid q1
      by_cases k0 : k = 0
      · have hasc : ascOk l z k = true := by rw [hsp, q1, decide_eq_true k0]; rfl
        have kz' : ¬ (0 : Int) < (k : Int) := by omega
        have kd : decide ((0 : Int) < (k : Int)) = false := decide_eq_false kz'
        have kd' : decide (0 < k) = false := decide_eq_false (by omega)
        clear q1 hsp k0
        have HA : Hid (allTo (ascOk l z) (k + 1) = true) := Lib.hid (by show (allTo (ascOk l z) k && ascOk l z k) = true; rw [ha.out, hasc]; rfl)
        clear hasc
        go_wp2
        go_quiet ((go_at_call 50; exact Calls.quiet_of_same ((l1In_any _ _ _ _).mono fun _ _ h => ⟨h.1.trans (by rw [Q1.out]), h.2.symm⟩)))
        go_wp2
        go_roundg (n3 - (k + 1))
        case measure => omega
        case rel => exact ⟨k + 1, by omega, by go_num, HA, hb.trans ⟨rfl, rfl, rfl, Nat.le_refl _, fun _ _ => rfl⟩⟩
      · obtain ⟨j, hj⟩ : ∃ j, j + 1 = k := ⟨k - 1, by omega⟩
        obtain ⟨_, he, _, hcj⟩ := (h3'.below hb).int (show j < n3 by omega)
        injection he with he
        subst he
        have kp : (0 : Int) < (k : Int) := by omega
        have kp' : 0 < k := by omega
        have wk : IntKind.i64.wrap ((k : Int) - 1) = (j : Int) := by rw [show (k : Int) - 1 = (j : Int) by omega]; exact IntWalk.i64_in _ (by omega)
        have hjn : (j : Int) < n3 := by omega
        have hsp : ascOk l z k = (inB (ix l k) 0 (z - 1) && (decide (k = 0) || decide (ix l j < ix l k))) := by rw [hsp, ← hj]; rfl
        clear k0 hj
        cases q2 : decide (ix l j < ix l k)
        · have hle : ix l k ≤ ix l j := by simpa using q2
          have HF : Hid (setB s l = false) := Lib.hid (by rw [E.out, allTo_false (f := ascOk l z) hlt (by rw [hsp, q1, q2, decide_eq_false (show ¬ k = 0 by omega)]; rfl)]; rfl)
          clear hsp q1 q2
          go_wp2
          go_quiet ((go_at_call 50; exact Calls.quiet_of_same ((l1In_any _ _ _ _).mono fun _ _ h => ⟨h.1.trans (by rw [Q1.out]), h.2.symm⟩)))
          go_wp2
          go_ret
          exact ⟨(congrArg (fun b => Ending.returned (.bool b)) HF.out).symm, hb.trans ⟨rfl, rfl, rfl, Nat.le_refl _, fun _ _ => rfl⟩⟩
        · have hle : ¬ ix l k ≤ ix l j := by simp at q2; omega
          have hle' : decide (ix l k ≤ ix l j) = false := decide_eq_false hle
          have HA : Hid (allTo (ascOk l z) (k + 1) = true) := Lib.hid (by show (allTo (ascOk l z) k && ascOk l z k) = true; rw [ha.out, hsp, q1, q2]; simp)
          clear hsp q1 q2
          go_wp2
          go_quiet ((go_at_call 50; exact Calls.quiet_of_same ((l1In_any _ _ _ _).mono fun _ _ h => ⟨h.1.trans (by rw [Q1.out]), h.2.symm⟩)))
          go_wp2
          go_roundg (n3 - (k + 1))
          case measure => omega
          case rel => exact ⟨k + 1, by omega, by go_num, HA, hb.trans ⟨rfl, rfl, rfl, Nat.le_refl _, fun _ _ => rfl⟩⟩
    · obtain rfl : k = n3 := by omega
      have HE : Hid (setB s l = decide (0 < z)) := Lib.hid (by rw [E.out, ha.out]; rfl)
      by_cases q : 0 < z
      · have HF : Hid (setB s l = true) := Lib.hid (HE.out.trans (decide_eq_true q))
        go_wp2
        go_ret
        exact ⟨(congrArg (fun b => Ending.returned (.bool b)) HF.out).symm, hb⟩
      · have HF : Hid (setB s l = false) := Lib.hid (HE.out.trans (decide_eq_false q))
        go_wp2
        go_ret
        exact ⟨(congrArg (fun b => Ending.returned (.bool b)) HF.out).symm, hb⟩
end Go.Proofs.Ytnhjcokmajejcaa
