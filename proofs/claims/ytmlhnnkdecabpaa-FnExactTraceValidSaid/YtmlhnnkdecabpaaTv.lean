/- Whether states and rules are a run: plain lists, and the program's words. -/
import Derived.Test.YtmlhnnkdecabpaaTrA
import Derived.Test.YtmlhnnkdecabpaaRepI
import Derived.Test.YtmlhnnkdecabpaaBtw
namespace Go.Proofs.Ytmlhnnkdecabpaa
open Go.RowKit

/-- Whether the first k steps of a run are ones. -/
def trOk (s : Sy) (t : Tr) : Nat → Bool
  | 0 => true
  | k + 1 => trOk s t k && (stepOk s (el t.states k) (ix t.rules k) && decide (useL s (el t.states k) (ix t.rules k).toNat = el t.states (k + 1)))
def traceB (s : Sy) (t : Tr) : Bool := sysB s && ((decide (1 ≤ t.states.length) && decide (t.states.length ≤ 500)) && (decide (t.rules.length + 1 = t.states.length) && (decide (el t.states 0 = firsts s.vars) && trOk s t t.rules.length)))
theorem tr_run {s : Sy} {t : Tr} (h0 : el t.states 0 = firsts s.vars) : ∀ {k : Nat}, trOk s t k = true → runOk s t.rules k = true ∧ el t.states k = stAt s t.rules k
  | 0, _ => ⟨rfl, h0⟩
  | k + 1, h => by
    unfold trOk at h
    simp only [Bool.and_eq_true, decide_eq_true_eq] at h
    obtain ⟨a, b, c⟩ := h
    obtain ⟨d, e⟩ := tr_run h0 a
    rw [e] at b c
    refine ⟨?_, c.symm⟩
    show (runOk s t.rules k && stepOk s (stAt s t.rules k) (ix t.rules k)) = true
    rw [d, b]; rfl
theorem run_tr {s : Sy} {t : Tr} : ∀ {k : Nat}, (∀ i, i ≤ k → el t.states i = stAt s t.rules i) → runOk s t.rules k = true → trOk s t k = true
  | 0, _, _ => rfl
  | k + 1, h, hr => by
    have hr' := hr
    unfold runOk at hr'
    rw [Bool.and_eq_true] at hr'
    unfold trOk
    rw [run_tr (fun i hi => h i (by omega)) hr'.1, h k (by omega), hr'.2, h (k + 1) (Nat.le_refl _)]
    have e : useL s (stAt s t.rules k) (ix t.rules k).toNat = stAt s t.rules (k + 1) := rfl
    rw [e]; simp
theorem list_ext {L M : List (List Int)} (hl : L.length = M.length) (h : ∀ i, i < L.length → el L i = el M i) : L = M := by
  apply List.ext_getElem hl
  intro i h1 h2
  have := h i h1
  rwa [el_lt h1, el_lt h2] at this
/-- The program's question: whether the run of the rules has just these states. -/
theorem trace_eq (s : Sy) (t : Tr) : traceB s t = (decide (0 < (repS s t.rules).length) && (decide (repK s t.rules = t.rules.length) && decide (repS s t.rules = t.states))) := by
  apply bool_iff
  unfold traceB
  simp only [Bool.and_eq_true, decide_eq_true_eq]
  constructor
  · rintro ⟨hs, ⟨l1, l2⟩, l3, h0, hk⟩
    obtain ⟨hr, _⟩ := tr_run h0 hk
    have hok : repOk s t.rules = true := by unfold repOk; rw [hs, decide_eq_true (by omega)]; rfl
    have hn := rep_all hr
    have hS : repS s t.rules = statesTo s t.rules t.rules.length := by unfold repS; rw [if_pos hok, hn]
    have hK : repK s t.rules = t.rules.length := by unfold repK; rw [if_pos hok, hn]
    rw [hS, hK, states_len]
    refine ⟨by omega, rfl, list_ext (by rw [states_len]; omega) fun i hi => ?_⟩
    rw [states_len] at hi
    rw [states_at s t.rules (by omega)]
    have : trOk s t i = true := by
      have mono : ∀ {n m : Nat}, n ≤ m → trOk s t m = true → trOk s t n = true := by
        intro n m hnm
        induction m with
        | zero => intro h; have e : n = 0 := by omega
                  rw [e]; exact h
        | succ m ih =>
          intro h
          by_cases e : n = m + 1
          · rw [e]; exact h
          · unfold trOk at h
            rw [Bool.and_eq_true] at h
            exact ih (by omega) h.1
      exact mono (by omega) hk
    exact (tr_run h0 this).2.symm
  · rintro ⟨p, hK, hS⟩
    have hok : repOk s t.rules = true := by
      cases q : repOk s t.rules
      · unfold repS at p; rw [if_neg (by simp [q])] at p; simp at p
      · rfl
    have hS' : repS s t.rules = statesTo s t.rules (repN s t.rules t.rules.length) := by unfold repS; rw [if_pos hok]
    have hK' : repK s t.rules = repN s t.rules t.rules.length := by unfold repK; rw [if_pos hok]
    have hn : repN s t.rules t.rules.length = t.rules.length := by rw [hK'] at hK; omega
    rw [hn] at hS'
    rw [hS'] at hS
    have hr := run_rep s t.rules t.rules.length
    rw [hn] at hr
    unfold repOk at hok
    simp only [Bool.and_eq_true, decide_eq_true_eq] at hok
    have hl : t.states.length = t.rules.length + 1 := by rw [← hS, states_len]
    have hat : ∀ i, i ≤ t.rules.length → el t.states i = stAt s t.rules i := fun i hi => by rw [← hS, states_at s t.rules hi]
    exact ⟨hok.1, ⟨by omega, by omega⟩, by omega, hat 0 (by omega), run_tr hat hr⟩

theorem lists_ne_len {a b : List (List Int)} (h : a.length ≠ b.length) : decide (a = b) = false := decide_eq_false fun e => h (by rw [e])
theorem lists_ne_at {a b : List (List Int)} {k : Nat} (h : el a k ≠ el b k) : decide (a = b) = false := decide_eq_false fun e => h (by rw [e])

set_option maxHeartbeats 1000000 in
theorem eqFunc_any (A : Option Addr) (n c : Nat) (A' : Option Addr) (n' c' : Nat) (a b : List (List Int)) (w : World) (h : Mem.rd w w.heap.size [.slice A n c] a) (h' : Mem.rd w w.heap.size [.slice A' n' c'] b) :
    Calls Try.prog 52 #[.slice A n c, .slice A' n' c', .func (Fn.func 53) #[] #[]] w (GivesBool w (decide (a = b))) := by
  have l1 := rd_len h
  have l2 := rd_len h'
  have hn := rd_max h
  have hn' := rd_max h'
  unfold maxLen at hn hn'
  by_cases e : n = n'
  · subst e
    have HE := Lib.hid (fun (q : ∀ j, j < n → el a j = el b j) => decide_eq_true (list_ext (L := a) (M := b) (by omega) (fun j hj => q j (by omega))))
    clear l1 l2
    go_enter Try.func52, Try.ntmps52
    go_wp2
    go_loopg [7, 8, 9, 17] n (fun m i7 i8 i9 i wr => ∃ k : Nat, k + m = n ∧ i = .int .i64 k ∧ Hid (∀ j, j < k → el a j = el b j) ∧ Below w.heap.size w wr)
    case atStart => exact ⟨0, by omega, rfl, Lib.hid (fun j hj => absurd hj (by omega)), Below.refl _ _⟩
    case round =>
      obtain ⟨k, hk, rfl, hj, hb⟩ := hrel
      by_cases hlt : k < n
      · obtain ⟨ad, A1, n1, c1, rfl, hbl, d0, r1⟩ := ll_at (Mem.rd_below h hb) hlt
        obtain ⟨ad', A2, n2, c2, rfl, hbl', d1, r2⟩ := ll_at (Mem.rd_below h' hb) hlt
        have r1' := Mem.rd_more r1 hb.size
        have r2' := Mem.rd_more r2 hb.size
        have EC := Lib.hid (equal_int A1 n1 c1 A2 n2 c2 (el a k) (el b k) wr (rd_ints.1 r1').2 (rd_ints.1 r2').2 (rd_max r1) (rd_max r2))
        clear r1 r2 r1' r2'
        by_cases q : el a k = el b k
        · have HQ : Hid (∀ j, j < k + 1 → el a j = el b j) := Lib.hid fun j hjk => by
            by_cases z : j < k
            · exact hj.out j z
            · obtain rfl : j = k := by omega
              exact q
          rw [decide_eq_true q] at EC
          go_wp2_with fail
          refine (EC.out).mono ?_
          rintro e w3 ⟨rfl, b3⟩
          go_wp2
          go_roundg (n - (k + 1))
          case measure => omega
          case rel => exact ⟨k + 1, by omega, by go_num, HQ, hb.trans (b3.mono hb.size)⟩
        · have HF := Lib.hid (lists_ne_at q)
          rw [decide_eq_false q] at EC
          go_wp2_with fail
          refine (EC.out).mono ?_
          rintro e w3 ⟨rfl, b3⟩
          go_wp2
          go_ret
          exact ⟨(congrArg (fun b => Ending.returned (.bool b)) HF.out).symm, hb.trans (b3.mono hb.size)⟩
      · obtain rfl : k = n := by omega
        have HF := Lib.hid (HE.out hj.out)
        go_wp2
        go_ret
        exact ⟨(congrArg (fun b => Ending.returned (.bool b)) HF.out).symm, hb⟩
  · have HF := Lib.hid (lists_ne_len (a := a) (b := b) (by omega))
    have q : ((n : Int) != n') = true := by simp; omega
    have q' : ((n : Nat) != n') = true := by simp; omega
    clear l1 l2
    go_enter Try.func52, Try.ntmps52
    go_wp2
    go_ret
    exact ⟨(congrArg (fun b => Ending.returned (.bool b)) HF.out).symm, Below.refl _ _⟩

/-- The boxes: a system, a run. -/
theorem tv_box {w : World} {v1 v2 u1 u2 : Value} : ∀ W, Below ((w.alloc (.cells #[v1, v2] 46)).alloc (.cells #[u1, u2] 48)).heap.size ((w.alloc (.cells #[v1, v2] 46)).alloc (.cells #[u1, u2] 48)) W →
    Below w.heap.size w W ∧ (W.cell? ⟨w.heap.size, 0, none⟩ = some v1 ∧ W.cell? ⟨w.heap.size, 1, none⟩ = some v2) ∧ (W.cell? ⟨w.heap.size + 1, 0, none⟩ = some u1 ∧ W.cell? ⟨w.heap.size + 1, 1, none⟩ = some u2) ∧ w.heap.size + 2 ≤ W.heap.size := fun W hW => by
  have hs := hW.size
  rw [World.size_alloc, World.size_alloc] at hs
  have k0 := ((Blk.new w #[v1, v2] 46).alloc (.cells #[u1, u2] 48)).below hW (by simp; omega)
  have k1 := (Blk.new (w.alloc (.cells #[v1, v2] 46)) #[u1, u2] 48)
  have k1 := k1.below hW (by simp)
  rw [World.size_alloc] at k1
  exact ⟨below_call (below_call hW), ⟨k0.cell 0, k0.cell 1⟩, ⟨k1.cell 0, k1.cell 1⟩, hs⟩

set_option maxRecDepth 100000 in
set_option maxHeartbeats 2000000 in
theorem traceValid_impl (s : Sy) (t : Tr) (A1 : Option Addr) (n1 c1 : Nat) (A2 : Option Addr) (n2 c2 : Nat) (A3 : Option Addr) (n3 c3 : Nat) (A4 : Option Addr) (n4 c4 : Nat) (w : World) (h1 : Mem.rd w w.heap.size [.slice A1 n1 c1] s.vars) (h2 : Mem.rd w w.heap.size [.slice A2 n2 c2] s.rules)
    (h3 : Mem.rd w w.heap.size [.slice A3 n3 c3] t.states) (h4 : Mem.rd w w.heap.size [.slice A4 n4 c4] t.rules) :
    Calls Try.prog 22 #[.agg #[.slice A1 n1 c1, .slice A2 n2 c2], .agg #[.slice A3 n3 c3, .slice A4 n4 c4]] w (GivesBool w (traceB s t)) := by
  have BX := Lib.hid (tv_box (w := w) (v1 := .slice A1 n1 c1) (v2 := .slice A2 n2 c2) (u1 := .slice A3 n3 c3) (u2 := .slice A4 n4 c4))
  have RC := Lib.hid (fun W (B : Below w.heap.size w W) => replay_impl s t.rules A1 n1 c1 A2 n2 c2 A4 n4 c4 W (Mem.rd_on h1 B) (Mem.rd_on h2 B) (Mem.rd_on h4 B))
  have L4 := Lib.hid (rd_len h4)
  obtain ⟨S, hS⟩ : ∃ S, S = repS s t.rules := ⟨_, rfl⟩
  obtain ⟨K, hK⟩ : ∃ K, K = repK s t.rules := ⟨_, rfl⟩
  obtain ⟨F, hF⟩ : ∃ F, F = traceB s t := ⟨_, rfl⟩
  have E : Hid (F = (decide (0 < S.length) && (decide (K = n4) && decide (S = t.states)))) := Lib.hid (by rw [hF, hS, hK, trace_eq, L4.out])
  rw [← hS, ← hK] at RC
  rw [← hF]
  clear hS hK hF
  have HB0 := Lib.hid (Below.refl ((w.alloc (.cells #[.slice A1 n1 c1, .slice A2 n2 c2] 46)).alloc (.cells #[.slice A3 n3 c3, .slice A4 n4 c4] 48)).heap.size ((w.alloc (.cells #[.slice A1 n1 c1, .slice A2 n2 c2] 46)).alloc (.cells #[.slice A3 n3 c3, .slice A4 n4 c4] 48)))
  go_enter Try.func22, Try.ntmps22
  go_wp2_with fail
  refine (RC.out _ (BX.out _ HB0.out).1).mono ?_
  rintro e w2 ⟨A5, n5, c5, A6, n6, c6, f1, f2, rfl, o1, o2, _, _, b2⟩
  obtain ⟨B2, ⟨x0, x1⟩, ⟨y0, y1⟩, l2⟩ := BX.out _ b2
  have R1 := Lib.hid (Mem.own_rd o1)
  have hl5 := rd_len R1.out
  have hm5 := rd_max R1.out
  unfold maxLen at hm5
  have LS := Lib.hid hl5
  have BA := Lib.hid (fun o => B2.alloc B2.size o)
  have R1a := Lib.hid (fun o => Mem.rd_on_alloc R1.out o)
  have EF := Lib.hid (fun o => eqFunc_any A5 n5 c5 A3 n3 c3 S t.states (w2.alloc o) (R1a.out o) (Mem.rd_on h3 (BA.out o)))
  have ya0 := fun o => cell_below (below_alloc w2 o) (p := ⟨w.heap.size + 1, 0, none⟩) (by show w.heap.size + 1 < w2.heap.size; omega) y0
  have ya1 := fun o => cell_below (below_alloc w2 o) (p := ⟨w.heap.size + 1, 1, none⟩) (by show w.heap.size + 1 < w2.heap.size; omega) y1
  clear o1 o2 hl5 x0 x1 B2
  by_cases q0 : 0 < n5
  · have q0' : (0 : Int) < (n5 : Int) := by omega
    by_cases q1 : K = n4
    · have q1' : (K == (n4 : Int)) = true := by simp [q1]
      have E1 : Hid (F = decide (S = t.states)) := Lib.hid (by rw [E.out, decide_eq_true (show 0 < S.length by rw [LS.out]; exact q0), decide_eq_true q1]; rfl)
      clear q1
      go_wp2_with fail
      refine (EF.out _).mono ?_
      rintro e w3 ⟨rfl, b3⟩
      go_wp2
      go_ret
      rw [← E1.out]
      exact ⟨by simp, (BA.out _).trans (b3.mono (BA.out _).size)⟩
    · have q1' : (K == (n4 : Int)) = false := by simp [q1]
      have E1 : Hid (F = false) := Lib.hid (by rw [E.out, decide_eq_false q1]; simp)
      go_wp2
      go_ret
      exact ⟨(congrArg (fun b => Ending.returned (.bool b)) E1.out).symm, BA.out _⟩
  · have q0' : ¬ (0 : Int) < (n5 : Int) := by omega
    have E1 : Hid (F = false) := Lib.hid (by rw [E.out, decide_eq_false (show ¬ 0 < S.length by rw [LS.out]; exact q0)]; rfl)
    go_wp2
    go_ret
    exact ⟨(congrArg (fun b => Ending.returned (.bool b)) E1.out).symm, BA.out _⟩
end Go.Proofs.Ytmlhnnkdecabpaa
