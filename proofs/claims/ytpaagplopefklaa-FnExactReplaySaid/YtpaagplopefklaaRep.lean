/- Runs of rules: plain lists. -/
import Derived.Test.YtpaagplopefklaaRun4
import Derived.Test.YtpaagplopefklaaIl
namespace Go.Proofs.Ytpaagplopefklaa
open Go.RowKit

def usableTo (s : Sy) (st : List Int) : Nat → List Int
  | 0 => []
  | k + 1 => if useB s st k = true then usableTo s st k ++ [(k : Int)] else usableTo s st k
def usableB (s : Sy) (st : List Int) : List Int := if inRangeB s st then usableTo s st s.rules.length else []
theorem usableTo_len (s : Sy) (st : List Int) : ∀ k, (usableTo s st k).length ≤ k
  | 0 => by simp [usableTo]
  | k + 1 => by
    have := usableTo_len s st k
    unfold usableTo
    by_cases h : useB s st k = true
    · rw [if_pos h]; simp; omega
    · rw [if_neg h]; omega
theorem usable_yes {s : Sy} {st : List Int} {k : Nat} (h : useB s st k = true) : usableTo s st (k + 1) = usableTo s st k ++ [(k : Int)] := by show (if _ then _ else _) = _; rw [if_pos h]
theorem usable_no {s : Sy} {st : List Int} {k : Nat} (h : useB s st k = false) : usableTo s st (k + 1) = usableTo s st k := by show (if _ then _ else _) = _; rw [if_neg (by simp [h])]
theorem usableB_len (s : Sy) (st : List Int) : (usableB s st).length ≤ 1000000 := by
  unfold usableB
  cases h : inRangeB s st
  · simp
  · have := (inRange_parts h).1.most
    have := usableTo_len s st s.rules.length
    rw [if_pos rfl]; omega

set_option maxRecDepth 100000 in
set_option maxHeartbeats 4000000 in
theorem usable_spec (s : Sy) (st : List Int) (A1 : Option Addr) (n1 c1 : Nat) (A2 : Option Addr) (n2 c2 : Nat) (A3 : Option Addr) (n3 c3 : Nat) (w : World) (h1 : Mem.rd w w.heap.size [.slice A1 n1 c1] s.vars) (h2 : Mem.rd w w.heap.size [.slice A2 n2 c2] s.rules) (h3 : Mem.rd w w.heap.size [.slice A3 n3 c3] st) :
    Calls Try.prog 28 #[.agg #[.slice A1 n1 c1, .slice A2 n2 c2], .slice A3 n3 c3] w (GivesL w (usableB s st)) := by
  have BX := Lib.hid (sy_box (w := w) (v1 := .slice A1 n1 c1) (v2 := .slice A2 n2 c2))
  have SV := Lib.hid (fun o o' => inRange_spec s st A1 n1 c1 A2 n2 c2 A3 n3 c3 ((w.alloc o).alloc o') (Mem.rd_on_alloc (Mem.rd_on_alloc h1 o) o') (Mem.rd_on_alloc (Mem.rd_on_alloc h2 o) o') (Mem.rd_on_alloc (Mem.rd_on_alloc h3 o) o'))
  have L2 := rd_len h2
  obtain ⟨F, hF⟩ : ∃ F, F = usableB s st := ⟨_, rfl⟩
  have hFl := usableB_len s st
  rw [← hF] at hFl ⊢
  have HF := Lib.hid hF
  clear hF
  have hown0 := World.ownsRow_lit (base := w.heap.size + 1) (e := 3) (size := 1) (w.alloc (.cells #[.slice A1 n1 c1, .slice A2 n2 c2] 31)) #[] 0 (by simp) (by unfold maxLen; omega) rfl
  rw [World.size_alloc] at hown0
  have bb : ∀ o o', Below (w.alloc o).heap.size (w.alloc o) ((w.alloc o).alloc o') := fun o o' => below_alloc _ _
  cases hz : inRangeB s st
  · have E1 : Hid (F = []) := Lib.hid (by rw [HF.out]; unfold usableB; rw [hz]; rfl)
    have HZ := Lib.hid hz; clear hz L2
    go_enter Try.func28, Try.ntmps28
    go_wp2_with fail
    refine (SV.out _ _).mono ?_
    rintro e w2 ⟨rfl, b2⟩
    rw [HZ.out]
    have O2 := Lib.hid (own_below hown0 b2)
    clear hown0
    go_wp2
    go_ret
    rw [E1.out]
    have bb2 := below_call (below_call b2)
    obtain ⟨fp, om, nd, lo⟩ := mem_ints (l := []) (own_lower O2.out (by omega : w.heap.size ≤ _)) (by unfold maxLen; simp)
    exact ⟨_, _, _, fp, rfl, om, nd, lo, bb2⟩
  · obtain ⟨ok, hin⟩ := inRange_parts hz
    have E1 : Hid (F = usableTo s st n2) := Lib.hid (by rw [HF.out]; unfold usableB; rw [hz, L2]; rfl)
    have hn2 : n2 ≤ 8 := by have := ok.most; omega
    have UC := Lib.hid (fun k (hk : k < n2) w (h1 : Mem.rd w w.heap.size [.slice A1 n1 c1] s.vars) h2 h3 => l2Use_any s st k A1 n1 c1 A2 n2 c2 A3 n3 c3 w h1 h2 h3 ok hin (by omega))
    have HZ := Lib.hid hz; clear hz L2
    go_enter Try.func28, Try.ntmps28
    go_wp2_with fail
    refine (SV.out _ _).mono ?_
    rintro e w2 ⟨rfl, b2⟩
    rw [HZ.out]
    have O2 := own_below hown0 b2
    clear hown0
    have b2' := below_call b2
    go_wp2
    go_loopg [5, 6] n2 (fun m v i wr => ∃ k j : Nat, k + m = n2 ∧ i = .int .i64 k ∧ wr.ownsRow (w.heap.size + 1) 3 1 v j (ints (usableTo s st k)) ∧ j ≤ k ∧ Below (w.alloc (.cells #[.slice A1 n1 c1, .slice A2 n2 c2] 31)).heap.size (w.alloc (.cells #[.slice A1 n1 c1, .slice A2 n2 c2] 31)) wr)
    case atStart => exact ⟨0, 0, by omega, rfl, O2, Nat.le_refl _, b2'⟩
    case round =>
      clear O2
      obtain ⟨k, j, hk, rfl, ho, hj, hb⟩ := hrel
      obtain ⟨B, x0, x1⟩ := BX.out _ hb
      have HO := Lib.hid ho; clear ho
      by_cases hlt : k < n2
      · have UK := Lib.hid (UC.out k hlt wr (Mem.rd_on h1 B) (Mem.rd_on h2 B) (Mem.rd_on h3 B))
        obtain ⟨U, hU⟩ : ∃ U, U = useL s st k := ⟨_, rfl⟩
        rw [← hU] at UK
        have HB : Hid (useB s st k = decide (0 < U.length)) := Lib.hid (by rw [hU]; rfl)
        clear hU
        obtain ⟨q, hq⟩ : ∃ q : Nat, q = U.length := ⟨_, rfl⟩
        have HQ := Lib.hid hq
        clear hq
        by_cases hu : 0 < q
        all_goals
          go_wp2_with fail
          refine (UK.out).mono ?_
          rintro e w3 ⟨v3, rfl, o3, b3⟩
          rw [← HQ.out] at o3
          obtain ⟨A4, c4, rfl, _, _⟩ := own_form o3
          have O3 := own_below HO.out b3
          clear o3
          have hb3 := hb.trans (b3.mono hb.size)
        · have O3 := Lib.hid O3
          have NX : Hid (usableTo s st (k + 1) = usableTo s st k ++ [(k : Int)]) := Lib.hid (usable_yes (by rw [HB.out, ← HQ.out]; simp [hu]))
          go_wp2_with (first
            | (at_builtin; refine app_int_at rfl _ _ rfl (w.heap.size + 1) _ j _ _ _ rfl (O3.out.alloc _) rfl (World.cell?_alloc_at _ _ _ _ (by simp)) (by omega) (by have := hb3.size; simp at *; omega) ?_; intro v' w4 ho4 hb4))
          go_roundg (n2 - (k + 1))
          case measure => omega
          case rel => exact ⟨k + 1, j + 1, by omega, by go_num, by rw [NX.out]; exact ho4, by omega, (hb3.alloc hb3.size _).trans (hb4.mono (by simp))⟩
        · have NX : Hid (usableTo s st (k + 1) = usableTo s st k) := Lib.hid (usable_no (by rw [HB.out, ← HQ.out]; simp [hu]))
          go_wp2
          go_roundg (n2 - (k + 1))
          case measure => omega
          case rel => exact ⟨k + 1, j, by omega, by go_num, by rw [NX.out]; exact O3, by omega, hb3⟩
      · obtain rfl : k = n2 := by omega
        go_wp2
        go_ret
        have hjl : j = F.length := by have := HO.out.1; rw [len_ints] at this; rw [E1.out]; omega
        have O := HO.out
        rw [hjl, ← E1.out] at O
        obtain ⟨A4, c4, rfl, _, _⟩ := own_form O
        obtain ⟨fp, om, nd, lo⟩ := mem_ints (own_lower O (by omega : w.heap.size ≤ _)) (by unfold maxLen; omega)
        exact ⟨A4, _, c4, fp, rfl, om, nd, lo, B⟩
end Go.Proofs.Ytpaagplopefklaa
namespace Go.Proofs.Ytpaagplopefklaa
open Go.RowKit

def stepOk (s : Sy) (a : List Int) (r : Int) : Bool := ruleIn s r && useB s a r.toNat
/-- The state behind k rules. -/
def stAt (s : Sy) (rs : List Int) : Nat → List Int
  | 0 => firsts s.vars
  | k + 1 => useL s (stAt s rs k) (ix rs k).toNat
/-- Whether the first k rules may all be used. -/
def runOk (s : Sy) (rs : List Int) : Nat → Bool
  | 0 => true
  | k + 1 => runOk s rs k && stepOk s (stAt s rs k) (ix rs k)
/-- How many of the first k rules are used. -/
def repN (s : Sy) (rs : List Int) : Nat → Nat
  | 0 => 0
  | k + 1 => if runOk s rs (k + 1) = true then k + 1 else repN s rs k
theorem rep_all {s : Sy} {rs : List Int} : ∀ {k : Nat}, runOk s rs k = true → repN s rs k = k
  | 0, _ => rfl
  | k + 1, h => by unfold repN; rw [if_pos h]
theorem run_less {s : Sy} {rs : List Int} {k : Nat} (h : runOk s rs (k + 1) = true) : runOk s rs k = true := by
  unfold runOk at h; rw [Bool.and_eq_true] at h; exact h.1
theorem run_stop {s : Sy} {rs : List Int} {k : Nat} (h : runOk s rs k = true) (hs : stepOk s (stAt s rs k) (ix rs k) = false) : ∀ {n : Nat}, k < n → runOk s rs n = false ∧ repN s rs n = k
  | 0, hn => by omega
  | n + 1, hn => by
    by_cases e : k = n
    · subst e
      have q : runOk s rs (k + 1) = false := by unfold runOk; rw [hs]; simp
      refine ⟨q, ?_⟩
      unfold repN
      rw [if_neg (by simp [q]), rep_all h]
    · obtain ⟨q1, q2⟩ := run_stop h hs (n := n) (by omega)
      have q : runOk s rs (n + 1) = false := by unfold runOk; rw [q1]; rfl
      refine ⟨q, ?_⟩
      unfold repN
      rw [if_neg (by simp [q]), q2]
theorem rep_le (s : Sy) (rs : List Int) : ∀ k, repN s rs k ≤ k
  | 0 => Nat.le_refl _
  | k + 1 => by
    have := rep_le s rs k
    unfold repN
    by_cases h : runOk s rs (k + 1) = true
    · rw [if_pos h]; omega
    · rw [if_neg h]; omega
theorem run_rep (s : Sy) (rs : List Int) : ∀ k, runOk s rs (repN s rs k) = true
  | 0 => rfl
  | k + 1 => by
    unfold repN
    by_cases h : runOk s rs (k + 1) = true
    · rw [if_pos h]; exact h
    · rw [if_neg h]; exact run_rep s rs k
theorem firsts_has {s : Sy} (ok : SysOk s) : hasB s.vars (firsts s.vars) = true := by
  rw [hasB_all (firsts_len _)]
  rw [allTo_true]
  intro k hk
  have := varB_iff.1 (ok.vars k hk)
  have e : ix (firsts s.vars) k = (el s.vars k).first := by
    unfold firsts
    rw [ix_lt (by rw [List.length_map]; exact hk), List.getElem_map, el_lt hk]
  rw [e]
  simp [inB]; omega
theorem stepOk_parts {s : Sy} {a : List Int} {r : Int} (h : stepOk s a r = true) : ruleIn s r = true ∧ useB s a r.toNat = true := by
  unfold stepOk at h; rw [Bool.and_eq_true] at h; exact h
theorem use_has' {s : Sy} {st : List Int} {k : Nat} (h : useB s st k = true) : hasB s.vars (useL s st k) = true := by
  unfold useB at h
  rw [decide_eq_true_eq] at h
  unfold useL useR at h ⊢
  by_cases z : valB (el s.rules k).cond st = 0
  · rw [if_pos z] at h; simp at h
  · rw [if_neg z] at h ⊢
    by_cases z2 : hasB s.vars (madeTo (el s.rules k) st (el s.rules k).sets.length) = true
    · rw [if_pos z2]; exact z2
    · rw [if_neg z2] at h; simp at h
theorem stAt_has {s : Sy} (ok : SysOk s) {rs : List Int} : ∀ {k : Nat}, runOk s rs k = true → hasB s.vars (stAt s rs k) = true
  | 0, _ => firsts_has ok
  | k + 1, h => by
    unfold runOk at h
    rw [Bool.and_eq_true] at h
    exact use_has' (stepOk_parts h.2).2
/-- The states up to the k-th. -/
def statesTo (s : Sy) (rs : List Int) (k : Nat) : List (List Int) := (List.range (k + 1)).map (stAt s rs)
theorem states_len (s : Sy) (rs : List Int) (k : Nat) : (statesTo s rs k).length = k + 1 := by simp [statesTo]
theorem states_succ (s : Sy) (rs : List Int) (k : Nat) : statesTo s rs (k + 1) = statesTo s rs k ++ [stAt s rs (k + 1)] := by unfold statesTo; rw [List.range_succ, List.map_append]; rfl
theorem states_at (s : Sy) (rs : List Int) {k i : Nat} (h : i ≤ k) : el (statesTo s rs k) i = stAt s rs i := by
  rw [el_lt (by rw [states_len]; omega)]; simp [statesTo]
def repOk (s : Sy) (rs : List Int) : Bool := sysB s && decide (rs.length < 500)
def repS (s : Sy) (rs : List Int) : List (List Int) := if repOk s rs then statesTo s rs (repN s rs rs.length) else []
def repR (s : Sy) (rs : List Int) : List Int := if repOk s rs then rs.take (repN s rs rs.length) else []
def repK (s : Sy) (rs : List Int) : Int := if repOk s rs then repN s rs rs.length else 0
/-- The call gives a run of its own, and a number. -/
def GivesTrI (w : World) (L : List (List Int)) (l : List Int) (z : Int) (e : Ending) (w' : World) : Prop :=
  ∃ A n c A' n' c' f1 f2, e = .returned (.tuple #[.agg #[.slice A n c, .slice A' n' c'], .int .i64 z]) ∧ Mem.own w' f1 [.slice A n c] L ∧ Mem.own w' f2 [.slice A' n' c'] l ∧ (f1 ++ f2).Nodup ∧ (∀ x ∈ f1 ++ f2, w.heap.size ≤ x) ∧ Below w.heap.size w w'
end Go.Proofs.Ytpaagplopefklaa
