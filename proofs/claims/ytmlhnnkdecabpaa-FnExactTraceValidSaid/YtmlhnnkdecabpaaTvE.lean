/- Whether states and rules are a run, of the model: the run itself. -/
import Derived.Test.YtmlhnnkdecabpaaTvS
namespace Go.Proofs.Ytmlhnnkdecabpaa
open Go.RowKit

set_option maxRecDepth 100000 in
set_option maxHeartbeats 16000000 in
theorem tvs_good (s : Sy) (t : Tr) (A1 : Option Addr) (n1 c1 : Nat) (A2 : Option Addr) (n2 c2 : Nat) (A3 : Option Addr) (n3 c3 : Nat) (A4 : Option Addr) (n4 c4 : Nat) (w : World) (h1 : Mem.rd w w.heap.size [.slice A1 n1 c1] s.vars) (h2 : Mem.rd w w.heap.size [.slice A2 n2 c2] s.rules)
    (h3 : Mem.rd w w.heap.size [.slice A3 n3 c3] t.states) (h4 : Mem.rd w w.heap.size [.slice A4 n4 c4] t.rules)
    (hs : sysB s = true) (hl : inB (n3 : Int) 1 500 = true) (hq : n4 + 1 = n3) (hf' : el t.states 0 = firsts s.vars) :
    Calls Try.prog 19 #[.agg #[.slice A1 n1 c1, .slice A2 n2 c2], .agg #[.slice A3 n3 c3, .slice A4 n4 c4]] w (GivesBool w (traceB s t)) := by
  have BX := Lib.hid (tv_box (w := w) (v1 := .slice A1 n1 c1) (v2 := .slice A2 n2 c2) (u1 := .slice A3 n3 c3) (u2 := .slice A4 n4 c4))
  obtain ⟨W0, hW0⟩ : ∃ W0, W0 = ((w.alloc (.cells #[.slice A1 n1 c1, .slice A2 n2 c2] 46)).alloc (.cells #[.slice A3 n3 c3, .slice A4 n4 c4] 48)) := ⟨_, rfl⟩
  rw [← hW0] at BX
  have HB0 := Lib.hid (Below.refl W0.heap.size W0)
  obtain ⟨B0, ⟨x0, x1⟩, ⟨y0, y1⟩, l0⟩ := BX.out _ HB0.out
  have B0d : Below w.heap.size w W0.drew := ⟨B0.os, B0.tape, B0.output, B0.size, B0.block⟩
  have SV := Lib.hid (sysValid_spec s A1 n1 c1 A2 n2 c2 W0.drew (Mem.rd_on h1 B0d) (Mem.rd_on h2 B0d))
  have L2 := rd_len h2
  have L3 := rd_len h3
  have L4 := rd_len h4
  have m3 := rd_max h3
  have m4 := rd_max h4
  unfold maxLen at m3 m4
  obtain ⟨F, hF⟩ : ∃ F, F = traceB s t := ⟨_, rfl⟩
  rw [← hF]
  unfold traceB at hF
  rw [L3, L4] at hF
  have ok := sysOk_of hs
  have HZ := Lib.hid hs
  have HLN := Lib.hid hl
  have hl' : 1 ≤ n3 ∧ n3 ≤ 500 := by unfold inB at hl; simp only [Bool.and_eq_true, decide_eq_true_eq] at hl; omega
  have ww : IntKind.i64.wrap ((n3 : Int) - 1) = (n3 : Int) - 1 := IntWalk.i64_in _ (by omega)
  obtain ⟨ad, A5, n5, c5, rfl, hbl, d0, r5⟩ := ll_at h3 (k := 0) (by omega)
  have hne : ((n4 : Int) != (n3 : Int) - 1) = false := by simp; omega
  have h03 : (0 : Int) < (n3 : Int) := by omega
  have h03n : 0 < n3 := by omega
  have FC := Lib.hid (fun W (B : Below w.heap.size w W) => first_spec s A1 n1 c1 A2 n2 c2 W (Mem.rd_on h1 B) (Mem.rd_on h2 B))
  have hFB : firstB s = firsts s.vars := by unfold firstB; rw [hs]; rfl
  rw [hFB] at FC
  have HFL := Lib.hid (show (firsts s.vars).length = n1 by rw [firsts_len]; exact rd_len h1)
  have H5 := Lib.hid (show n1 ≤ 5 by have := rd_len h1; have := ok.hi; omega)
  have e00 := cell_below B0 (p := ad.add 0) (by rw [add_block]; exact hbl) d0
  rw [add_zero'] at e00
  have e0 := e00
  have hf : decide (el t.states 0 = firsts s.vars) = true := decide_eq_true hf'
  have HF0 := Lib.hid hf
  have E : Hid (F = trOk s t n4) := Lib.hid (by rw [hF, hs, hf, decide_eq_true hl'.1, decide_eq_true hl'.2, decide_eq_true hq]; rfl)
  have hf0 : el t.states 0 = firsts s.vars := of_decide_eq_true hf
  have TR := Lib.hid (fun k (h : trOk s t k = true) => show hasB s.vars (el t.states k) = true by
    obtain ⟨a, b⟩ := tr_run hf0 h
    rw [b]; exact stAt_has ok a)
  have UC := Lib.hid (fun k (h : trOk s t k = true) r (hr : r < s.rules.length) A n c W (B : Below w.heap.size w W) (h' : Mem.rd W W.heap.size [.slice A n c] (el t.states k)) => l2Use_any s (el t.states k) r A1 n1 c1 A2 n2 c2 A n c W (Mem.rd_on h1 B) (Mem.rd_on h2 B) h' ok (TR.out k h) hr)
  have ST := Lib.hid (fun k => show trOk s t (k + 1) = (trOk s t k && (stepOk s (el t.states k) (ix t.rules k) && decide (useL s (el t.states k) (ix t.rules k).toNat = el t.states (k + 1)))) from rfl)
  have SP := Lib.hid (fun a r => show stepOk s a r = (ruleIn s r && useB s a r.toNat) from rfl)
  have SU := Lib.hid (fun k r => show useB s (el t.states k) r = decide (0 < (useL s (el t.states k) r).length) from rfl)
  have RI := Lib.hid (fun r => (rule_in (s := s) (r := r)))
  rw [L2] at RI
  have SL := Lib.hid (fun k (h : trOk s t (k + 1) = false) (hk : k < n4) => tr_stop h hk)
  have HUL : Hid (∀ k r, (useL s (el t.states k) r).length ≤ 1000) := Lib.hid (fun k r => by
    cases q : useB s (el t.states k) r
    · have := SU.out k r
      rw [q] at this
      have := of_decide_eq_false this.symm
      omega
    · have := has_len (use_has' q)
      have := ok.hi
      omega)
  have w2v : IntKind.i64.wrap ((n2 : Int) - 1) = (n2 : Int) - 1 := IntWalk.i64_in _ (by have := ok.most; omega)
  have HL2 := Lib.hid L2
  have HM2 := Lib.hid (show n2 ≤ 8 by have := ok.most; omega)
  have HQ := Lib.hid hq
  have HL' := Lib.hid hl'
  clear hs hF L2 L3 L4 B0 B0d hl ok hf hFB hf0 hq hl' hf'
  go_enter Try.func19, Try.ntmps19
  go_wp2
  rw [← hW0]
  clear hW0
  refine wp_region_held_drew (S := (fun w' => w'.cell? ⟨w.heap.size, 0, none⟩ = some (.slice A1 n1 c1) ∧ w'.cell? ⟨w.heap.size, 1, none⟩ = some (.slice A2 n2 c2) ∧ w'.cell? ⟨w.heap.size + 1, 0, none⟩ = some (.slice (some ad) n3 c3) ∧ w'.cell? ⟨w.heap.size + 1, 1, none⟩ = some (.slice A4 n4 c4) ∧ w'.cell? ad = some (.slice A5 n5 c5))) (by kernel_rfl) ?_ (fun hHeld => ?_)
  · (try dsimp only); exact ⟨x0, x1, y0, y1, e0⟩
  refine wpAnyH_take (i := 0) (v := ?ev0) rfl (by kernel_rfl) (by kernel_rfl) (by kernel_rfl) (fun _ _ _ h => h) (Or.inl ⟨by kernel_rfl, ?eh0⟩) (by assumption) ?er0
  case eh0 => ((intro w hSw; (try dsimp only at hSw); go_simp) <;> with_reducible rfl)
  (try simp only [List.getElem_toArray, List.getElem_cons_zero, List.getElem_cons_succ]); (try simp only [Act.put]); (try simp only [List.setIfInBounds_toArray]); (try simp only [List.set_cons_succ]); (try simp only [List.set_cons_zero])
  refine wpAnyH_ready (rs := [1]) (by kernel_rfl) (by simp) ?_
  refine AllReadyH.cons (o := _) rfl (fun K hK => ?_) AllReadyH.nil
  go_simp
  refine (SV.out).mono ?_
  rintro e w3 ⟨rfl, b3⟩
  rw [HZ.out]
  have b3' : Below W0.heap.size W0 w3 := ⟨b3.os, b3.tape, b3.output, b3.size, b3.block⟩
  obtain ⟨B3, ⟨x0, x1⟩, ⟨y0, y1⟩, l3⟩ := BX.out _ b3'
  have e0 := cell_below B3 (p := ad.add 0) (by rw [add_block]; exact hbl) d0
  rw [add_zero'] at e0
  have FK := Lib.hid (FC.out w3 B3)
  refine hK.out _ _ ?_ (fun hHeld => ?_)
  · (try dsimp only); exact ⟨x0, x1, y0, y1, e0⟩
  clear hK K
  (try simp only [List.getElem_toArray, List.getElem_cons_zero, List.getElem_cons_succ]); (try simp only [Act.put]); (try simp only [List.setIfInBounds_toArray]); (try simp only [List.set_cons_succ]); (try simp only [List.set_cons_zero])
  refine wpAnyH_take (i := 2) (v := ?ev2) rfl (by kernel_rfl) (by kernel_rfl) (by kernel_rfl) (fun _ _ _ h => h) (Or.inl ⟨by kernel_rfl, ?eh2⟩) (by assumption) ?er2
  case eh2 => ((intro w hSw; (try dsimp only at hSw); go_simp) <;> with_reducible rfl)
  (try simp only [List.getElem_toArray, List.getElem_cons_zero, List.getElem_cons_succ]); (try simp only [Act.put]); (try simp only [List.setIfInBounds_toArray]); (try simp only [List.set_cons_succ]); (try simp only [List.set_cons_zero])
  refine wpAnyH_take (i := 3) (v := ?ev3) rfl (by kernel_rfl) (by kernel_rfl) (by kernel_rfl) (fun _ _ _ h => h) (Or.inl ⟨by kernel_rfl, ?eh3⟩) (by assumption) ?er3
  case eh3 => ((intro w hSw; (try dsimp only at hSw); go_simp) <;> with_reducible rfl)
  (try simp only [List.getElem_toArray, List.getElem_cons_zero, List.getElem_cons_succ]); (try simp only [Act.put]); (try simp only [List.setIfInBounds_toArray]); (try simp only [List.set_cons_succ]); (try simp only [List.set_cons_zero])
  refine wpAnyH_take (i := 4) (v := ?ev4) rfl (by kernel_rfl) (by kernel_rfl) (by kernel_rfl) (fun _ _ _ h => h) (Or.inl ⟨by kernel_rfl, ?eh4⟩) (by assumption) ?er4
  case eh4 => ((intro w hSw; (try dsimp only at hSw); go_simp) <;> with_reducible rfl)
  (try simp only [List.getElem_toArray, List.getElem_cons_zero, List.getElem_cons_succ]); (try simp only [Act.put]); (try simp only [List.setIfInBounds_toArray]); (try simp only [List.set_cons_succ]); (try simp only [List.set_cons_zero])
  refine wpAnyH_take (i := 5) (v := ?ev5) rfl (by kernel_rfl) (by kernel_rfl) (by kernel_rfl) (fun _ _ _ h => h) (Or.inl ⟨by kernel_rfl, ?eh5⟩) (by assumption) ?er5
  case eh5 => ((intro w hSw; (try dsimp only at hSw); go_simp) <;> with_reducible rfl)
  (try simp only [List.getElem_toArray, List.getElem_cons_zero, List.getElem_cons_succ]); (try simp only [Act.put]); (try simp only [List.setIfInBounds_toArray]); (try simp only [List.set_cons_succ]); (try simp only [List.set_cons_zero])
  refine wpAnyH_take (i := 6) (v := ?ev6) rfl (by kernel_rfl) (by kernel_rfl) (by kernel_rfl) (fun _ _ _ h => h) (Or.inl ⟨by kernel_rfl, ?eh6⟩) (by assumption) ?er6
  case eh6 => ((intro w hSw; (try dsimp only at hSw); go_simp) <;> with_reducible rfl)
  (try simp only [List.getElem_toArray, List.getElem_cons_zero, List.getElem_cons_succ]); (try simp only [Act.put]); (try simp only [List.setIfInBounds_toArray]); (try simp only [List.set_cons_succ]); (try simp only [List.set_cons_zero])
  refine wpAnyH_ready (rs := [7]) (by kernel_rfl) (by simp) ?_
  refine AllReadyH.cons (o := _) rfl (fun K hK => ?_) AllReadyH.nil
  go_simp
  refine (l1In_any _ _ _ _).mono ?_
  rintro e w' ⟨rfl, rfl⟩
  rw [HLN.out]
  refine hK.out _ _ ?_ (fun hHeld => ?_)
  · (try dsimp only); exact ⟨x0, x1, y0, y1, e0⟩
  clear hK K
  (try simp only [List.getElem_toArray, List.getElem_cons_zero, List.getElem_cons_succ]); (try simp only [Act.put]); (try simp only [List.setIfInBounds_toArray]); (try simp only [List.set_cons_succ]); (try simp only [List.set_cons_zero])
  refine wpAnyH_take (i := 8) (v := ?ev8) rfl (by kernel_rfl) (by kernel_rfl) (by kernel_rfl) (fun _ _ _ h => h) (Or.inl ⟨by kernel_rfl, ?eh8⟩) (by assumption) ?er8
  case eh8 => ((intro w hSw; (try dsimp only at hSw); go_simp) <;> with_reducible rfl)
  (try simp only [List.getElem_toArray, List.getElem_cons_zero, List.getElem_cons_succ]); (try simp only [Act.put]); (try simp only [List.setIfInBounds_toArray]); (try simp only [List.set_cons_succ]); (try simp only [List.set_cons_zero])
  refine wpAnyH_take (i := 9) (v := ?ev9) rfl (by kernel_rfl) (by kernel_rfl) (by kernel_rfl) (fun _ _ _ h => h) (Or.inl ⟨by kernel_rfl, ?eh9⟩) (by assumption) ?er9
  case eh9 => ((intro w hSw; (try dsimp only at hSw); go_simp) <;> with_reducible rfl)
  (try simp only [List.getElem_toArray, List.getElem_cons_zero, List.getElem_cons_succ]); (try simp only [Act.put]); (try simp only [List.setIfInBounds_toArray]); (try simp only [List.set_cons_succ]); (try simp only [List.set_cons_zero])
  refine wpAnyH_take (i := 10) (v := ?ev10) rfl (by kernel_rfl) (by kernel_rfl) (by kernel_rfl) (fun _ _ _ h => h) (Or.inl ⟨by kernel_rfl, ?eh10⟩) (by assumption) ?er10
  case eh10 => ((intro w hSw; (try dsimp only at hSw); go_simp) <;> with_reducible rfl)
  (try simp only [List.getElem_toArray, List.getElem_cons_zero, List.getElem_cons_succ]); (try simp only [Act.put]); (try simp only [List.setIfInBounds_toArray]); (try simp only [List.set_cons_succ]); (try simp only [List.set_cons_zero])
  refine wpAnyH_take (i := 11) (v := ?ev11) rfl (by kernel_rfl) (by kernel_rfl) (by kernel_rfl) (fun _ _ _ h => h) (Or.inl ⟨by kernel_rfl, ?eh11⟩) (by assumption) ?er11
  case eh11 => ((intro w hSw; (try dsimp only at hSw); go_simp) <;> with_reducible rfl)
  (try simp only [List.getElem_toArray, List.getElem_cons_zero, List.getElem_cons_succ]); (try simp only [Act.put]); (try simp only [List.setIfInBounds_toArray]); (try simp only [List.set_cons_succ]); (try simp only [List.set_cons_zero])
  refine wpAnyH_take (i := 12) (v := ?ev12) rfl (by kernel_rfl) (by kernel_rfl) (by kernel_rfl) (fun _ _ _ h => h) (Or.inl ⟨by kernel_rfl, ?eh12⟩) (by assumption) ?er12
  case eh12 => ((intro w hSw; (try dsimp only at hSw); go_simp) <;> with_reducible rfl)
  (try simp only [List.getElem_toArray, List.getElem_cons_zero, List.getElem_cons_succ]); (try simp only [Act.put]); (try simp only [List.setIfInBounds_toArray]); (try simp only [List.set_cons_succ]); (try simp only [List.set_cons_zero])
  refine wpAnyH_take (i := 13) (v := ?ev13) rfl (by kernel_rfl) (by kernel_rfl) (by kernel_rfl) (fun _ _ _ h => h) (Or.inl ⟨by kernel_rfl, ?eh13⟩) (by assumption) ?er13
  case eh13 => ((intro w hSw; (try dsimp only at hSw); go_simp) <;> with_reducible rfl)
  (try simp only [List.getElem_toArray, List.getElem_cons_zero, List.getElem_cons_succ]); (try simp only [Act.put]); (try simp only [List.setIfInBounds_toArray]); (try simp only [List.set_cons_succ]); (try simp only [List.set_cons_zero])
  refine wpAnyH_take (i := 14) (v := ?ev14) rfl (by kernel_rfl) (by kernel_rfl) (by kernel_rfl) (fun _ _ _ h => h) (Or.inl ⟨by kernel_rfl, ?eh14⟩) (by assumption) ?er14
  case eh14 => ((intro w hSw; (try dsimp only at hSw); go_simp) <;> with_reducible rfl)
  (try simp only [List.getElem_toArray, List.getElem_cons_zero, List.getElem_cons_succ]); (try simp only [Act.put]); (try simp only [List.setIfInBounds_toArray]); (try simp only [List.set_cons_succ]); (try simp only [List.set_cons_zero])
  refine wpAnyH_take (i := 15) (v := ?ev15) rfl (by kernel_rfl) (by kernel_rfl) (by kernel_rfl) (fun _ _ _ h => h) (Or.inl ⟨by kernel_rfl, ?eh15⟩) (by assumption) ?er15
  case eh15 => ((intro w hSw; (try dsimp only at hSw); go_simp) <;> with_reducible rfl)
  (try simp only [List.getElem_toArray, List.getElem_cons_zero, List.getElem_cons_succ]); (try simp only [Act.put]); (try simp only [List.setIfInBounds_toArray]); (try simp only [List.set_cons_succ]); (try simp only [List.set_cons_zero])
  refine wpAnyH_take (i := 16) (v := ?ev16) rfl (by kernel_rfl) (by kernel_rfl) (by kernel_rfl) (fun _ _ _ h => h) (Or.inl ⟨by kernel_rfl, ?eh16⟩) (by assumption) ?er16
  case eh16 => ((intro w hSw; (try dsimp only at hSw); go_simp) <;> with_reducible rfl)
  (try simp only [List.getElem_toArray, List.getElem_cons_zero, List.getElem_cons_succ]); (try simp only [Act.put]); (try simp only [List.setIfInBounds_toArray]); (try simp only [List.set_cons_succ]); (try simp only [List.set_cons_zero])
  refine wpAnyH_take (i := 17) (v := ?ev17) rfl (by kernel_rfl) (by kernel_rfl) (by kernel_rfl) (fun _ _ _ h => h) (Or.inl ⟨by kernel_rfl, ?eh17⟩) (by assumption) ?er17
  case eh17 => ((intro w hSw; (try dsimp only at hSw); go_simp) <;> with_reducible rfl)
  (try simp only [List.getElem_toArray, List.getElem_cons_zero, List.getElem_cons_succ]); (try simp only [Act.put]); (try simp only [List.setIfInBounds_toArray]); (try simp only [List.set_cons_succ]); (try simp only [List.set_cons_zero])
  refine wpAnyH_take (i := 18) (v := ?ev18) rfl (by kernel_rfl) (by kernel_rfl) (by kernel_rfl) (fun _ _ _ h => h) (Or.inl ⟨by kernel_rfl, ?eh18⟩) (by assumption) ?er18
  case eh18 => ((intro w hSw; (try dsimp only at hSw); go_simp) <;> with_reducible rfl)
  (try simp only [List.getElem_toArray, List.getElem_cons_zero, List.getElem_cons_succ]); (try simp only [Act.put]); (try simp only [List.setIfInBounds_toArray]); (try simp only [List.set_cons_succ]); (try simp only [List.set_cons_zero])
  refine wpAnyH_take (i := 19) (v := ?ev19) rfl (by kernel_rfl) (by kernel_rfl) (by kernel_rfl) (fun _ _ _ h => h) (Or.inl ⟨by kernel_rfl, ?eh19⟩) (by assumption) ?er19
  case eh19 => ((intro w hSw; (try dsimp only at hSw); go_simp) <;> with_reducible rfl)
  (try simp only [List.getElem_toArray, List.getElem_cons_zero, List.getElem_cons_succ]); (try simp only [Act.put]); (try simp only [List.setIfInBounds_toArray]); (try simp only [List.set_cons_succ]); (try simp only [List.set_cons_zero])
  refine wpAnyH_take (i := 20) (v := ?ev20) rfl (by kernel_rfl) (by kernel_rfl) (by kernel_rfl) (fun _ _ _ h => h) (Or.inl ⟨by kernel_rfl, ?eh20⟩) (by assumption) ?er20
  case eh20 => ((intro w hSw; (try dsimp only at hSw); go_simp) <;> with_reducible rfl)
  (try simp only [List.getElem_toArray, List.getElem_cons_zero, List.getElem_cons_succ]); (try simp only [Act.put]); (try simp only [List.setIfInBounds_toArray]); (try simp only [List.set_cons_succ]); (try simp only [List.set_cons_zero])
  refine wpAnyH_take (i := 21) (v := ?ev21) rfl (by kernel_rfl) (by kernel_rfl) (by kernel_rfl) (fun _ _ _ h => h) (Or.inl ⟨by kernel_rfl, ?eh21⟩) (by assumption) ?er21
  case eh21 => ((intro w hSw; (try dsimp only at hSw); go_simp) <;> with_reducible rfl)
  (try simp only [List.getElem_toArray, List.getElem_cons_zero, List.getElem_cons_succ]); (try simp only [Act.put]); (try simp only [List.setIfInBounds_toArray]); (try simp only [List.set_cons_succ]); (try simp only [List.set_cons_zero])
  refine wpAnyH_take (i := 22) (v := ?ev22) rfl (by kernel_rfl) (by kernel_rfl) (by kernel_rfl) (fun _ _ _ h => h) (Or.inl ⟨by kernel_rfl, ?eh22⟩) (by assumption) ?er22
  case eh22 => ((intro w hSw; (try dsimp only at hSw); go_simp) <;> with_reducible rfl)
  (try simp only [List.getElem_toArray, List.getElem_cons_zero, List.getElem_cons_succ]); (try simp only [Act.put]); (try simp only [List.setIfInBounds_toArray]); (try simp only [List.set_cons_succ]); (try simp only [List.set_cons_zero])
  refine wpAnyH_take (i := 23) (v := ?ev23) rfl (by kernel_rfl) (by kernel_rfl) (by kernel_rfl) (fun _ _ _ h => h) (Or.inl ⟨by kernel_rfl, ?eh23⟩) (by assumption) ?er23
  case eh23 => ((intro w hSw; (try dsimp only at hSw); go_simp) <;> with_reducible rfl)
  (try simp only [List.getElem_toArray, List.getElem_cons_zero, List.getElem_cons_succ]); (try simp only [Act.put]); (try simp only [List.setIfInBounds_toArray]); (try simp only [List.set_cons_succ]); (try simp only [List.set_cons_zero])
  refine wpAnyH_take (i := 24) (v := ?ev24) rfl (by kernel_rfl) (by kernel_rfl) (by kernel_rfl) (fun _ _ _ h => h) (Or.inl ⟨by kernel_rfl, ?eh24⟩) (by assumption) ?er24
  case eh24 => ((intro w hSw; (try dsimp only at hSw); go_simp) <;> with_reducible rfl)
  (try simp only [List.getElem_toArray, List.getElem_cons_zero, List.getElem_cons_succ]); (try simp only [Act.put]); (try simp only [List.setIfInBounds_toArray]); (try simp only [List.set_cons_succ]); (try simp only [List.set_cons_zero])
  refine wpAnyH_take (i := 25) (v := ?ev25) rfl (by kernel_rfl) (by kernel_rfl) (by kernel_rfl) (fun _ _ _ h => h) (Or.inl ⟨by kernel_rfl, ?eh25⟩) (by assumption) ?er25
  case eh25 => ((intro w hSw; (try dsimp only at hSw); go_simp) <;> with_reducible rfl)
  (try simp only [List.getElem_toArray, List.getElem_cons_zero, List.getElem_cons_succ]); (try simp only [Act.put]); (try simp only [List.setIfInBounds_toArray]); (try simp only [List.set_cons_succ]); (try simp only [List.set_cons_zero])
  refine wpAnyH_ready (rs := [26]) (by kernel_rfl) (by simp) ?_
  refine AllReadyH.cons (o := _) rfl (fun K hK => ?_) AllReadyH.nil
  go_simp
  refine (FK.out).mono ?_
  rintro e w5 ⟨v5, rfl, o5, b5⟩
  rw [HFL.out] at o5
  obtain ⟨A6, c6, rfl, _, _⟩ := own_form o5
  obtain ⟨f6, om6, _, _⟩ := mem_ints (l := firsts s.vars) (by rw [HFL.out]; exact o5) (by rw [HFL.out]; have := H5.out; unfold maxLen; omega)
  rw [HFL.out] at om6
  have b5' := b3'.trans (b5.mono b3'.size)
  obtain ⟨B5, ⟨x0, x1⟩, ⟨y0, y1⟩, l5⟩ := BX.out _ b5'
  have e0 := cell_below B5 (p := ad.add 0) (by rw [add_block]; exact hbl) d0
  rw [add_zero'] at e0
  have SK := Lib.hid (l2Same_any A5 n5 c5 A6 n1 c6 (el t.states 0) (firsts s.vars) w5 (rd_ints.1 (Mem.rd_on r5 B5)).2 (rd_ints.1 (Mem.own_rd om6)).2 (rd_max r5) (rd_max (Mem.own_rd om6)))
  clear o5 om6
  refine hK.out _ _ ?_ (fun hHeld => ?_)
  · (try dsimp only); exact ⟨x0, x1, y0, y1, e0⟩
  clear hK K
  (try simp only [List.getElem_toArray, List.getElem_cons_zero, List.getElem_cons_succ]); (try simp only [Act.put]); (try simp only [List.setIfInBounds_toArray]); (try simp only [List.set_cons_succ]); (try simp only [List.set_cons_zero])
  refine wpAnyH_ready (rs := [27]) (by kernel_rfl) (by simp) ?_
  refine AllReadyH.cons (o := _) rfl (fun K hK => ?_) AllReadyH.nil
  go_simp
  refine (SK.out).mono ?_
  rintro e w6 ⟨rfl, b6⟩
  rw [HF0.out]
  have b6' := b5'.trans (b6.mono b5'.size)
  obtain ⟨B6, ⟨x0, x1⟩, ⟨y0, y1⟩, l6⟩ := BX.out _ b6'
  have e0 := cell_below B6 (p := ad.add 0) (by rw [add_block]; exact hbl) d0
  rw [add_zero'] at e0
  refine hK.out _ _ ?_ (fun hHeld => ?_)
  · (try dsimp only); exact ⟨x0, x1, y0, y1, e0⟩
  clear hK K
  (try simp only [List.getElem_toArray, List.getElem_cons_zero, List.getElem_cons_succ]); (try simp only [Act.put]); (try simp only [List.setIfInBounds_toArray]); (try simp only [List.set_cons_succ]); (try simp only [List.set_cons_zero])
  refine wpAnyH_take (i := 28) (v := ?ev28) rfl (by kernel_rfl) (by kernel_rfl) (by kernel_rfl) (fun _ _ _ h => h) (Or.inl ⟨by kernel_rfl, ?eh28⟩) (by assumption) ?er28
  case eh28 => ((intro w hSw; (try dsimp only at hSw); go_simp) <;> with_reducible rfl)
  (try simp only [List.getElem_toArray, List.getElem_cons_zero, List.getElem_cons_succ]); (try simp only [Act.put]); (try simp only [List.setIfInBounds_toArray]); (try simp only [List.set_cons_succ]); (try simp only [List.set_cons_zero])
  refine wpAnyH_take (i := 29) (v := ?ev29) rfl (by kernel_rfl) (by kernel_rfl) (by kernel_rfl) (fun _ _ _ h => h) (Or.inl ⟨by kernel_rfl, ?eh29⟩) (by assumption) ?er29
  case eh29 => ((intro w hSw; (try dsimp only at hSw); go_simp) <;> with_reducible rfl)
  (try simp only [List.getElem_toArray, List.getElem_cons_zero, List.getElem_cons_succ]); (try simp only [Act.put]); (try simp only [List.setIfInBounds_toArray]); (try simp only [List.set_cons_succ]); (try simp only [List.set_cons_zero])
  refine wpAnyH_done (by kernel_rfl) ?_ _
  have HB6 := Lib.hid b6'
  clear b6' b6 b5 b3 b3' b5' B3 B5 x0 x1 y0 y1 e0 FK SK
  go_wp2
  go_loopg [5, 6] n4 (fun m i i6 wr => ∃ k : Nat, k + m = n4 ∧ i = .int .i64 k ∧ Hid (trOk s t k = true) ∧ Below W0.heap.size W0 wr)
  case atStart => exact ⟨0, by omega, rfl, Lib.hid rfl, HB6.out⟩
  case round =>
    clear HB6
    obtain ⟨k, hk, rfl, hT, hb⟩ := hrel
    obtain ⟨B, ⟨x0, x1⟩, ⟨y0, y1⟩, lw⟩ := BX.out _ hb
    have hq := HQ.out
    have hl' := HL'.out
    have h8 := HM2.out
    by_cases hlt : k < n4
    · obtain ⟨ad4, rfl, hbl4, d4⟩ := ((rd_ints.1 (Mem.rd_below h4 B)).2).int hlt
      obtain ⟨_, A7, n7, c7, e7, hbl7, d7, r7⟩ := ll_at (Mem.rd_below h3 B) (k := k) (by omega)
      injection e7 with e7
      subst e7
      obtain ⟨_, A8, n8, c8, e8, hbl8, d8, r8⟩ := ll_at (Mem.rd_below h3 B) (k := k + 1) (by omega)
      injection e8 with e8
      subst e8
      have hkn : (k : Int) < (n4 : Int) := by omega
      have hkn3 : (k : Int) < (n3 : Int) := by omega
      have hkn3' : (k : Int) + 1 < (n3 : Int) := by omega
      have R7 := Lib.hid (Mem.rd_more r7 B.size)
      have R8 := Lib.hid (fun W (B' : Below wr.heap.size wr W) => Mem.rd_more (Mem.rd_below r8 (B'.mono B.size)) (Nat.le_trans B.size B'.size))
      have D8 := Lib.hid (fun W (B' : Below wr.heap.size wr W) => cell_below B' (p := ad.add (k + 1)) (by rw [add_block]; exact Nat.lt_of_lt_of_le hbl8 B.size) d8)
      have Y0 := Lib.hid (fun W (B' : Below wr.heap.size wr W) => cell_below B' (p := ⟨w.heap.size + 1, 0, none⟩) (by show w.heap.size + 1 < wr.heap.size; omega) y0)
      have SK := ST.out k
      have STk := SL.out k
      cases hi : inB (ix t.rules k) 0 ((n2 : Int) - 1)
      · have HI := Lib.hid hi
        have HF : Hid (F = false) := Lib.hid (E.out.trans (STk (by rw [SK, SP.out, ← RI.out, hi]; simp) hlt))
        clear SK STk hi r7 r8
        go_wp2
        go_quiet ((go_at_call 44; exact Calls.quiet_of_same ((l1In_any _ _ _ _).mono fun _ _ h => ⟨h.1.trans (by rw [HI.out]), h.2.symm⟩)))
        go_wp2
        go_ret
        exact ⟨(congrArg (fun b => Ending.returned (.bool b)) HF.out).symm, B.trans ⟨rfl, rfl, rfl, Nat.le_refl _, fun _ _ => rfl⟩⟩
      · have HI := Lib.hid hi
        have hri : 0 ≤ ix t.rules k ∧ ix t.rules k ≤ (n2 : Int) - 1 := by unfold inB at hi; simpa [Bool.and_eq_true, decide_eq_true_eq] using hi
        obtain ⟨r, hr⟩ : ∃ r : Nat, ix t.rules k = r := ⟨(ix t.rules k).toNat, by omega⟩
        have hrs : r < s.rules.length := by rw [HL2.out]; omega
        have UK := Lib.hid (fun W (B' : Below w.heap.size w W) h' => UC.out k hT.out r hrs A7 n7 c7 W B' h')
        have UKd := Lib.hid (fun q => UK.out (wr.drewN q) ⟨B.os, B.tape, B.output, B.size, B.block⟩ (Mem.rd_keep R7.out fun _ _ => rfl))
        have SUk := SU.out k r
        have HULk := HUL.out k r
        have SK2 : trOk s t (k + 1) = (useB s (el t.states k) r && decide (useL s (el t.states k) r = el t.states (k + 1))) := by
          rw [SK, SP.out, ← RI.out, hi, hT.out, hr]; rfl
        rw [hr] at d4 HI
        generalize useL s (el t.states k) r = U at UKd SUk HULk SK2
        obtain ⟨ul, hul⟩ : ∃ ul, ul = U.length := ⟨_, rfl⟩
        have HUl := Lib.hid hul
        rw [← hul] at SUk HULk
        rw [SUk] at SK2
        have SK2 := Lib.hid SK2
        have STk := Lib.hid (fun h => E.out.trans (STk h hlt))
        have HLT := Lib.hid hlt
        clear SK hi r7 r8 hul SUk hri hr hrs
        go_wp2
        go_quiet ((go_at_call 44; exact Calls.quiet_of_same ((l1In_any _ _ _ _).mono fun _ _ h => ⟨h.1.trans (by rw [HI.out]), h.2.symm⟩)))
        go_wp2
        go_region_law (first
          | (go_simp; go_at_call 47; refine (UKd.out _).mono ?_; rintro e w7 ⟨v7, rfl, o7, b7⟩
             have b7' : Below wr.heap.size wr w7 := ⟨b7.os, b7.tape, b7.output, b7.size, b7.block⟩
             rw [← HUl.out] at o7
             obtain ⟨A9, c9, rfl, _, _⟩ := own_form o7
             obtain ⟨f9, om9, _, _⟩ := mem_ints (l := U) (by rw [← HUl.out]; exact o7) (by rw [← HUl.out]; unfold maxLen; omega)
             rw [← HUl.out] at om9
             have R9 := Lib.hid (Mem.own_rd om9)
             clear o7 om9))
        all_goals
          have d8' := D8.out _ b7'
          rw [add_pos _ (Nat.succ_pos k)] at d8'
          have y0' := Y0.out _ b7'
          have hb7 := hb.trans (b7'.mono hb.size)
          have HB7 := Lib.hid hb7
          by_cases q : 0 < ul
          · have q' : ((ul : Int) == 0) = false := by simp; omega
            have SC := Lib.hid (l2Same_any A9 ul c9 A8 n8 c8 U (el t.states (k + 1)) w7 (rd_ints.1 R9.out).2 (rd_ints.1 (R8.out _ b7')).2 (rd_max R9.out) (rd_max (R8.out _ b7')))
            cases hm : decide (U = el t.states (k + 1))
            · have HF : Hid (F = false) := Lib.hid (STk.out (by rw [SK2.out, hm]; simp))
              have HM := Lib.hid hm
              clear hm hb7 b7'
              go_wp2_with fail
              refine (SC.out).mono ?_
              rintro e w8 ⟨rfl, b8⟩
              rw [HM.out]
              go_wp2
              go_ret
              exact ⟨(congrArg (fun b => Ending.returned (.bool b)) HF.out).symm, (BX.out _ (HB7.out.trans (b8.mono HB7.out.size))).1⟩
            · have HN : Hid (trOk s t (k + 1) = true) := Lib.hid (by rw [SK2.out, hm, decide_eq_true q]; rfl)
              have HM := Lib.hid hm
              clear hm hb7 b7'
              go_wp2_with fail
              refine (SC.out).mono ?_
              rintro e w8 ⟨rfl, b8⟩
              rw [HM.out]
              go_wp2
              go_roundg (n4 - (k + 1))
              case measure => omega
              case rel => exact ⟨k + 1, by omega, by go_num, HN, HB7.out.trans (b8.mono HB7.out.size)⟩
          · have q' : ((ul : Int) == 0) = true := by simp; omega
            have HF : Hid (F = false) := Lib.hid (STk.out (by rw [SK2.out, decide_eq_false q]; rfl))
            clear hb7 b7'
            go_wp2
            go_ret
            exact ⟨(congrArg (fun b => Ending.returned (.bool b)) HF.out).symm, (BX.out _ HB7.out).1⟩
    · obtain rfl : k = n4 := by omega
      have HF : Hid (F = true) := Lib.hid (E.out.trans hT.out)
      go_wp2
      go_ret
      exact ⟨(congrArg (fun b => Ending.returned (.bool b)) HF.out).symm, B⟩

theorem traceValid_spec (s : Sy) (t : Tr) (A1 : Option Addr) (n1 c1 : Nat) (A2 : Option Addr) (n2 c2 : Nat) (A3 : Option Addr) (n3 c3 : Nat) (A4 : Option Addr) (n4 c4 : Nat) (w : World) (h1 : Mem.rd w w.heap.size [.slice A1 n1 c1] s.vars) (h2 : Mem.rd w w.heap.size [.slice A2 n2 c2] s.rules)
    (h3 : Mem.rd w w.heap.size [.slice A3 n3 c3] t.states) (h4 : Mem.rd w w.heap.size [.slice A4 n4 c4] t.rules) :
    Calls Try.prog 19 #[.agg #[.slice A1 n1 c1, .slice A2 n2 c2], .agg #[.slice A3 n3 c3, .slice A4 n4 c4]] w (GivesBool w (traceB s t)) := by
  by_cases hg : sysB s = true ∧ inB (n3 : Int) 1 500 = true ∧ n4 + 1 = n3 ∧ el t.states 0 = firsts s.vars
  · exact tvs_good s t A1 n1 c1 A2 n2 c2 A3 n3 c3 A4 n4 c4 w h1 h2 h3 h4 hg.1 hg.2.1 hg.2.2.1 hg.2.2.2
  · exact tvs_bad s t A1 n1 c1 A2 n2 c2 A3 n3 c3 A4 n4 c4 w h1 h2 h3 h4 hg
end Go.Proofs.Ytmlhnnkdecabpaa
