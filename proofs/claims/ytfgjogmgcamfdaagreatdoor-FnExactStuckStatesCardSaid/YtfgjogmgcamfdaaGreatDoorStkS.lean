/- In which states a system can be stuck, of the model. -/
import Derived.Test.YtfgjogmgcamfdaaGreatDoorMsL
namespace Go.Proofs.YtfgjogmgcamfdaaGreatDoor
open Go.RowKit

/-- The numbers of a list that are so. -/
def keepL (P : Nat → Bool) : List Int → List Int
  | [] => []
  | x :: l => if P x.toNat then x :: keepL P l else keepL P l
theorem keepL_app (P : Nat → Bool) : ∀ l m : List Int, keepL P (l ++ m) = keepL P l ++ keepL P m
  | [], _ => rfl
  | x :: l, m => by
    show (if P x.toNat then x :: keepL P (l ++ m) else keepL P (l ++ m)) = (if P x.toNat then x :: keepL P l else keepL P l) ++ keepL P m
    rw [keepL_app P l m]
    split <;> rfl
theorem keepL_pick (P R : Nat → Bool) : ∀ m, keepL P (pick R m) = pick (fun n => R n && P n) m
  | 0 => rfl
  | m + 1 => by
    show keepL P (pick R m ++ _) = pick _ m ++ _
    rw [keepL_app, keepL_pick P R m]
    congr 1
    cases h : R m <;> cases q : P m <;> simp [keepL, h, q]
theorem keepL_len (P : Nat → Bool) : ∀ l, (keepL P l).length ≤ l.length
  | [] => Nat.le_refl _
  | x :: l => by
    have := keepL_len P l
    show (if P x.toNat then x :: keepL P l else keepL P l).length ≤ l.length + 1
    split
    · simp; exact this
    · omega
/-- Whether no state comes behind one. -/
def noneP (s : Sy) : Nat → Bool := fun n => decide ((nextL s (stL s.vars n) s.rules.length).length = 0)
theorem stuck_keep (s : Sy) : keepL (noneP s) (reachB s) = stuckB s := by
  unfold reachB stuckB
  cases sysB s
  · rfl
  · rw [if_pos rfl, if_pos rfl, keepL_pick]
    rfl

set_option maxRecDepth 100000 in
set_option maxHeartbeats 8000000 in
theorem stuckStates_spec (s : Sy) (A1 : Option Addr) (n1 c1 : Nat) (A2 : Option Addr) (n2 c2 : Nat) (w : World) (h1 : Mem.rd w w.heap.size [.slice A1 n1 c1] s.vars) (h2 : Mem.rd w w.heap.size [.slice A2 n2 c2] s.rules) :
    Calls Tryz.prog 27 #[.agg #[.slice A1 n1 c1, .slice A2 n2 c2]] w (GivesL w (stuckB s)) := by
  have BX := Lib.hid (sy_box (w := w) (v1 := .slice A1 n1 c1) (v2 := .slice A2 n2 c2))
  have RC := Lib.hid (fun W (B : Below w.heap.size w W) => reachOf_spec s A1 n1 c1 A2 n2 c2 W (Mem.rd_on h1 B) (Mem.rd_on h2 B))
  have HL := Lib.hid (stuckB_len s)
  have KE := Lib.hid (stuck_keep s)
  have RS := Lib.hid (fun k (hk : k < (reachB s).length) => show sysB s = true ∧ 0 ≤ ix (reachB s) k ∧ ix (reachB s) k < 400 by
    have hz : sysB s = true := by
      cases h : sysB s
      · unfold reachB at hk; rw [h] at hk; simp at hk
      · rfl
    have := sizeB_bd hz
    unfold reachB at hk ⊢
    rw [hz, if_pos rfl] at hk ⊢
    have := pick_range k hk
    exact ⟨rfl, by omega, by omega⟩)
  have RL4 : (reachB s).length ≤ 400 := by
    unfold reachB
    cases h : sysB s
    · simp
    · rw [if_pos rfl]; exact Nat.le_trans (pick_len _ _) (size_to h)
  have AC := Lib.hid (fun (q : Nat) (hz : sysB s = true) (hq : q < 400) W (B : Below w.heap.size w W) => l4State_any s q A1 n1 c1 A2 n2 c2 W (Mem.rd_on h1 B) (Mem.rd_on h2 B) hz (by omega) (by omega))
  have NC := Lib.hid (fun (q : Nat) (hz : sysB s = true) W A n c (B : Below w.heap.size w W) (h : Mem.rd W W.heap.size [.slice A n c] (stL s.vars q)) => l2Next_any s (stL s.vars q) A1 n1 c1 A2 n2 c2 A n c W (Mem.rd_on h1 B) (Mem.rd_on h2 B) h (sysOk_of hz) (stL_has _ (sysOk_of hz).vars))
  have SL := Lib.hid (fun (q : Nat) => (stL_len s.vars q).trans (rd_len h1))
  have HN1 := Lib.hid (fun (hz : sysB s = true) => show n1 ≤ 5 by have := rd_len h1; have := (sysOk_of hz).hi; omega)
  have NP := Lib.hid (fun (q : Nat) => show noneP s q = decide ((nextL s (stL s.vars q) s.rules.length).length = 0) from rfl)
  have I0 := Lib.hid (IL.lit (w.alloc (.cells #[.slice A1 n1 c1, .slice A2 n2 c2] 32)) 3 (base := w.heap.size + 1) (by simp))
  rw [World.size_alloc] at I0
  have HBa := Lib.hid (below_alloc (w.alloc (.cells #[.slice A1 n1 c1, .slice A2 n2 c2] 32)) (.cells #[] 3))
  have RK := Lib.hid (RC.out _ (BX.out _ HBa.out).1)
  obtain ⟨_, xa0, xa1⟩ := BX.out _ HBa.out
  clear RC
  generalize stuckB s = F at *
  generalize noneP s = P at *
  generalize reachB s = Rb at *
  go_enter Tryz.func27, Tryz.ntmps27
  go_wp2_with fail
  refine (RK.out).mono ?_
  rintro e w2 ⟨A4, n4, c4, f4, rfl, o4, _, lo4, b2⟩
  have L4 := rd_len (Mem.own_rd o4)
  have n400 : n4 ≤ 400 := by omega
  have HL4 := Lib.hid L4
  have O2 := Lib.hid o4
  have HB2 := Lib.hid (HBa.out.trans (b2.mono HBa.out.size))
  have I2 : Hid (IL w2 (w.heap.size + 1) 3 (.slice (some ⟨w.heap.size + 1, 0, none⟩) 0 0) 0 (keepL P (Rb.take 0)) [w.heap.size + 1]) := Lib.hid (I0.out.below b2)
  have HF2 : Hid (∀ b ∈ [w.heap.size + 1], b = w.heap.size + 1 ∨ w2.heap.size ≤ b) := Lib.hid fun b hb => .inl (by simpa using hb)
  have HQ2 : Hid (0 = (keepL P (Rb.take 0)).length) := Lib.hid rfl
  have LD : Hid (∀ b ∈ f4, w.heap.size + 2 ≤ b ∧ b < w2.heap.size) := Lib.hid fun b hb => ⟨by have := lo4 b hb; simp only [World.size_alloc] at this; omega, Mem.own_lt o4 b hb⟩
  clear o4 lo4 b2 L4 RL4 I0 HBa RK xa0 xa1
  go_wp2
  go_loopg [3, 5] n4 (fun m v i wr => ∃ (k q : Nat) (fr : List Nat), k + m = n4 ∧ i = .int .i64 k ∧ q ≤ k ∧ Hid (q = (keepL P (Rb.take k)).length) ∧ Hid (IL wr (w.heap.size + 1) 3 v q (keepL P (Rb.take k)) fr) ∧ Hid (∀ b ∈ fr, b = w.heap.size + 1 ∨ w2.heap.size ≤ b) ∧ Hid (Mem.own wr f4 [.slice A4 n4 c4] Rb) ∧ Hid (Below (w.alloc (.cells #[.slice A1 n1 c1, .slice A2 n2 c2] 32)).heap.size (w.alloc (.cells #[.slice A1 n1 c1, .slice A2 n2 c2] 32)) wr) ∧ Hid (w2.heap.size ≤ wr.heap.size))
  case atStart => exact ⟨0, 0, _, by omega, rfl, Nat.le_refl _, HQ2, I2, HF2, O2, HB2, Lib.hid (Nat.le_refl _)⟩
  case round =>
    clear I2 HF2 O2 HB2 HQ2
    obtain ⟨k, q, fr, hk, rfl, hqk, hq, hI, hF, ho, hb, hs⟩ := hrel
    by_cases hlt : k < n4
    · have hkn : (k : Int) < (n4 : Int) := by omega
      obtain ⟨ad, rfl, hbl, e0⟩ := (rd_ints.1 (Mem.own_rd ho.out)).2.int hlt
      have HLk := HL4.out
      obtain ⟨hz, r1, r2⟩ := RS.out k (by omega)
      obtain ⟨q0, hq0⟩ : ∃ q0 : Nat, ix Rb k = q0 := ⟨(ix Rb k).toNat, by omega⟩
      have HQ0 := Lib.hid hq0
      rw [hq0] at e0
      have PE : Hid (keepL P (Rb.take (k + 1)) = keepL P (Rb.take k) ++ (if P q0 then [(q0 : Int)] else [])) := Lib.hid (by
        rw [take_el (by omega), show [el Rb k] = [(q0 : Int)] by rw [← hq0]; rfl, keepL_app]
        show _ ++ (if P (q0 : Int).toNat then _ else _) = _
        rw [Int.toNat_natCast]
        rfl)
      obtain ⟨B, x0, x1⟩ := BX.out _ hb.out
      have Bd : Below w.heap.size w wr.drew := ⟨B.os, B.tape, B.output, B.size, B.block⟩
      have AK := Lib.hid (AC.out q0 hz (by omega) wr.drew Bd)
      have PN := NP.out q0
      have N1 := Lib.hid (HN1.out hz)
      have NC0 := Lib.hid (NC.out q0 hz)
      obtain ⟨NL, hNL⟩ : ∃ NL, NL = nextL s (stL s.vars q0) s.rules.length := ⟨_, rfl⟩
      rw [← hNL] at PN NC0
      have PN := Lib.hid PN
      have SL0 := Lib.hid (SL.out q0)
      have HSZ := Lib.hid hs.out
      clear HLk hz r1 r2 hq0 Bd B hNL
      go_wp2
      go_region_law (first
        | (go_simp; go_at_call 68; refine (AK.out).mono ?_; rintro e w5 ⟨v5, rfl, o5, b5⟩
           have b5' : Below wr.heap.size wr w5 := ⟨b5.os, b5.tape, b5.output, b5.size, b5.block⟩
           have hb5 := Lib.hid (hb.out.trans (b5'.mono hb.out.size))
           obtain ⟨B5, y0, y1⟩ := BX.out _ hb5.out
           rw [SL0.out] at o5
           obtain ⟨A5, c5, rfl, _, _⟩ := own_form o5
           obtain ⟨f5, om5, _, _⟩ := mem_ints (l := stL s.vars q0) (by rw [SL0.out]; exact o5) (by rw [SL0.out]; have := N1.out; unfold maxLen; omega)
           rw [SL0.out] at om5
           have NK := Lib.hid (NC0.out w5 A5 n1 c5 B5 (Mem.own_rd om5))
           clear om5 o5)
        | (go_simp; go_at_call 67; refine (NK.out).mono ?_; rintro e w6 ⟨A6, n6, c6, rfl, r6, b6⟩
           have L6 := rd_len r6
           have b6' := b5'.trans (b6.mono b5'.size)
           have HB6 := Lib.hid (hb.out.trans (b6'.mono hb.out.size))
           have I6 := Lib.hid (hI.out.below b6')
           have O6 := Lib.hid (Mem.own_below ho.out b6')
           have S6 := Lib.hid (Nat.le_trans HSZ.out b6'.size)
           have HL6 := Lib.hid L6
           clear r6 L6))
      all_goals
        obtain ⟨ad', ea, hbl', e6⟩ := (rd_ints.1 (Mem.own_rd O6.out)).2.int hlt
        injection ea with ea
        subst ea
        rw [HQ0.out] at e6
        have PE2 := PE.out
        by_cases h0 : n6 = 0
        · have hp : P q0 = true := by rw [PN.out]; exact decide_eq_true (by rw [HL6.out]; exact h0)
          rw [hp, if_pos (rfl : true = true)] at PE2
          have PE3 := Lib.hid PE2
          have c0 : ((n6 : Int) == 0) = true := by simp [h0]
          have I8 := Lib.hid (fun o => I6.out.below (below_alloc w6 o))
          have SW : Hid (w.heap.size + 1 ≤ w6.heap.size) := Lib.hid (by have := HB6.out.size; rw [World.size_alloc] at this; exact this)
          clear PE2 hp h0 PN PE hb hI ho hs e0 x0 x1 y0 y1 b5 b5' b6 b6' hbl hbl'
          go_wp2_with (first
            | (at_builtin; refine app_il rfl _ _ rfl rfl (I8.out _) rfl (World.cell?_alloc_at _ _ _ _ (by simp)) (by omega) (by rw [World.size_alloc]; have := SW.out; omega) ?_; intro v9 w9 f9 l9 on9 in9))
          have lo9 := (I8.out (.cells #[.int .i64 q0] 3)).lt
          go_roundg (n4 - (k + 1))
          case measure => omega
          case rel =>
            refine ⟨k + 1, q + 1, f9, by omega, by go_num, by omega, by rw [PE3.out, List.length_append]; exact Lib.hid (by rw [hq.out]; rfl), by rw [PE3.out]; exact Lib.hid l9, Lib.hid fun b hb => ?_, Lib.hid (Mem.own_only (Mem.own_below O6.out (below_alloc w6 _)) on9 fun b hb hc => ?_), Lib.hid ?_, Lib.hid ?_⟩
            · rcases in9 b hb with h | h
              · exact hF.out b h
              · rw [World.size_alloc] at h
                have := S6.out
                right; omega
            · have a := LD.out b hb
              rcases hF.out b hc with h | h <;> omega
            · have q1 := HB6.out.alloc HB6.out.size (.cells #[.int .i64 q0] 3)
              exact q1.trans (on9.below q1.size fun b hb => by rw [World.size_alloc]; exact (lo9 b hb).1)
            · have := on9.size
              rw [World.size_alloc] at this
              have := S6.out
              omega
        · have hp : P q0 = false := by rw [PN.out]; exact decide_eq_false (by rw [HL6.out]; exact h0)
          rw [hp, if_neg (by simp), List.append_nil] at PE2
          have PE3 := Lib.hid PE2
          have c0 : ((n6 : Int) == 0) = false := by simp [h0]
          clear PE2 hp h0 PN PE hb hI ho hs e0 x0 x1 y0 y1 b5 b5' b6 b6' hbl hbl'
          go_wp2
          go_roundg (n4 - (k + 1))
          case measure => omega
          case rel => exact ⟨k + 1, q, fr, by omega, by go_num, by omega, by rw [PE3.out]; exact hq, by rw [PE3.out]; exact I6, hF, O6, HB6, S6⟩
    · have ek : k = n4 := by omega
      have nk : ¬ (k : Int) < (n4 : Int) := by omega
      have HLk := HL4.out
      have e : keepL P (Rb.take k) = F := by rw [List.take_of_length_le (by omega)]; exact KE.out
      have I9 := hI.out.1
      have Q9 := hq.out
      rw [e] at I9 Q9
      rw [Q9] at I9
      have I9 := Lib.hid I9
      have HB9 := hb
      clear ek HLk e Q9 hI hF ho hb hs hq
      go_wp2
      go_ret
      exact givesL_of ⟨_, rfl, own_lower I9.out (by omega), (BX.out _ HB9.out).1⟩ (by have := HL.out; unfold maxLen; omega)
end Go.Proofs.YtfgjogmgcamfdaaGreatDoor
