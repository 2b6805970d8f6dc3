/- The model's Joined. -/
import Derived.Test.YtmpclfjaddjelaaJoin
namespace Go.Proofs.Ytmpclfjaddjelaa
open Go.RowKit

/-- As the model moves a term. -/
def mvS (d : Int) (t : Tm) : Tm := if 2 ≤ t.op then ⟨t.op, 0, t.a + d, t.b + d⟩ else t
theorem l1Moved_any (t : Tm) (d : Int) (w : World) (d1 : 0 ≤ d) (d2 : d ≤ 40) (h : 2 ≤ t.op → 0 ≤ t.a ∧ t.a < 40 ∧ 0 ≤ t.b ∧ t.b < 40) :
    Calls Try.prog 59 #[.agg #[.int .i64 t.op, .int .i64 t.n, .int .i64 t.a, .int .i64 t.b], .int .i64 d] w fun e w' => e = .returned (mvS d t).v ∧ Below w.heap.size w w' := by
  obtain ⟨op, n, a, b⟩ := t
  dsimp only at h ⊢
  by_cases g : 2 ≤ op
  · obtain ⟨a1, a2, b1, b2⟩ := h g
    have e : (mvS d ⟨op, n, a, b⟩).v = .agg #[.int .i64 op, .int .i64 0, .int .i64 (a + d), .int .i64 (b + d)] := by unfold mvS Tm.v; rw [if_pos g]
    rw [e]
    clear h e
    go_enter Try.func59, Try.ntmps59
    go_wp2
    exact bodyPost_ret (v := .agg #[.int .i64 op, .int .i64 0, .int .i64 (a + d), .int .i64 (b + d)]) (by simp [results, Try.results59, go_sem]) rfl ⟨rfl, (below_alloc _ _).alloc (by simp) _⟩
  · have e : (mvS d ⟨op, n, a, b⟩).v = .agg #[.int .i64 op, .int .i64 n, .int .i64 a, .int .i64 b] := by unfold mvS Tm.v; rw [if_neg g]
    rw [e]
    clear h e
    go_enter Try.func59, Try.ntmps59
    go_wp2
    exact bodyPost_ret (v := .agg #[.int .i64 op, .int .i64 n, .int .i64 a, .int .i64 b]) (by simp [results, Try.results59, go_sem]) rfl ⟨rfl, (below_alloc _ _).alloc (by simp) _⟩

theorem mvS_eq {l : List Tm} {vars d : Int} (h : validB l vars = true) {k : Nat} (hk : k < l.length) : mvS d (tx l k) = mv d (tx l k) := by
  unfold mvS mv
  split
  · rename_i g; rw [op_zero h hk g]
  · rfl
theorem mv_take_succ {d : Int} {l : List Tm} {k : Nat} (h : k < l.length) : (l.take (k + 1)).map (mv d) = (l.take k).map (mv d) ++ [mv d (tx l k)] := by
  rw [List.take_succ_eq_append_getElem h, tx_lt h, List.map_append]; rfl
theorem take_snoc {l : List Tm} {k : Nat} (h : k < l.length) : l.take (k + 1) = l.take k ++ [tx l k] := by
  rw [List.take_succ_eq_append_getElem h, tx_lt h]

set_option maxHeartbeats 4000000 in
theorem joined_spec (A : Option Addr) (n c : Nat) (A' : Option Addr) (n' c' : Nat) (op : Int) (a b : List Tm) (vars : Int) (w : World) (h : Rd w w.heap.size 4 A n (tms a)) (h' : Rd w w.heap.size 4 A' n' (tms b)) (hn : n ≤ maxLen) (hn' : n' ≤ maxLen) :
    Calls Try.prog 24 #[.int .i64 op, .slice A n c, .slice A' n' c', .int .i64 vars] w (GivesTms w (joinedL op a b vars)) := by
  have hl := Lib.hid h.tlen
  have hl' := Lib.hid h'.tlen
  cases g : validB a vars
  · rw [joined_no (.inl g)]
    have G := Lib.hid g
    clear g
    go_enter Try.func24, Try.ntmps24
    go_wp2_with fail
    refine (valid_spec A n c a vars _ h hn).mono ?_
    rintro e w1 ⟨rfl, b1⟩
    rw [G.out]
    go_wp2
    go_ret
    exact gives_none _ _ b1
  cases g' : validB b vars
  · rw [joined_no (.inr (.inl g'))]
    have G := Lib.hid g
    have G' := Lib.hid g'
    clear g g'
    go_enter Try.func24, Try.ntmps24
    go_wp2_with fail
    refine (valid_spec A n c a vars _ h hn).mono ?_
    rintro e w1 ⟨rfl, b1⟩
    rw [G.out]
    go_wp2_with fail
    refine (valid_spec A' n' c' b vars _ ((h'.below b1).more b1.size) hn').mono ?_
    rintro e w2 ⟨rfl, b2⟩
    rw [G'.out]
    go_wp2
    go_ret
    exact gives_none _ _ (b1.trans (b2.mono b1.size))
  obtain ⟨s1, s2, _, _⟩ := valid_small g
  obtain ⟨t1, t2, _, _⟩ := valid_small g'
  have hs1 : 1 ≤ n := by have := hl.out; omega
  have hs2 : n ≤ 40 := by have := hl.out; omega
  have ht1 : 1 ≤ n' := by have := hl'.out; omega
  have ht2 : n' ≤ 40 := by have := hl'.out; omega
  have HS := Lib.hid (fun k (hk : k < b.length) => mvS_eq (d := (n : Int)) g' hk)
  have HO := Lib.hid (fun k (hk : k < b.length) e => op_small g' (k := k) hk e)
  have hjp := jP_len (op := op) g g'
  have G := Lib.hid g
  have G' := Lib.hid g'
  clear g g'
  go_enter Try.func24, Try.ntmps24
  go_wp2_with fail
  refine (valid_spec A n c a vars _ h hn).mono ?_
  rintro e w1 ⟨rfl, b1⟩
  rw [G.out]
  go_wp2_with fail
  refine (valid_spec A' n' c' b vars _ ((h'.below b1).more b1.size) hn').mono ?_
  rintro e w2 ⟨rfl, b2⟩
  rw [G'.out]
  have B2 := b1.trans (b2.mono b1.size)
  clear b1 b2
  go_wp2
  have hown0 := World.ownsRow_lit (base := w.heap.size) (e := 64) (size := 4) w2 #[] 0 B2.size (by unfold maxLen; omega) rfl
  go_loopg [9, 10] n (fun m v i wr => ∃ k : Nat, k + m = n ∧ i = .int .i64 k ∧ wr.ownsRow w.heap.size 64 4 v k (tms (a.take k)) ∧ Below w.heap.size w wr)
  case atStart => exact ⟨0, by omega, rfl, hown0, B2.alloc B2.size _⟩
  case round =>
    obtain ⟨k, hk, rfl, ho, hb⟩ := hrel
    clear hown0 B2
    by_cases hlt : k < n
    · have hkl : k < a.length := by have := hl.out; omega
      obtain ⟨ad, rfl, _, h0, h1, h2, h3⟩ := (h.below hb).tm hlt
      have M := Lib.hid (take_snoc hkl)
      have HO1 := Lib.hid ho
      go_wp2_with (first | (at_builtin; refine app_tms_at rfl _ _ rfl w.heap.size _ k (a.take k) [tx a k] 1 1 _ rfl (HO1.out.alloc _) rfl rfl (new_tm_at _ (tx a k) _ rfl) (by omega) (by have := hb.size; simp; omega) ?_; intro v' w3 ho3 hb3))
      go_roundg (n - (k + 1))
      case measure => omega
      case rel => exact ⟨k + 1, by omega, by go_num, by rw [M.out]; exact ho3, (hb.alloc hb.size _).trans hb3⟩
    · obtain rfl : k = n := by omega
      rw [List.take_of_length_le (by have := hl.out; omega)] at ho
      go_wp2
      go_loopg [9, 11] n' (fun m v i wr => ∃ j : Nat, j + m = n' ∧ i = .int .i64 j ∧ (op = 7 → j = 0) ∧ wr.ownsRow w.heap.size 64 4 v (k + j) (tms (a ++ (b.take j).map (mv k))) ∧ Below w.heap.size w wr)
      case atStart => exact ⟨0, by omega, rfl, fun _ => rfl, by simpa using ho, hb⟩
      case round =>
        obtain ⟨j, hj, rfl, hj7, ho2, hb2⟩ := hrel
        clear ho hb
        by_cases hlt2 : j < n' ∧ op ≠ 7
        · obtain ⟨hj1, hop⟩ := hlt2
          have hkl : j < b.length := by have := hl'.out; omega
          have hq : (op == 7) = false := by simpa using hop
          obtain ⟨ad, rfl, _, h0, h1, h2, h3⟩ := (h'.below hb2).tm hj1
          have M := Lib.hid (mv_take_succ (d := (k : Int)) hkl)
          have E := Lib.hid (HS.out j hkl)
          have HM := Lib.hid (fun W => l1Moved_any (tx b j) k W (by omega) (by omega) (HO.out j hkl))
          have HO1 := Lib.hid ho2
          clear hj7 hop
          go_wp2_with (first
            | (go_at_call 58; refine (l1One_any _ _).mono ?_; rintro e w' ⟨rfl, rfl⟩)
            | (go_at_call 59; refine (HM.out _).mono ?_; rintro e w3 ⟨rfl, hb3⟩; rw [E.out]; unfold Tm.v)
            | (at_builtin; refine app_tms_at rfl _ _ rfl w.heap.size _ (k + j) (a ++ (b.take j).map (mv k)) [mv k (tx b j)] 1 1 _ rfl ((own_below HO1.out hb3).alloc _) rfl rfl (new_tm_at _ (mv k (tx b j)) _ rfl) (by omega) (by have := hb2.size; have := hb3.size; simp; omega) ?_; intro v' w4 ho4 hb4))
          go_roundg (n' - (j + 1))
          case measure => omega
          case rel =>
            refine ⟨j + 1, by omega, by go_num, fun x => absurd x (by simpa using hq), ?_, ?_⟩
            · rw [M.out, ← List.append_assoc]; exact ho4
            · have s := hb2.size
              have s3 := hb3.size
              exact ((hb2.trans (hb3.mono s)).alloc (by omega) _).trans hb4
        · have HPL : Hid (a ++ (b.take j).map (mv k) = jP op a b ∧ (jP op a b).length = k + j) := by
            show _ ∧ _
            have e1 := hl.out
            have e2 := hl'.out
            unfold jP
            by_cases h7 : op = 7
            · have := hj7 h7
              subst this
              rw [if_pos h7]; simp [e1]
            · have : j = n' := by omega
              subst this
              rw [if_neg h7, List.take_of_length_le (by omega), e1]
              refine ⟨rfl, ?_⟩
              simp [e1, e2]
          rw [HPL.out.1] at ho2
          have HL := Lib.hid HPL.out.2
          have HJ : Hid (jL op a b = jP op a b ++ [⟨op, 0, (k : Int) - 1, ((k + j : Nat) : Int) - 1⟩]) := by
            show jL op a b = _
            unfold jL; rw [HL.out, hl.out]
          obtain ⟨A2, c2, rfl, _, _⟩ := own_form ho2
          have HO2 := Lib.hid ho2
          clear ho2 hjp
          have hcase : (j < n' ∧ op = 7) ∨ (j = n') := by omega
          have hj40 : j ≤ 40 := by omega
          by_cases hlo : op < 2
          · obtain rfl : j = n' := by omega
            clear hcase hlt2 hj7
            go_wp2_with (first
              | (go_at_call 58; refine (l1One_any _ _).mono ?_; rintro e w' ⟨rfl, rfl⟩)
              | (at_builtin; refine app_tms_at rfl _ _ rfl w.heap.size _ (k + _) (jP _ a b) [⟨_, 0, (k : Int) - 1, ((k + _ : Nat) : Int) - 1⟩] 1 1 _ rfl (HO2.out.alloc _) rfl rfl (new_tm_at _ ⟨_, 0, _, _⟩ _ rfl) (by omega) (by have := hb2.size; simp; omega) ?_; intro v' w4 ho4 hb4))
            go_ret
            rw [joined_no (.inr (.inr (.inl (inB_not.2 (.inl hlo)))))]
            exact gives_none _ _ ((hb2.alloc hb2.size _).trans hb4)
          have HIN : Hid (validB (jL op a b) vars = true → inB op 2 9 = true) := by
            show validB (jL op a b) vars = true → inB op 2 9 = true
            intro hv
            by_cases h9 : 9 < op
            · rw [show jL op a b = jP op a b ++ [⟨op, 0, (a.length : Int) - 1, ((jP op a b).length : Int) - 1⟩] from rfl, last_bad h9] at hv; cases hv
            · exact inB_iff.2 (by omega)
          rcases hcase with ⟨hx, rfl⟩ | rfl
          · clear hlt2 hj7
            go_wp2_with (first
              | (go_at_call 58; refine (l1One_any _ _).mono ?_; rintro e w' ⟨rfl, rfl⟩)
              | (at_builtin; refine app_tms_at rfl _ _ rfl w.heap.size _ (k + _) (jP _ a b) [⟨_, 0, (k : Int) - 1, ((k + _ : Nat) : Int) - 1⟩] 1 1 _ rfl (HO2.out.alloc _) rfl rfl (new_tm_at _ ⟨_, 0, _, _⟩ _ rfl) (by omega) (by have := hb2.size; simp; omega) ?_; intro v' w4 ho4 hb4))
            obtain ⟨A6, c6, rfl, _, _⟩ := own_form ho4
            have B6 := (hb2.alloc hb2.size _).trans hb4
            rw [← HJ.out] at ho4
            refine (valid_spec A6 (k + j + 1) c6 (jL 7 a b) vars _ (Rd.of_own ho4) (by unfold maxLen; omega)).mono ?_
            rintro e w7 ⟨rfl, b7⟩
            have o7 := own_below ho4 b7
            have B7 := B6.trans (b7.mono B6.size)
            have hlen : (jL 7 a b).length = k + j + 1 := by have := ho4.1; rw [len_tms] at this; omega
            have HLL := Lib.hid hlen; clear hlen
            cases hv : validB (jL 7 a b) vars
            · have HV := Lib.hid hv; clear hv
              go_wp2
              go_ret
              rw [joined_no (.inr (.inr (.inr HV.out)))]
              exact gives_none _ _ B7
            · have HV := Lib.hid hv; clear hv
              go_wp2
              go_ret
              have e : joinedL 7 a b vars = jL 7 a b := by
                unfold joinedL
                rw [if_pos]
                unfold jOk
                rw [G.out, G'.out, HV.out, HIN.out HV.out]; rfl
              rw [e]
              exact ⟨_, rfl, by rw [HLL.out]; exact o7, B7⟩
          · clear hlt2 hj7
            go_wp2_with (first
              | (go_at_call 58; refine (l1One_any _ _).mono ?_; rintro e w' ⟨rfl, rfl⟩)
              | (at_builtin; refine app_tms_at rfl _ _ rfl w.heap.size _ (k + _) (jP _ a b) [⟨_, 0, (k : Int) - 1, ((k + _ : Nat) : Int) - 1⟩] 1 1 _ rfl (HO2.out.alloc _) rfl rfl (new_tm_at _ ⟨_, 0, _, _⟩ _ rfl) (by omega) (by have := hb2.size; simp; omega) ?_; intro v' w4 ho4 hb4))
            obtain ⟨A6, c6, rfl, _, _⟩ := own_form ho4
            have B6 := (hb2.alloc hb2.size _).trans hb4
            rw [← HJ.out] at ho4
            refine (valid_spec A6 (k + j + 1) c6 (jL op a b) vars _ (Rd.of_own ho4) (by unfold maxLen; omega)).mono ?_
            rintro e w7 ⟨rfl, b7⟩
            have o7 := own_below ho4 b7
            have B7 := B6.trans (b7.mono B6.size)
            have hlen : (jL op a b).length = k + j + 1 := by have := ho4.1; rw [len_tms] at this; omega
            have HLL := Lib.hid hlen; clear hlen
            cases hv : validB (jL op a b) vars
            · have HV := Lib.hid hv; clear hv
              go_wp2
              go_ret
              rw [joined_no (.inr (.inr (.inr HV.out)))]
              exact gives_none _ _ B7
            · have HV := Lib.hid hv; clear hv
              go_wp2
              go_ret
              have e : joinedL op a b vars = jL op a b := by
                unfold joinedL
                rw [if_pos]
                unfold jOk
                rw [G.out, G'.out, HV.out, HIN.out HV.out]; rfl
              rw [e]
              exact ⟨_, rfl, by rw [HLL.out]; exact o7, B7⟩
end Go.Proofs.Ytmpclfjaddjelaa
