/- Circuits: NeedsInputs, in the model. -/
import Derived.Test.YtnpdeliaefjmlaaNi
namespace Go.Proofs.Ytnpdeliaefjmlaa
open Go.RowKit
set_option maxRecDepth 100000

theorem run_app_int_n (base : Nat) (v : Value) (k : Nat) (l : List Int) (z : Int) (ty : TypeId) (W : World) (hown : W.ownsRow base 3 1 v k (ints l)) (ad : Addr) (had : W.cell? ad = some (.int .i64 z)) (hk : k < 1000000000) (hb : base ≤ W.heap.size) :
    ∃ v' w', (Builtin.append_ #[26, 26] ty #[v, .slice (some ad) 1 1]).run Try.prog W = .ok v' w' ∧ w'.ownsRow base 3 1 v' (k + 1) (ints (l ++ [z])) ∧ W.grownBy w' v.ownBlock ∧ (v'.ownBlock = v.ownBlock ∨ v'.ownBlock = some W.heap.size) := by
  have hm : ∀ (j : Nat) (u : Value), [Value.int .i64 z][j]? = some u → W.cell? (ad.add j) = some u := by
    intro j u hu
    cases j with
    | zero => rw [add_zero', had]; simpa using hu
    | succ j => simp at hu
  obtain ⟨v', w', hrun, h1, h2, _, h4⟩ := run_append_own_at (P := Try.prog) W base 26 ty 3 intRow (.int .i64 0) 1 8 Try.underlying26 int_row.1 int_row.2.1 int_row.2.2.1 int_row.2.2.2 rfl (by decide) v k _ hown ad 1 1 [.int .i64 z] rfl hm (by intro u hu; simp at hu; subst hu; rfl) (by unfold maxLen; omega) (by omega) hb
  refine ⟨v', w', hrun, ?_, h2, ?_⟩
  · have e : ints l ++ [Value.int .i64 z] = ints (l ++ [z]) := by simp [ints]
    rw [e] at h1; exact h1
  · rcases h4 with h | h
    · exact .inl h
    · exact .inr h
theorem app_int_gn {ops : Array Oper} {rest : List Oper} {o : Oper} {a : Act} {Q : Exit → Act → World → Prop} {W : World} (hgd : o.guard = none) (s x : Operand)
    (ho : o.op = .call { callee := .builtin .append, args := #[s, x], argTypes := #[26, 26] }) (base : Nat) (v : Value) (k : Nat) (l : List Int) (z : Int) (ad : Addr)
    (hs : a.eval s = v) (hown : W.ownsRow base 3 1 v k (ints l)) (hx : a.eval x = .slice (some ad) 1 1) (had : W.cell? ad = some (.int .i64 z)) (hk : k < 1000000000) (hb : base ≤ W.heap.size)
    (h : ∀ v' w', w'.ownsRow base 3 1 v' (k + 1) (ints (l ++ [z])) → W.grownBy w' v.ownBlock → (v'.ownBlock = v.ownBlock ∨ v'.ownBlock = some W.heap.size) → Below base W w' → wpList Try.prog ops Q rest (a.put o.dst v') w') :
    wpList Try.prog ops Q (o :: rest) a W := by
  obtain ⟨v', w', hr, h1, h2, h3⟩ := run_app_int_n base v k l z o.type W hown ad had hk hb
  refine wpList_plain hgd fun K hK' => ?_
  unfold Oper.wp execOp
  simp only [ho, resolve, invoke, builtin, Sem.run_bind, Sem.run_pure, Result.andThen_ok, List.map_toArray, List.map_cons, List.map_nil, hs, hx, hr]
  exact hK' _ _ (h v' w' h1 h2 h3 ((Below.refl base W).grown h2 hb (fun g hg => (hown.lt g hg).1)))

set_option maxHeartbeats 8000000 in
theorem need_spec (s : Ci) (ok : s.Ok) (A : Option Addr) (c : Nat) (e : Int) (w : World) (h1 : Mem.rd w w.heap.size [.slice A s.gates.length c] s.gates) (p : isE s e = true) :
    Calls Try.prog 47 #[.agg #[.int .i64 s.ins, .slice A s.gates.length c], .int .i64 e] w (fun e' w' => ∃ bb, e' = .returned (.slice (some ⟨bb, 0, none⟩) (1 + s.ins.toNat + s.gates.length) (1 + s.ins.toNat + s.gates.length)) ∧ Blk w' bb 4 (rchC (1 + s.ins.toNat + s.gates.length) (needF s e)) ∧ w.heap.size ≤ bb ∧ Below w.heap.size w w') := by
  have few := ok.few
  have pe := isE_iff.1 p
  have i0 := ok.lo
  have i12 := ok.hi
  have SZ := Lib.hid (fun W => l7Nodes_any s A c W ok.lo ok.hi ok.few)
  obtain ⟨j, hj1, hj2⟩ := half_of pe.1
  obtain ⟨I, hI⟩ : ∃ I : Nat, s.ins = I := ⟨s.ins.toNat, by omega⟩
  obtain ⟨N, hN⟩ : ∃ N : Nat, N = s.gates.length := ⟨_, rfl⟩
  obtain ⟨M, hM⟩ : ∃ M : Nat, M = 1 + I + N := ⟨_, rfl⟩
  have nod : s.nodes = (M : Int) := by unfold Ci.nodes; omega
  have hj : j < M := by omega
  have wj : IntKind.i64.wrap (e.tdiv 2) = (j : Int) := by rw [hj2]; exact IntWalk.i64_in _ (by omega)
  have HS := fun W => run_make_bool M (by omega) W
  have NP := Lib.hid (fun i => show nP s i = 1 + I + i by unfold nP; omega)
  have HM : Hid (M = 1 + I + N) := Lib.hid hM
  have FA := Lib.hid (fun W (B : Below w.heap.size w W) k (hk : k < N) => ga_at (Mem.rd_below h1 B) (k := k) (by omega))
  have FK := Lib.hid (fun k (hk : k < N) => ok.gate k (by omega))
  rw [hI] at FK
  have RF : Hid (needF s e = nch s e (downTo N N)) := Lib.hid (by unfold needF; rw [hN])
  rw [nod, hI, ← hN] at SZ
  rw [show 1 + s.ins.toNat + s.gates.length = M by omega, hI, ← hN]
  have BX := Lib.hid (ci_box (w := w) (v1 := .int .i64 I) (v2 := .slice A N c) (t := 30))
  have wi1 : IntKind.i64.wrap (1 + (I : Int)) = ((1 + I : Nat) : Int) := by rw [show 1 + (I : Int) = ((1 + I : Nat) : Int) by omega]; exact IntWalk.i64_in _ (by omega)
  have nN : N ≤ 600 := by omega
  have nI : I ≤ 12 := by omega
  have e0 : rchC M (fun y => false || decide (y = j)) = rchC M (nch s e []) := rchC_ext M fun x _ => by
    rw [Bool.false_or]
    exact decide_eq_decide.2 ⟨fun h => by omega, fun h => by omega⟩
  have E0 := Lib.hid e0
  clear hM hN h1 p pe few i0 i12 nod hI hj1 hj2 e0
  go_enter Try.func47, Try.ntmps47
  go_wp2_with fail
  refine (SZ.out _).mono ?_
  rintro e' w1 ⟨rfl, b1⟩
  obtain ⟨B1, x0, x1⟩ := BX.out _ b1
  have l1 := Nat.lt_of_lt_of_le (by simp : w.heap.size < (w.alloc (.cells #[.int .i64 I, .slice A N c] 30)).heap.size) b1.size
  have kb0 := (ci_blk w1 ((madeCells #[.bool false] M).setIfInBounds j (.bool true)) 4)
  rw [Array.toList_setIfInBounds, made_bool, rchC_set, E0.out] at kb0
  have zc0 := (ci_blk w1 (madeCells #[.bool false] M) 4).cell j
  have zf0 := (ci_blk w1 (madeCells #[.bool false] M) 4).frozen j
  rw [made_bool, rchC_at M _ hj] at zc0
  have b0 := b1.alloc b1.size (.cells ((madeCells #[.bool false] M).setIfInBounds j (.bool true)) 4)
  have hw1 := b1.size
  go_wp2
  go_loopg [6] N (fun m i wr => ∃ k : Nat, k + m = N ∧ i = .int .i64 ((N : Int) - 1 - k) ∧ Blk wr w1.heap.size 4 (rchC M (nch s e (downTo N k))) ∧ Below (w.alloc (.cells #[.int .i64 I, .slice A N c] 30)).heap.size (w.alloc (.cells #[.int .i64 I, .slice A N c] 30)) wr)
  case atStart => exact ⟨0, by omega, by simp, kb0, b0⟩
  case round =>
    clear kb0 zc0 zf0 b0 x0 x1 B1 b1 SZ HS E0
    obtain ⟨k, hk, rfl, kb, hb⟩ := hrel
    obtain ⟨B, x0, x1⟩ := BX.out _ hb
    by_cases hlt : k < N
    · obtain ⟨i, hi⟩ : ∃ i : Nat, i = N - 1 - k := ⟨_, rfl⟩
      have hiN : i < N := by omega
      rw [show (N : Int) - 1 - k = (i : Int) by omega]
      obtain ⟨ad, rfl, hbl, d0, d1⟩ := FA.out _ B i hiN
      have hbl' : (ad.add (i * 2)).block < wr.heap.size := by rw [add_block]; have := B.size; omega
      have F := FK.out i hiN
      have wi2 : IntKind.i64.wrap (((1 + I : Nat) : Int) + (i : Int)) = ((1 + I + i : Nat) : Int) := by rw [show ((1 + I : Nat) : Int) + (i : Int) = ((1 + I + i : Nat) : Int) by omega]; exact IntWalk.i64_in _ (by omega)
      have hiM : 1 + I + i < M := by have := HM.out; omega
      have z := kb.cell (1 + I + i)
      rw [rchC_at M _ hiM] at z
      have lb := kb.lt
      have EP : Hid (nch s e (downTo N (k + 1)) = nstep s (nch s e (downTo N k)) i) := Lib.hid (by rw [downTo_succ, hi]; exact nch_snoc s _ _ _)
      have SN := Lib.hid (fun (R : Nat → Bool) (h : R (1 + I + i) = false) => nstep_no (s := s) (i := i) (R := R) (by rw [NP.out]; exact h))
      obtain ⟨lo, hlo, hlo2⟩ := half_of F.1
      obtain ⟨hi2, hhi, hhi2⟩ := half_of F.2.2.1
      have u1 := F.2.1
      have u2 := F.2.2.2
      have hloM : lo < M := by have := HM.out; omega
      have hhiM : hi2 < M := by have := HM.out; omega
      have ST := Lib.hid (fun (R : Nat → Bool) (h : R (1 + I + i) = true) => nchC_two (m := M) (s := s) (i := i) (R := R) (by rw [NP.out]; exact h) hlo hhi)
      have wlo : IntKind.i64.wrap ((el s.gates i).a.tdiv 2) = (lo : Int) := by rw [hlo2]; exact IntWalk.i64_in _ (by omega)
      have whi : IntKind.i64.wrap ((el s.gates i).b.tdiv 2) = (hi2 : Int) := by rw [hhi2]; exact IntWalk.i64_in _ (by omega)
      have ek : (i : Int) - 1 = (N : Int) - 1 - ((k + 1 : Nat) : Int) := by omega
      have EK := Lib.hid ek
      have KBH := Lib.hid kb
      have hne : w1.heap.size ≠ (ad.add (i * 2)).block := by rw [add_block]; omega
      clear ek F hlo hhi hlo2 hhi2 u1 u2 kb hi
      generalize nch s e (downTo N k) = R at *
      generalize (el s.gates i).a = ga at *
      generalize (el s.gates i).b = gb at *
      cases hq : R (1 + I + i)
      · rw [hq] at z
        have E := Lib.hid (EP.out.trans (SN.out R hq))
        clear hq
        go_wp2
        go_roundg (N - (k + 1))
        case measure => omega
        case rel => exact ⟨k + 1, by omega, by rw [← EK.out], by rw [E.out]; exact KBH.out, hb⟩
      · rw [hq] at z
        have E1 := Lib.hid (ST.out R hq)
        have zlo := KBH.out.cell lo
        have flo := KBH.out.frozen lo
        rw [rchC_at M _ hloM] at zlo
        have kb1 := KBH.out.set lo (.bool true)
        have kb2 := Lib.hid (kb1.set hi2 (.bool true))
        have zhi := kb1.cell hi2
        rw [rchC_set, rchC_at M _ hhiM] at zhi
        have fhi := kb1.frozen hi2
        clear hq kb1
        go_wp2
        go_roundg (N - (k + 1))
        case measure => omega
        case rel => exact ⟨k + 1, by omega, by rw [← EK.out], by rw [EP.out, ← E1.out]; exact kb2.out, (hb.setCell (p := ⟨w1.heap.size, lo, none⟩) hw1 _).setCell (p := ⟨w1.heap.size, hi2, none⟩) hw1 _⟩
    · obtain rfl : k = N := by omega
      rw [show (k : Int) - 1 - k = -1 by omega]
      have KBH := Lib.hid kb
      clear kb
      go_wp2
      go_ret
      exact ⟨w1.heap.size, rfl, by rw [RF.out]; exact KBH.out, Nat.le_of_lt l1, B⟩

set_option maxHeartbeats 8000000 in
theorem needs_spec (s : Ci) (e : Int) (A : Option Addr) (n c : Nat) (w : World) (h1 : Mem.rd w w.heap.size [.slice A n c] s.gates) :
    Calls Try.prog 13 #[.agg #[.int .i64 s.ins, .slice A n c], .int .i64 e] w (GivesL w (needsB s e)) := by
  obtain rfl : s.gates.length = n := rd_len h1
  have BX := Lib.hid (ci_box (w := w) (v1 := .int .i64 s.ins) (v2 := .slice A s.gates.length c) (t := 30))
  have CK := Lib.hid (fun W (B : Below w.heap.size w W) => ckValid_spec s A s.gates.length c W (Mem.rd_on h1 B))
  have own0 : Hid (((w.alloc (.cells #[.int .i64 s.ins, .slice A s.gates.length c] 30)).alloc (.cells #[] 3)).ownsRow (w.alloc (.cells #[.int .i64 s.ins, .slice A s.gates.length c] 30)).heap.size 3 1 (.slice (some ⟨w.heap.size + 1, 0, none⟩) 0 0) 0 (ints [])) := Lib.hid (by
    have := World.ownsRow_lit (base := (w.alloc (.cells #[.int .i64 s.ins, .slice A s.gates.length c] 30)).heap.size) (e := 3) (size := 1) (w.alloc (.cells #[.int .i64 s.ins, .slice A s.gates.length c] 30)) #[] 0 (Nat.le_refl _) (by unfold maxLen; omega) rfl
    simp only [World.size_alloc] at this ⊢
    exact this)
  have bb0 := Lib.hid (below_alloc (w.alloc (.cells #[.int .i64 s.ins, .slice A s.gates.length c] 30)) (.cells #[] 3))
  have BB0 : Below w.heap.size w ((w.alloc (.cells #[.int .i64 s.ins, .slice A s.gates.length c] 30)).alloc (.cells #[] 3)) := (below_alloc w _).alloc (by simp) _
  have B2 := Lib.hid (fun W (B : Below ((w.alloc (.cells #[.int .i64 s.ins, .slice A s.gates.length c] 30)).alloc (.cells #[] 3)).heap.size ((w.alloc (.cells #[.int .i64 s.ins, .slice A s.gates.length c] 30)).alloc (.cells #[] 3)) W) => bb0.out.trans (B.mono (by simp)))
  have EM := Lib.hid (fun W (B : Below ((w.alloc (.cells #[.int .i64 s.ins, .slice A s.gates.length c] 30)).alloc (.cells #[] 3)).heap.size ((w.alloc (.cells #[.int .i64 s.ins, .slice A s.gates.length c] 30)).alloc (.cells #[] 3)) W) => (own_base (own_below own0.out B) (show w.heap.size ≤ _ by simp)))
  refine Calls.mono (R := GivesInts w (needsB s e)) ?_ (fun e' w' h => givesL_of h (Nat.le_trans (needsB_len s e) (by unfold maxLen; omega)))
  cases k1 : ckB s
  · rw [k1] at CK
    rw [show needsB s e = [] from if_neg (by rw [k1]; simp)]
    clear h1 k1
    go_enter Try.func13, Try.ntmps13
    go_wp2_with fail
    refine (CK.out _ BB0).mono ?_
    rintro e' w1 ⟨rfl, b1⟩
    obtain ⟨B, x0, x1⟩ := BX.out _ (B2.out _ b1)
    go_wp2
    go_ret
    exact ⟨_, rfl, EM.out _ b1, B⟩
  · rw [k1] at CK
    have ok := ckB_iff.1 k1
    have few := ok.few
    have LP := Lib.hid (fun W => l7Edge_any s A c e W ok.lo ok.hi ok.few)
    cases q1 : isE s e
    · rw [q1] at LP
      rw [show needsB s e = [] from if_neg (by rw [q1]; simp)]
      clear h1 k1 q1 ok
      go_enter Try.func13, Try.ntmps13
      go_wp2_with fail
      refine (CK.out _ BB0).mono ?_
      rintro e' w1 ⟨rfl, b1⟩
      obtain ⟨B, x0, x1⟩ := BX.out _ (B2.out _ b1)
      go_wp2_with fail
      refine (LP.out _).mono ?_
      rintro e' w2 ⟨rfl, c2⟩
      have b2 := b1.trans (c2.mono b1.size)
      obtain ⟨B, x0, x1⟩ := BX.out _ (B2.out _ b2)
      go_wp2
      go_ret
      exact ⟨_, rfl, EM.out _ b2, B⟩
    · rw [q1] at LP
      rw [show needsB s e = inTo (needF s e) s.ins.toNat from if_pos (by rw [k1, q1]; rfl)]
      have RS := Lib.hid (fun W (B : Below w.heap.size w W) => need_spec s ok A c e W (Mem.rd_on h1 B) q1)
      have i0 := ok.lo
      have i12 := ok.hi
      obtain ⟨I, hI⟩ : ∃ I : Nat, s.ins = I := ⟨s.ins.toNat, by omega⟩
      have hI2 : s.ins.toNat = I := by omega
      rw [hI2] at RS ⊢
      have RA := Lib.hid (fun (m x : Nat) (h : x < m) => rchC_at m (needF s e) h)
      generalize needF s e = R at *
      have BL : Hid (∀ v, inTo R (v + 1) = if R (1 + v) = true then inTo R v ++ [(v : Int)] else inTo R v) := Lib.hid (fun v => rfl)
      have BN := Lib.hid (fun v => inTo_len R v)
      have BE : Hid (ints (inTo R 0) = ints []) := Lib.hid rfl
      have nI : I ≤ 12 := by omega
      rw [hI] at BX BB0 CK B2 EM own0 bb0 LP RS ⊢
      clear h1 k1 q1 ok hI hI2 i0 i12
      generalize hN : s.gates.length = N at *
      clear hN
      go_enter Try.func13, Try.ntmps13
      go_wp2_with fail
      refine (CK.out _ BB0).mono ?_
      rintro e' w1 ⟨rfl, b1⟩
      obtain ⟨B, x0, x1⟩ := BX.out _ (B2.out _ b1)
      go_wp2_with fail
      refine (LP.out _).mono ?_
      rintro e' w2 ⟨rfl, c2⟩
      have b2 := b1.trans (c2.mono b1.size)
      obtain ⟨B, x0, x1⟩ := BX.out _ (B2.out _ b2)
      go_wp2_with fail
      refine (RS.out _ B).mono ?_
      rintro e' w3 ⟨bb, rfl, kb, hbb, c3⟩
      have b3 := b2.trans (c3.mono b2.size)
      have own3 := Lib.hid (own_below own0.out b3)
      have b3 := Lib.hid (B2.out _ b3)
      have KB := Lib.hid kb
      have LB3 : bb < w3.heap.size := kb.lt
      have HW2 : Hid (w.heap.size + 2 ≤ bb) := Lib.hid (by have := b2.size; simp at this; omega)
      clear b1 c2 own0 bb0 BB0 EM CK LP B2 kb c3 RS b2 x0 x1 B hbb
      have NB0 : (Value.slice (some ⟨w.heap.size + 1, 0, none⟩) 0 0).ownBlock ≠ some bb := by
        intro e
        have e2 : w.heap.size + 1 = bb := by
          simp [Value.ownBlock] at e
          exact e
        have := HW2.out
        omega
      go_wp2_with fail
      go_loopg [5, 7] I (fun m v i wr => ∃ (k q : Nat), k + m = I ∧ i = .int .i64 k ∧ Hid (wr.ownsRow (w.alloc (.cells #[.int .i64 I, .slice A N c] 30)).heap.size 3 1 v q (ints (inTo R k))) ∧ Hid (v.ownBlock ≠ some bb) ∧ Hid (Blk wr bb 4 (rchC (1 + I + N) R)) ∧ Hid (Below (w.alloc (.cells #[.int .i64 I, .slice A N c] 30)).heap.size (w.alloc (.cells #[.int .i64 I, .slice A N c] 30)) wr))
      case atStart => exact ⟨0, 0, by omega, rfl, by rw [BE.out]; exact own3, Lib.hid NB0, KB, b3⟩
      case round =>
        clear own3 b3 KB NB0 LB3
        obtain ⟨k, q, hk, rfl, HO, HNB, HKB, hb⟩ := hrel
        obtain ⟨B, x0, x1⟩ := BX.out _ hb.out
        have lb := HKB.out.lt
        have lw := Nat.lt_of_lt_of_le (by simp : w.heap.size < (w.alloc (.cells #[.int .i64 I, .slice A N c] 30)).heap.size) hb.out.size
        have hq : q = (inTo R k).length := by have := HO.out.1; rw [len_ints] at this; omega
        have hqn := BN.out k
        by_cases hlt : k < I
        · have kn : (k : Int) < I := by omega
          have BLk := Lib.hid (BL.out k)
          have z := HKB.out.cell (1 + k)
          rw [RA.out _ _ (by omega)] at z
          have wi : IntKind.i64.wrap (1 + (k : Int)) = ((1 + k : Nat) : Int) := by rw [show 1 + (k : Int) = ((1 + k : Nat) : Int) by omega]; exact IntWalk.i64_in _ (by omega)
          have hkM : 1 + k < 1 + I + N := by omega
          cases p1 : R (1 + k)
          · rw [p1, if_neg (by simp)] at BLk
            rw [p1] at z
            clear p1
            go_wp2
            go_roundg (I - (k + 1))
            case measure => omega
            case rel => exact ⟨k + 1, q, by omega, by go_num, by rw [BLk.out]; exact HO, HNB, HKB, hb⟩
          · rw [p1, if_pos rfl] at BLk
            rw [p1] at z
            clear p1
            have hq9 : q < 1000000000 := by omega
            go_wp2_with (first
              | (at_builtin; refine app_int_gn rfl _ _ rfl (w.alloc (.cells #[.int .i64 I, .slice A N c] 30)).heap.size _ q _ _ _ rfl (HO.out.alloc _) rfl (World.cell?_alloc_at _ _ _ _ (by simp)) hq9 (Nat.le_trans hb.out.size (Nat.le_of_lt (by rw [World.size_alloc]; exact Nat.lt_succ_self _))) ?_; intro v' w6 ho6 hg6 hv6 hb6))
            have kb6 := blk_grown (HKB.out.alloc (.cells #[.int .i64 k] 3)) hg6 HNB.out
            have b6 := (hb.out.alloc hb.out.size _).trans hb6
            have nb6 : v'.ownBlock ≠ some bb := fun e => by
              rcases hv6 with h | h
              · exact HNB.out (h.symm.trans e)
              · rw [h] at e
                injection e with e
                simp at e
                omega
            go_roundg (I - (k + 1))
            case measure => omega
            case rel => exact ⟨k + 1, q + 1, by omega, by go_num, by rw [BLk.out]; exact Lib.hid ho6, Lib.hid nb6, Lib.hid kb6, Lib.hid b6⟩
        · obtain rfl : k = I := by omega
          have kk : ¬ (k : Int) < k := by omega
          go_wp2
          go_ret
          exact ⟨_, rfl, by rw [← hq]; exact own_base HO.out (by simp), B⟩
end Go.Proofs.Ytnpdeliaefjmlaa
