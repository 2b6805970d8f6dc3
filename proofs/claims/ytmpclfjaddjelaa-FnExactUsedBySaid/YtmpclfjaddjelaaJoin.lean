/- Joined: plain lists, and the program's. -/
import Derived.Test.YtmpclfjaddjelaaShiftS
import Derived.Test.YtmpclfjaddjelaaVals
import Derived.Maps.AppendAt
namespace Go.Proofs.Ytmpclfjaddjelaa
open Go.RowKit

/-- A term the terms of which lie further behind. -/
def mv (d : Int) (t : Tm) : Tm := if 2 ≤ t.op then ⟨t.op, t.n, t.a + d, t.b + d⟩ else t
def mvTo (d : Int) (l : List Tm) (k : Nat) : List Tm := (l.take k).map (mv d) ++ l.drop k
theorem mvTo_at {d : Int} {l : List Tm} {k : Nat} (h : k < l.length) : mvTo d l k = (l.take k).map (mv d) ++ tx l k :: l.drop (k + 1) := by unfold mvTo; rw [split_at h]
theorem mvTo_succ {d : Int} {l : List Tm} {k : Nat} (h : k < l.length) : mvTo d l (k + 1) = (l.take k).map (mv d) ++ mv d (tx l k) :: l.drop (k + 1) := by
  unfold mvTo
  rw [List.take_succ_eq_append_getElem h, tx_lt h, List.map_append, List.append_assoc]; rfl
theorem mvTo_tx {d : Int} {l : List Tm} {k : Nat} (h : k < l.length) : tx (mvTo d l k) k = tx l k := by
  unfold tx
  rw [mvTo_at h, List.getElem?_append_right (by simp; omega)]
  simp [show min k l.length = k by omega, tx]
theorem mvTo_same {d : Int} {l : List Tm} {k : Nat} (h : k < l.length) (e : (tx l k).op < 2) : mvTo d l (k + 1) = mvTo d l k := by
  rw [mvTo_at h, mvTo_succ h]
  unfold mv; rw [if_neg (by omega)]
theorem mvTo_set {d : Int} {l : List Tm} {k : Nat} (h : k < l.length) (e : 2 ≤ (tx l k).op) : tms (mvTo d l (k + 1)) = ((tms (mvTo d l k)).set (k * 4 + 2) (.int .i64 ((tx l k).a + d))).set (k * 4 + 3) (.int .i64 ((tx l k).b + d)) := by
  rw [mvTo_at h, mvTo_succ h, tms_mid, tms_mid]
  have hl : (tms ((l.take k).map (mv d))).length = k * 4 := by rw [len_tms]; simp; omega
  rw [List.set_append_right _ _ (by omega), hl, show k * 4 + 2 - k * 4 = 2 by omega]
  rw [List.set_append_right _ _ (by omega), hl, show k * 4 + 3 - k * 4 = 3 by omega]
  unfold mv; rw [if_pos e]; rfl
theorem mvTo_all (d : Int) (l : List Tm) : mvTo d l l.length = l.map (mv d) := by simp [mvTo]

theorem valid_kinds2 {l : List Tm} {vars : Int} (h : validB l vars = true) : sizesOk l.length vars = true ∧ ∃ ks, kindsTo l vars l.length = some ks := by
  unfold validB kindsOf at h
  by_cases hs : sizesOk l.length vars = true
  · rw [if_pos hs] at h
    refine ⟨hs, ?_⟩
    cases hk : kindsTo l vars l.length with
    | none => rw [hk] at h; simp at h
    | some ks => exact ⟨ks, rfl⟩
  · rw [if_neg hs] at h; simp at h
/-- Each term of an expression has a kind among those ahead of it. -/
theorem valid_kind {l : List Tm} {vars : Int} (h : validB l vars = true) {k : Nat} (hk : k < l.length) : ∃ ks, ks.length = k ∧ kind (tx l k) ks vars ≠ 0 := by
  obtain ⟨_, ks, hks⟩ := valid_kinds2 h
  obtain ⟨ks', h1, h2⟩ := kindsTo_some hks k (by omega)
  exact ⟨ks', kindsTo_len h1, h2 hk⟩
/-- What an operation of an expression refers to. -/
theorem op_small {l : List Tm} {vars : Int} (h : validB l vars = true) {k : Nat} (hk : k < l.length) (e : 2 ≤ (tx l k).op) : 0 ≤ (tx l k).a ∧ (tx l k).a < 40 ∧ 0 ≤ (tx l k).b ∧ (tx l k).b < 40 := by
  obtain ⟨ks, h1, h2⟩ := valid_kind h hk
  have := valid_small h
  rcases kind_inv h2 with ⟨e', _⟩ | ⟨e', _⟩ | ⟨_, _, ⟨a0, a1, _⟩, ⟨b0, b1, _⟩, _⟩ <;> omega
theorem op_zero {l : List Tm} {vars : Int} (h : validB l vars = true) {k : Nat} (hk : k < l.length) (e : 2 ≤ (tx l k).op) : (tx l k).n = 0 := by
  obtain ⟨ks, h1, h2⟩ := valid_kind h hk
  have two : ∀ {c c' : Int}, kIf (ofTwo (tx l k) ks c) c' ≠ 0 → (tx l k).n = 0 := by
    intro c c' g
    have g' := kIf_ne g
    unfold ofTwo at g'
    simp only [Bool.and_eq_true, beq_iff_eq] at g'
    exact g'.1
  unfold kind at h2
  rw [if_neg (by omega), if_neg (by omega)] at h2
  split at h2
  · exact two h2
  split at h2
  · exact two h2
  split at h2
  · have g := kIf_ne h2
    simp only [Bool.and_eq_true] at g
    exact two (c := 2) (c' := 2) (by rw [g.2]; decide)
  split at h2
  · exact two h2
  · exact absurd rfl h2

/-- The terms of both, and an operation of their last ones. -/
def jP (op : Int) (a b : List Tm) : List Tm := a ++ if op = 7 then [] else b.map (mv a.length)
def jL (op : Int) (a b : List Tm) : List Tm := jP op a b ++ [⟨op, 0, (a.length : Int) - 1, ((jP op a b).length : Int) - 1⟩]
def jOk (op : Int) (a b : List Tm) (vars : Int) : Bool := validB a vars && (validB b vars && (inB op 2 9 && validB (jL op a b) vars))
def joinedL (op : Int) (a b : List Tm) (vars : Int) : List Tm := if jOk op a b vars then jL op a b else []
theorem validB_none {l : List Tm} {vars : Int} (h : kindsTo l vars l.length = none) : validB l vars = false := by
  unfold validB kindsOf; rw [h]; simp
theorem last_bad {p : List Tm} {t : Tm} {vars : Int} (h : 9 < t.op) : validB (p ++ [t]) vars = false := by
  apply validB_none
  have e : (p ++ [t]).length = p.length + 1 := by simp
  rw [e]
  simp only [kindsTo]
  have ht : tx (p ++ [t]) p.length = t := by unfold tx; simp
  cases kindsTo (p ++ [t]) vars p.length with
  | none => rfl
  | some ks =>
    dsimp only
    rw [ht, if_pos]
    unfold kind
    rw [if_neg (by omega), if_neg (by omega), if_neg (by omega), if_neg (by omega), if_neg (by omega), if_neg (by omega)]
theorem joined_len (op : Int) (a b : List Tm) (vars : Int) : (joinedL op a b vars).length ≤ 40 := by
  unfold joinedL
  cases g : jOk op a b vars
  · simp
  · unfold jOk at g
    simp only [Bool.and_eq_true] at g
    exact (valid_small g.2.2.2).2.1
theorem jP_len {op : Int} {a b : List Tm} {vars : Int} (h : validB a vars = true) (h' : validB b vars = true) : (jP op a b).length ≤ 80 ∧ 1 ≤ (jP op a b).length := by
  have s1 := valid_small h
  have s2 := valid_small h'
  unfold jP
  split <;> simp <;> omega

set_option maxHeartbeats 2000000 in
theorem movedBehind_any (A : Option Addr) (n c : Nat) (l : List Tm) (vars d : Int) (w : World) (h : Rd w w.heap.size 4 A n (tms l)) (hv : validB l vars = true) (d1 : 0 ≤ d) (d2 : d ≤ 40) :
    Calls Try.prog 57 #[.slice A n c, .int .i64 d] w (GivesTms w (l.map (mv d))) := by
  have hl := Lib.hid h.tlen
  obtain ⟨s1, s2, _, _⟩ := valid_small hv
  have hs1 : 1 ≤ n := by have := hl.out; omega
  have hs2 : n ≤ 40 := by have := hl.out; omega
  have hv := Lib.hid (fun k (hk : k < l.length) e => op_small hv (k := k) hk e)
  go_enter Try.func57, Try.ntmps57
  go_wp2_with fail
  refine (clone_tm A n c l _ h (by omega)).mono ?_
  rintro e w2 ⟨v, rfl, ho', B2⟩
  rw [hl.out] at ho'
  rcases ho'.2 with ⟨_, h0⟩ | ⟨g, cap, cur, rfl, hg, _⟩
  · omega
  go_wp2
  go_loopg [12] n (fun m i wr => ∃ k : Nat, k + m = n ∧ i = .int .i64 k ∧ wr.ownsRow w.heap.size 64 4 (.slice (some ⟨g, 0, none⟩) n cap) n (tms (mvTo d l k)) ∧ Below w.heap.size w wr)
  case atStart => exact ⟨0, by omega, rfl, by simpa [mvTo] using ho', B2⟩
  case round =>
    obtain ⟨k, hk, rfl, ho, hb⟩ := hrel
    clear ho'
    by_cases hlt : k < n
    · have hkl : k < l.length := by have := hl.out; omega
      obtain ⟨c0, c1, c2, c3⟩ := own_tm ho hlt
      rw [mvTo_tx hkl] at c0 c1 c2 c3
      have hgl := (ho.lt g rfl).2
      have hC := fun o => own_tm (ho.alloc o) hlt
      rw [mvTo_tx hkl] at hC
      have c2' := fun o => (hC o).2.2.1
      have c3' := fun o => (hC o).2.2.2
      clear hC
      have f2 := fun o => (ho.alloc o).frozenAt (k * 4 + 2)
      have f3 := fun o => (ho.alloc o).frozenAt (k * 4 + 3)
      by_cases ht : 2 ≤ (tx l k).op
      · have E := Lib.hid (mvTo_set (d := d) hkl ht)
        obtain ⟨q1, q2, q3, q4⟩ := hv.out k hkl ht
        have st := Lib.hid (ho.stored (k * 4 + 2) (.int .i64 ((tx l k).a + d)))
        have st2 := Lib.hid (st.out.1.stored (k * 4 + 3) (.int .i64 ((tx l k).b + d)))
        have c3s : ∀ o, ((wr.setCell ⟨g, k * 4 + 2, none⟩ (.int .i64 ((tx l k).a + d))).alloc o).cell? ⟨g, k * 4 + 3, none⟩ = some (.int .i64 (tx l k).b) := fun o => by
          rw [World.cell?_alloc_lt _ _ _ (by simpa [World.setCell] using hgl), World.cell?_setCell_other _ _ _ _ (by simp)]; exact c3
        have f3s := fun o => (st.out.1.alloc o).frozenAt (k * 4 + 3)
        go_wp2
        go_roundg (n - (k + 1))
        case measure => omega
        case rel => exact ⟨k + 1, by omega, by go_num, by rw [E.out]; exact st2.out.1.alloc _, ((hb.setCell (p := ⟨g, k * 4 + 2, none⟩) (ho.lt g rfl).1 _).setCell (p := ⟨g, k * 4 + 3, none⟩) (ho.lt g rfl).1 _).alloc (by simp only [World.setCell, Array.size_modify]; exact hb.size) _⟩
      · have E := Lib.hid (mvTo_same (d := d) hkl (by omega))
        go_wp2
        go_roundg (n - (k + 1))
        case measure => omega
        case rel => exact ⟨k + 1, by omega, by go_num, by rw [E.out]; exact ho.alloc _, hb.alloc hb.size _⟩
    · obtain rfl : k = n := by omega
      go_wp2
      go_ret
      rw [← hl.out, mvTo_all] at ho
      refine ⟨_, rfl, ?_, hb⟩
      rw [List.length_map, hl.out]
      rw [hl.out] at ho
      exact ho

/-- 'append' of terms: where the new row lies, and what alone has changed. -/
theorem app_tms2 {ops : Array Oper} {rest : List Oper} {o : Oper} {a : Act} {Q : Exit → Act → World → Prop} {W : World} (hgd : o.guard = none) (s x : Operand)
    (ho : o.op = .call { callee := .builtin .append, args := #[s, x], argTypes := #[23, 23] }) (base : Nat) (v : Value) (k : Nat) (l m : List Tm) (c n : Nat) (ad : Addr)
    (hs : a.eval s = v) (hown : W.ownsRow base 64 4 v k (tms l)) (hx : a.eval x = .slice (some ad) n c) (hn : m.length = n) (hm : ∀ j u, (tms m)[j]? = some u → W.cell? (ad.add j) = some u) (hk : k + n < 1000000000000) (hb : base ≤ W.heap.size)
    (h : ∀ v' w', w'.ownsRow base 64 4 v' (k + n) (tms (l ++ m)) → W.grownBy w' v.ownBlock → (v'.ownBlock = v.ownBlock ∨ v'.ownBlock = some W.heap.size) → wpList Try.prog ops Q rest (a.put o.dst v') w') :
    wpList Try.prog ops Q (o :: rest) a W := by
  subst hn
  obtain ⟨v', w', hr, h1, h2, _, h3⟩ := run_append_own_at (P := Try.prog) W base 23 o.type 64 tmRow (.agg #[.int .i64 0, .int .i64 0, .int .i64 0, .int .i64 0]) 4 32 Try.underlying23 tm_row.1 tm_row.2.1 tm_row.2.2.1 tm_row.2.2.2 rfl (by decide) v k _ hown ad m.length c (tms m) (len_tms m) hm (tms_one m) (by unfold maxLen; omega) (by omega) hb
  refine wpList_plain hgd fun K hK' => ?_
  unfold Oper.wp execOp
  simp only [ho, resolve, invoke, builtin, Sem.run_bind, Sem.run_pure, Result.andThen_ok, List.map_toArray, List.map_cons, List.map_nil, hs, hx, hr]
  exact hK' _ _ (h v' w' (by rw [tms_app]; exact h1) h2 h3)

theorem own_far {w : World} {base size n : Nat} {e : TypeId} {v : Value} {xs : List Value} (h : w.ownsRow base e size v n xs) {p : Addr} (u : Value) (hne : v.ownBlock ≠ some p.block) : (w.setCell p u).ownsRow base e size v n xs :=
  h.kept (row := some p.block) ⟨rfl, rfl, rfl, by simp [World.setCell], fun k _ hk => Below.heap_setCell w p u k (fun e => hk (by rw [e]))⟩ (.inr hne)

theorem own_base {w : World} {base base' size n : Nat} {e : TypeId} {v : Value} {xs : List Value} (h : w.ownsRow base e size v n xs) (hb : base' ≤ base) : w.ownsRow base' e size v n xs :=
  ⟨h.1, by
    rcases h.2 with h' | ⟨g', cap', cur', e', hg', rest⟩
    · exact .inl h'
    · exact .inr ⟨g', cap', cur', e', Nat.le_trans hb hg', rest⟩⟩

/-- Of joined lists: nothing, as one of the conditions fails. -/
theorem joined_no {op : Int} {a b : List Tm} {vars : Int} (h : validB a vars = false ∨ validB b vars = false ∨ inB op 2 9 = false ∨ validB (jL op a b) vars = false) : joinedL op a b vars = [] := by
  unfold joinedL
  rw [if_neg]
  unfold jOk
  rcases h with h | h | h | h <;> rw [h] <;> simp

set_option maxHeartbeats 4000000 in
theorem joined_impl (A : Option Addr) (n c : Nat) (A' : Option Addr) (n' c' : Nat) (op : Int) (a b : List Tm) (vars : Int) (w : World) (h : Rd w w.heap.size 4 A n (tms a)) (h' : Rd w w.heap.size 4 A' n' (tms b)) (hn : n ≤ maxLen) (hn' : n' ≤ maxLen) :
    Calls Try.prog 23 #[.int .i64 op, .slice A n c, .slice A' n' c', .int .i64 vars] w (GivesTms w (joinedL op a b vars)) := by
  have hl := Lib.hid h.tlen
  have hl' := Lib.hid h'.tlen
  cases g : validB a vars
  · rw [joined_no (.inl g)]
    have G := Lib.hid g
    clear g
    go_enter Try.func23, Try.ntmps23
    go_wp2_with fail
    refine (valid_impl A n c a vars _ h hn).mono ?_
    rintro e w1 ⟨rfl, b1⟩
    rw [G.out]
    go_wp2
    go_ret
    exact gives_none _ _ b1
  cases g' : validB b vars
  · rw [joined_no (.inr (.inl g'))]
    have G := Lib.hid g
    have G' := Lib.hid g'
    clear g g'
    go_enter Try.func23, Try.ntmps23
    go_wp2_with fail
    refine (valid_impl A n c a vars _ h hn).mono ?_
    rintro e w1 ⟨rfl, b1⟩
    rw [G.out]
    go_wp2_with fail
    refine (valid_impl A' n' c' b vars _ ((h'.below b1).more b1.size) hn').mono ?_
    rintro e w2 ⟨rfl, b2⟩
    rw [G'.out]
    go_wp2
    go_ret
    exact gives_none _ _ (b1.trans (b2.mono b1.size))
  by_cases gop : op < 2 ∨ 9 < op
  · rw [joined_no (.inr (.inr (.inl (inB_not.2 gop))))]
    have G := Lib.hid g
    have G' := Lib.hid g'
    clear g g'
    rcases gop with gop | gop
    all_goals
      go_enter Try.func23, Try.ntmps23
      go_wp2_with fail
      refine (valid_impl A n c a vars _ h hn).mono ?_
      rintro e w1 ⟨rfl, b1⟩
      rw [G.out]
      go_wp2_with fail
      refine (valid_impl A' n' c' b vars _ ((h'.below b1).more b1.size) hn').mono ?_
      rintro e w2 ⟨rfl, b2⟩
      rw [G'.out]
      go_wp2
      go_ret
      exact gives_none _ _ (b1.trans (b2.mono b1.size))
  · have o1 : 2 ≤ op := by omega
    have o2 : op ≤ 9 := by omega
    obtain ⟨s1, s2, _, _⟩ := valid_small g
    obtain ⟨t1, t2, _, _⟩ := valid_small g'
    have hs1 : 1 ≤ n := by have := hl.out; omega
    have hs2 : n ≤ 40 := by have := hl.out; omega
    have ht1 : 1 ≤ n' := by have := hl'.out; omega
    have ht2 : n' ≤ 40 := by have := hl'.out; omega
    have G := Lib.hid g
    have G' := Lib.hid g'
    have HJ : Hid (joinedL op a b vars = if validB (jL op a b) vars then jL op a b else []) := by
      show joinedL op a b vars = _
      unfold joinedL jOk
      rw [g, g', inB_iff.2 ⟨o1, o2⟩]; rfl
    clear g g' gop
    cases hq : op == 7
    · have hop : op ≠ 7 := by simpa using hq
      have hq' := bne_f hq
      have HP : Hid (jL op a b = (a ++ b.map (mv n)) ++ [⟨op, 0, (n : Int) - 1, (n : Int) + n' - 1⟩]) := by
        show jL op a b = _
        unfold jL jP; rw [if_neg hop, ← hl.out, ← hl'.out]; simp
      clear hop
      go_enter Try.func23, Try.ntmps23
      go_wp2_with fail
      refine (valid_impl A n c a vars _ h hn).mono ?_
      rintro e w1 ⟨rfl, b1⟩
      rw [G.out]
      go_wp2_with fail
      refine (valid_impl A' n' c' b vars _ ((h'.below b1).more b1.size) hn').mono ?_
      rintro e w2 ⟨rfl, b2⟩
      rw [G'.out]
      have B2 := b1.trans (b2.mono b1.size)
      go_wp2_with fail
      refine (clone_tm A n c a _ ((h.below B2).more B2.size) (by omega)).mono ?_
      rintro e w3 ⟨v3, rfl, o3, b3⟩
      rw [hl.out] at o3
      have B3 := B2.trans (b3.mono B2.size)
      obtain ⟨A3, c3, rfl, _, _⟩ := own_form o3
      have HO := Lib.hid o3; clear o3
      go_wp2_with fail
      refine (movedBehind_any A' n' c' b vars n _ (((h'.below B3).more B3.size).alloc (Nat.le_refl _) _ |>.more (by simp)) G'.out (by omega) (by omega)).mono ?_
      rintro e w4 ⟨v4, rfl, o4, b4⟩
      rw [List.length_map, hl'.out] at o4
      obtain ⟨A4, c4, rfl, _, r4⟩ := own_form o4
      have hA4 : ∃ ad, A4 = some ad ∧ ∀ j u, (tms (b.map (mv n)))[j]? = some u → w4.cell? (ad.add j) = some u := by
        obtain ⟨ad, e, _, hc⟩ := r4.2 (by omega)
        exact ⟨ad, e, hc⟩
      obtain ⟨ad4, rfl, hc4⟩ := hA4
      have HC := Lib.hid hc4
      have b4' := below_call b4
      have B4 := B3.trans (b4'.mono B3.size)
      have hk0 : Blk w4 w3.heap.size 64 [.int .i64 op, .int .i64 0, .int .i64 ((n : Int) - 1), .int .i64 ((n : Int) - 1)] :=
        Blk.below (w := w3.alloc (.cells #[.int .i64 op, .int .i64 0, .int .i64 ((n : Int) - 1), .int .i64 ((n : Int) - 1)] 64)) (heap_alloc_new w3 _) b4 (by simp)
      have HK0 := Lib.hid hk0
      have l3 := HO.out.lt
      have HO4 := Lib.hid (own_base (own_below HO.out b4') B2.size)
      have hs4 : w3.heap.size < w4.heap.size := hk0.lt
      clear o4 r4 hc4 hk0
      go_wp2_with (first
        | (at_builtin; refine app_tms2 rfl _ _ rfl w.heap.size (.slice A3 n c3) n a (b.map (mv n)) c4 n' ad4 rfl HO4.out rfl (by rw [List.length_map]; exact hl'.out) HC.out (by omega) B4.size ?_
           intro v5 w5 o5 g5 e5
           have k5 : Blk w5 w3.heap.size 64 [.int .i64 op, .int .i64 0, .int .i64 ((n : Int) - 1), .int .i64 ((n : Int) - 1)] := (g5.block _ hs4 (fun e => by have := (l3 _ e.symm).2; omega)).trans HK0.out
           have HK5 := Lib.hid k5
           have q0 := k5.cell 0
           have q1 := k5.cell 1
           have q2 := k5.cell 2
           have q3 := k5.cell 3
           have f3 := k5.frozen 3
           clear k5
           obtain ⟨A5, c5, rfl, _, _⟩ := own_form o5
           have n5 : (Value.slice A5 (n + n') c5).ownBlock ≠ some w3.heap.size := by
             rcases e5 with e | e <;> rw [e]
             · intro e'; have := (l3 _ e').2; omega
             · intro e'; injection e' with e'; omega
           have HO5 := Lib.hid o5; clear o5
           have HN := Lib.hid (own_far HO5.out (p := ⟨w3.heap.size, 3, none⟩) (.int .i64 ((n : Int) + n' - 1)) n5)
           have B5 := B4.trans (grown_below g5 B4.size (fun k hk => Nat.le_trans B2.size (l3 k hk).1))
           dsimp only [List.getElem?_cons_zero, List.getElem?_cons_succ] at q0 q1 q2 q3)
        | (at_builtin; go_loud (refine app_tms2 rfl _ _ rfl w.heap.size (.slice A5 (n + n') c5) (n + n') (a ++ b.map (mv n)) [⟨op, 0, (n : Int) - 1, (n : Int) + n' - 1⟩] 1 1 _ rfl (HN.out.alloc _) rfl rfl (new_tm_at _ ⟨op, 0, (n : Int) - 1, (n : Int) + n' - 1⟩ _ (by simp)) (by omega) (by have := B5.size; simp [World.setCell]; omega) ?_)
           intro v6 w6 o6 g6 e6))
      obtain ⟨A6, c6, rfl, _, _⟩ := own_form o6
      have B6 : Below w.heap.size w w6 := by
        have s5 := B5.size
        have s3 := B3.size
        refine ((B5.setCell (p := ⟨w3.heap.size, 3, none⟩) s3 _).alloc (by simp only [World.setCell, Array.size_modify]; exact s5) _).grown g6 (by simp [World.setCell]; omega) ?_
        intro k hk
        rcases e5 with e | e
        · rw [e] at hk; exact Nat.le_trans B2.size (l3 k hk).1
        · rw [e] at hk; injection hk with hk; have := B4.size; omega
      rw [← HP.out] at o6
      refine (valid_impl A6 (n + n' + 1) c6 (jL op a b) vars _ (Rd.of_own o6) (by unfold maxLen; omega)).mono ?_
      rintro e w7 ⟨rfl, b7⟩
      have o7 := own_below o6 b7
      have B7 := B6.trans (b7.mono B6.size)
      have hlen : (jL op a b).length = n + n' + 1 := by have := o6.1; rw [len_tms] at this; omega
      have HL := Lib.hid hlen; clear hlen
      cases hv : validB (jL op a b) vars
      · have HV := Lib.hid hv; clear hv
        go_wp2
        go_ret
        rw [HJ.out, if_neg (by rw [HV.out]; decide)]
        exact gives_none _ _ B7
      · have HV := Lib.hid hv; clear hv
        go_wp2
        go_ret
        rw [HJ.out, if_pos HV.out]
        exact ⟨_, rfl, by rw [HL.out]; exact o7, B7⟩
    · obtain rfl : op = 7 := by simpa using hq
      have HP : Hid (jL 7 a b = a ++ [⟨7, 0, (n : Int) - 1, (n : Int) - 1⟩]) := by
        show jL 7 a b = _
        unfold jL jP; rw [if_pos rfl, ← hl.out]; simp
      clear hq
      go_enter Try.func23, Try.ntmps23
      go_wp2_with fail
      refine (valid_impl A n c a vars _ h hn).mono ?_
      rintro e w1 ⟨rfl, b1⟩
      rw [G.out]
      go_wp2_with fail
      refine (valid_impl A' n' c' b vars _ ((h'.below b1).more b1.size) hn').mono ?_
      rintro e w2 ⟨rfl, b2⟩
      rw [G'.out]
      have B2 := b1.trans (b2.mono b1.size)
      go_wp2_with fail
      refine (clone_tm A n c a _ ((h.below B2).more B2.size) (by omega)).mono ?_
      rintro e w3 ⟨v3, rfl, o3, b3⟩
      rw [hl.out] at o3
      have B3 := B2.trans (b3.mono B2.size)
      obtain ⟨A3, c3, rfl, _, _⟩ := own_form o3
      have l3 := o3.lt
      have HO := Lib.hid (fun o => (own_base o3 B2.size).alloc o); clear o3
      go_wp2_with (first
        | (at_builtin; refine app_tms2 rfl _ _ rfl w.heap.size (.slice A3 n c3) n a [⟨7, 0, (n : Int) - 1, (n : Int) - 1⟩] 1 1 _ rfl ((HO.out _).alloc _) rfl rfl (new_tm_at _ ⟨7, 0, (n : Int) - 1, (n : Int) - 1⟩ _ (by simp)) (by omega) (by have := B3.size; simp; omega) ?_
           intro v6 w6 o6 g6 e6))
      obtain ⟨A6, c6, rfl, _, _⟩ := own_form o6
      have B6 : Below w.heap.size w w6 := by
        have s3 := B3.size
        refine ((B3.alloc s3 _).alloc (by simp; omega) _).grown g6 (by simp; omega) ?_
        intro k hk
        exact Nat.le_trans B2.size (l3 k hk).1
      rw [← HP.out] at o6
      refine (valid_impl A6 (n + 1) c6 (jL 7 a b) vars _ (Rd.of_own o6) (by unfold maxLen; omega)).mono ?_
      rintro e w7 ⟨rfl, b7⟩
      have o7 := own_below o6 b7
      have B7 := B6.trans (b7.mono B6.size)
      have hlen : (jL 7 a b).length = n + 1 := by have := o6.1; rw [len_tms] at this; omega
      have HL := Lib.hid hlen; clear hlen
      cases hv : validB (jL 7 a b) vars
      · have HV := Lib.hid hv; clear hv
        go_wp2
        go_ret
        rw [HJ.out, if_neg (by rw [HV.out]; decide)]
        exact gives_none _ _ B7
      · have HV := Lib.hid hv; clear hv
        go_wp2
        go_ret
        rw [HJ.out, if_pos HV.out]
        exact ⟨_, rfl, by rw [HL.out]; exact o7, B7⟩
end Go.Proofs.Ytmpclfjaddjelaa
