/- Shifted, of the program and of the model. -/
import Derived.Test.YtmpclfjaddjelaaTmApp
import Derived.Test.YtmpclfjaddjelaaSpecKinds3
namespace Go.Proofs.Ytmpclfjaddjelaa
open Go.RowKit

theorem tms_mid (x y : List Tm) (t : Tm) : tms (x ++ t :: y) = tms x ++ (t.cs ++ tms y) := by
  rw [tms_app]; unfold tms; rw [List.flatMap_cons]
theorem split_at {l : List Tm} {k : Nat} (h : k < l.length) : l.drop k = tx l k :: l.drop (k + 1) := by rw [List.drop_eq_getElem_cons h, tx_lt h]

/-- A term over other variables. -/
def sh1 (d : Int) (t : Tm) : Tm := if t.op = 1 then ⟨t.op, t.n + d, t.a, t.b⟩ else t
def shTo (d : Int) (l : List Tm) (k : Nat) : List Tm := (l.take k).map (sh1 d) ++ l.drop k
theorem shTo_len (d : Int) (l : List Tm) (k : Nat) : (shTo d l k).length = l.length := by simp [shTo]; omega
theorem shTo_at {d : Int} {l : List Tm} {k : Nat} (h : k < l.length) : shTo d l k = (l.take k).map (sh1 d) ++ tx l k :: l.drop (k + 1) := by unfold shTo; rw [split_at h]
theorem shTo_succ {d : Int} {l : List Tm} {k : Nat} (h : k < l.length) : shTo d l (k + 1) = (l.take k).map (sh1 d) ++ sh1 d (tx l k) :: l.drop (k + 1) := by
  unfold shTo
  rw [List.take_succ_eq_append_getElem h, tx_lt h, List.map_append, List.append_assoc]; rfl
theorem shTo_tx {d : Int} {l : List Tm} {k : Nat} (h : k < l.length) : tx (shTo d l k) k = tx l k := by
  unfold tx
  rw [shTo_at h, List.getElem?_append_right (by simp; omega)]
  simp [show min k l.length = k by omega, tx]
theorem shTo_same {d : Int} {l : List Tm} {k : Nat} (h : k < l.length) (e : ((tx l k).op == 1) = false) : shTo d l (k + 1) = shTo d l k := by
  rw [shTo_at h, shTo_succ h]
  have : (tx l k).op ≠ 1 := by simpa using e
  unfold sh1; rw [if_neg this]
theorem shTo_set {d : Int} {l : List Tm} {k : Nat} (h : k < l.length) (e : (tx l k).op = 1) : tms (shTo d l (k + 1)) = (tms (shTo d l k)).set (k * 4 + 1) (.int .i64 ((tx l k).n + d)) := by
  rw [shTo_at h, shTo_succ h, tms_mid, tms_mid]
  have hl : (tms ((l.take k).map (sh1 d))).length = k * 4 := by rw [len_tms]; simp; omega
  rw [List.set_append_right _ _ (by omega), hl, show k * 4 + 1 - k * 4 = 1 by omega]
  unfold sh1; rw [if_pos e]; rfl
theorem shTo_all (d : Int) (l : List Tm) : shTo d l l.length = l.map (sh1 d) := by simp [shTo]

/-- A term of a row of the call's own: its cells, whatever block is made beside. -/
theorem own_tm {w : World} {base g n c : Nat} {l : List Tm} (h : w.ownsRow base 64 4 (.slice (some ⟨g, 0, none⟩) n c) n (tms l)) {k : Nat} (hk : k < n) :
    w.cell? ⟨g, k * 4, none⟩ = some (.int .i64 (tx l k).op) ∧ w.cell? ⟨g, k * 4 + 1, none⟩ = some (.int .i64 (tx l k).n) ∧ w.cell? ⟨g, k * 4 + 2, none⟩ = some (.int .i64 (tx l k).a) ∧ w.cell? ⟨g, k * 4 + 3, none⟩ = some (.int .i64 (tx l k).b) := by
  obtain ⟨ad, e, _, h0, h1, h2, h3⟩ := (Rd.of_own h).tm hk
  injection e with e; subst e
  rw [cell_at] at h0 h1 h2 h3
  exact ⟨h0, h1, h2, h3⟩

def shOk (l : List Tm) (vars d : Int) : Bool := validB l vars && inB d 0 (5 - vars)
def shiftedL (l : List Tm) (vars d : Int) : List Tm := if shOk l vars d then l.map (sh1 d) else []
theorem gives_none (w w' : World) (hb : Below w.heap.size w w') : GivesTms w [] (.returned (.slice none 0 0)) w' := ⟨_, rfl, World.ownsRow_nil _ _ _ _, hb⟩

theorem valid_small {l : List Tm} {vars : Int} (h : validB l vars = true) : 1 ≤ l.length ∧ l.length ≤ 40 ∧ 0 ≤ vars ∧ vars ≤ 5 := by
  unfold validB kindsOf at h
  by_cases hs : sizesOk l.length vars = true
  · simp [sizesOk] at hs; omega
  · rw [if_neg hs] at h; simp at h

/-- A term with a kind among terms of kinds: a variable's number is one. -/
theorem var_small {l : List Tm} {vars : Int} (h : validB l vars = true) {k : Nat} (hk : k < l.length) (e : (tx l k).op = 1) : 0 ≤ (tx l k).n ∧ (tx l k).n < vars := by
  unfold validB kindsOf at h
  by_cases hs : sizesOk l.length vars = true
  · rw [if_pos hs] at h
    cases hq : kindsTo l vars (k + 1) with
    | none => rw [kindsTo_none hq _ hk] at h; simp at h
    | some ks =>
      simp only [kindsTo] at hq
      cases hq' : kindsTo l vars k with
      | none => rw [hq'] at hq; cases hq
      | some ks' =>
        rw [hq'] at hq
        dsimp only at hq
        split at hq
        · cases hq
        · rename_i hne
          unfold kind at hne
          rw [if_neg (by omega), if_pos e] at hne
          have : ((tx l k).a == 0 && ((tx l k).b == 0 && (decide (0 ≤ (tx l k).n) && decide ((tx l k).n < vars)))) = true := by
            cases hb : ((tx l k).a == 0 && ((tx l k).b == 0 && (decide (0 ≤ (tx l k).n) && decide ((tx l k).n < vars))))
            · rw [hb] at hne; exact absurd rfl hne
            · rfl
          simp at this
          exact this.2.2
  · rw [if_neg hs] at h; simp at h

set_option maxHeartbeats 2000000 in
theorem shifted_impl (A : Option Addr) (n c : Nat) (l : List Tm) (vars d : Int) (w : World) (h : Rd w w.heap.size 4 A n (tms l)) (hn : n ≤ maxLen) :
    Calls Try.prog 28 #[.slice A n c, .int .i64 vars, .int .i64 d] w (GivesTms w (shiftedL l vars d)) := by
  have hl := Lib.hid h.tlen
  cases g : validB l vars
  · have e : shiftedL l vars d = [] := by unfold shiftedL shOk; rw [g]; rfl
    rw [e]
    have G := Lib.hid g
    clear e g
    go_enter Try.func28, Try.ntmps28
    go_wp2_with fail
    refine (valid_impl A n c l vars _ h hn).mono ?_
    rintro e w1 ⟨rfl, b1⟩
    rw [G.out]
    go_wp2
    go_ret
    exact gives_none _ _ b1
  obtain ⟨s1, s2, s3, s4⟩ := valid_small g
  have hs1 : 1 ≤ n := by have := hl.out; omega
  have hs2 : n ≤ 40 := by have := hl.out; omega
  cases g2 : inB d 0 (5 - vars)
  · have e : shiftedL l vars d = [] := by unfold shiftedL shOk; rw [g, g2]; rfl
    rw [e]
    have G := Lib.hid g
    have g2 := inB_not.1 g2
    clear e g
    by_cases hd : d < 0
    all_goals
      go_enter Try.func28, Try.ntmps28
      go_wp2_with fail
      refine (valid_impl A n c l vars _ h hn).mono ?_
      rintro e w1 ⟨rfl, b1⟩
      rw [G.out]
      go_wp2
      go_ret
      exact gives_none _ _ b1
  · have e : shiftedL l vars d = l.map (sh1 d) := by unfold shiftedL shOk; rw [g, g2]; rfl
    rw [e]
    obtain ⟨d1, d2⟩ := inB_iff.1 g2
    have hv := Lib.hid (fun k (hk : k < l.length) e => var_small g (k := k) hk e)
    have G := Lib.hid g
    clear e g g2
    go_enter Try.func28, Try.ntmps28
    go_wp2_with fail
    refine (valid_impl A n c l vars _ h hn).mono ?_
    rintro e w1 ⟨rfl, b1⟩
    rw [G.out]
    go_wp2_with fail
    refine (clone_tm A n c l _ ((h.below b1).more b1.size) (by omega)).mono ?_
    rintro e w2 ⟨v, rfl, ho, b2⟩
    rw [hl.out] at ho
    rcases ho.2 with ⟨_, h0⟩ | ⟨g, cap, cur, rfl, hg, _⟩
    · omega
    have B2 := b1.trans (b2.mono b1.size)
    have ho' : w2.ownsRow w.heap.size 64 4 (.slice (some ⟨g, 0, none⟩) n cap) n (tms l) := ⟨ho.1, by
      rcases ho.2 with h' | ⟨g', cap', cur', e', hg', rest⟩
      · exact .inl h'
      · exact .inr ⟨g', cap', cur', e', Nat.le_trans b1.size hg', rest⟩⟩
    clear ho
    go_wp2
    go_loopg [28] n (fun m i wr => ∃ k : Nat, k + m = n ∧ i = .int .i64 k ∧ wr.ownsRow w.heap.size 64 4 (.slice (some ⟨g, 0, none⟩) n cap) n (tms (shTo d l k)) ∧ Below w.heap.size w wr)
    case atStart => exact ⟨0, by omega, rfl, by simpa [shTo] using ho', B2⟩
    case round =>
      obtain ⟨k, hk, rfl, ho, hb⟩ := hrel
      clear ho'
      by_cases hlt : k < n
      · have hkl : k < l.length := by have := hl.out; omega
        obtain ⟨c0, c1, c2, c3⟩ := own_tm ho hlt
        rw [shTo_tx hkl] at c0 c1 c2 c3
        have hgl := (ho.lt g rfl).2
        have c1' := fun o => (own_tm (ho.alloc o) hlt).2.1
        rw [shTo_tx hkl] at c1'
        have f1 := fun o => (ho.alloc o).frozenAt (k * 4 + 1)
        cases ht : (tx l k).op == 1
        · have e := shTo_same (d := d) hkl ht
          have E := Lib.hid e; clear e
          go_wp2
          go_roundg (n - (k + 1))
          case measure => omega
          case rel => exact ⟨k + 1, by omega, by go_num, by rw [E.out]; exact ho.alloc _, hb.alloc hb.size _⟩
        · have ht' : (tx l k).op = 1 := by simpa using ht
          have e := shTo_set (d := d) hkl ht'
          have E := Lib.hid e; clear e
          obtain ⟨q1, q2⟩ := hv.out k hkl ht'
          clear ht'
          have st := Lib.hid (ho.stored (k * 4 + 1) (.int .i64 ((tx l k).n + d)))
          go_wp2
          go_roundg (n - (k + 1))
          case measure => omega
          case rel =>
            exact ⟨k + 1, by omega, by go_num, by rw [E.out]; exact st.out.1.alloc _, (hb.setCell (p := ⟨g, k * 4 + 1, none⟩) (ho.lt g rfl).1 _).alloc (by simp only [World.setCell, Array.size_modify]; exact hb.size) _⟩
      · obtain rfl : k = n := by omega
        go_wp2
        go_ret
        rw [← hl.out, shTo_all] at ho
        refine ⟨_, rfl, ?_, hb⟩
        rw [List.length_map, hl.out]
        rw [hl.out] at ho
        exact ho
end Go.Proofs.Ytmpclfjaddjelaa
