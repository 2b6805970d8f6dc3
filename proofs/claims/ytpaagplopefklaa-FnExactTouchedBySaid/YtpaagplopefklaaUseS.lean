/- The model's UsedBy. -/
import Derived.Test.YtpaagplopefklaaUseI
namespace Go.Proofs.Ytpaagplopefklaa
open Go.RowKit

/-- The cells of a list of truths. -/
def bls (l : List Bool) : List Value := l.map Value.bool
theorem len_bls (l : List Bool) : (bls l).length = l.length := by simp [bls]
theorem bls_at {l : List Bool} {k : Nat} (h : k < l.length) : (bls l)[k]? = some (.bool (bx l k)) := by unfold bls bx; rw [List.getElem?_map, List.getElem?_eq_getElem h]; rfl
theorem bool_info : (Try.prog.info? 4).map (fun i => (i.zero, i.size, i.bytes)) = some (some (.bool false), 1, 1) := by kernel_rfl
noncomputable def blRow : TypeInfo := Classical.choose (info_parts bool_info)
theorem bl_row : Try.prog.info? 4 = some blRow ∧ blRow.zero = some (.bool false) ∧ blRow.size = 1 ∧ blRow.bytes = 1 := Classical.choose_spec (info_parts bool_info)

/-- 'append(v, z)' onto a row of truths of the call's own. -/
theorem app_bl {ops : Array Oper} {rest : List Oper} {o : Oper} {a : Act} {Q : Exit → Act → World → Prop} {W : World} (hgd : o.guard = none) (s x : Operand)
    (ho : o.op = .call { callee := .builtin .append, args := #[s, x], argTypes := #[111, 111] }) (base : Nat) (v : Value) (k : Nat) (l : List Bool) (z : Bool) (ad : Addr)
    (hs : a.eval s = v) (hown : W.ownsRow base 4 1 v k (bls l)) (hx : a.eval x = .slice (some ad) 1 1) (had : W.cell? ad = some (.bool z)) (hk : k < 1000000000000) (hb : base ≤ W.heap.size)
    (h : ∀ v' w', w'.ownsRow base 4 1 v' (k + 1) (bls (l ++ [z])) → Below base W w' → wpList Try.prog ops Q rest (a.put o.dst v') w') :
    wpList Try.prog ops Q (o :: rest) a W := by
  have hcell : ∀ (j : Nat) (u : Value), [Value.bool z][j]? = some u → W.cell? (ad.add j) = some u := by
    intro j u hu
    cases j with
    | zero => rw [add_zero', had]; simpa using hu
    | succ j => simp at hu
  refine wpList_append_own _ hgd s x 111 ho base 4 blRow (.bool false) 1 1 Try.underlying111 bl_row.1 bl_row.2.1 bl_row.2.2.1 bl_row.2.2.2 rfl (by decide) v k _ hs hown ad 1 1 [.bool z] hx rfl hcell ?_ (by unfold maxLen; omega) (by omega) hb ?_
  · intro u hu; simp at hu; subst hu; rfl
  · intro v' w' h1 h2 _
    exact h v' w' (by simpa [bls] using h1) ((Below.refl base W).grown h2 hb (fun g hg => (hown.lt g hg).1))

theorem need0_take (n k : Nat) (h : k < n) : (need0 n).take (k + 1) = (need0 n).take k ++ [k + 1 == n] := by
  unfold need0
  rw [← List.map_take, ← List.map_take, List.take_succ_eq_append_getElem (by simpa using h), List.map_append]
  simp

set_option maxRecDepth 100000 in
set_option maxHeartbeats 2000000 in
theorem l1Needed_any (A : Option Addr) (n c : Nat) (l : List Tm) (vars : Int) (w : World) (h : Rd w w.heap.size 4 A n (tms l)) (hv : validB l vars = true) :
    Calls Try.prog 88 #[.slice A n c] w fun e w' => ∃ v, e = .returned v ∧ w'.ownsRow w.heap.size 4 1 v n (bls (needTo l n)) ∧ Below w.heap.size w w' := by
  have hl := Lib.hid h.tlen
  obtain ⟨s1, s2, _, _⟩ := valid_small hv
  have hs1 : 1 ≤ n := by have := hl.out; omega
  have hs2 : n ≤ 40 := by have := hl.out; omega
  have hv := Lib.hid hv
  go_enter Try.func88, Try.ntmps88
  go_wp2
  have hown0 := World.ownsRow_lit (base := w.heap.size) (e := 4) (size := 1) w #[] 0 (Nat.le_refl _) (by unfold maxLen; omega) rfl
  go_loopg [3, 4] n (fun m v i wr => ∃ k : Nat, k + m = n ∧ i = .int .i64 k ∧ wr.ownsRow w.heap.size 4 1 v k (bls ((need0 n).take k)) ∧ Below w.heap.size w wr)
  case atStart => exact ⟨0, by omega, rfl, hown0, below_alloc _ _⟩
  case round =>
    obtain ⟨k, hk, rfl, ho, hb⟩ := hrel
    clear hown0
    by_cases hlt : k < n
    · have M := Lib.hid (need0_take n k hlt)
      have HO := Lib.hid ho
      have e : ((k : Int) == (n : Int) - 1) = (k + 1 == n) := by rw [Bool.eq_iff_iff]; simp; omega
      cases hz : (k + 1 == n)
      all_goals
        rw [hz] at e
        have HZ := Lib.hid hz; clear hz
        go_wp2_with (first | (at_builtin; refine app_bl rfl _ _ rfl w.heap.size _ k ((need0 n).take k) _ _ rfl (HO.out.alloc _) rfl (World.cell?_alloc_at _ _ _ _ rfl) (by omega) (by have := hb.size; simp; omega) ?_; intro v' w3 ho3 hb3))
        go_roundg (n - (k + 1))
        case measure => omega
        case rel => exact ⟨k + 1, by omega, by go_num, by rw [M.out, HZ.out]; exact ho3, (hb.alloc hb.size _).trans hb3⟩
    · obtain rfl : k = n := by omega
      rw [List.take_of_length_le (by simp [need0])] at ho
      rcases ho.2 with ⟨_, h0⟩ | ⟨g, cap, cur, rfl, hgw, _⟩
      · omega
      go_wp2
      go_loopg [5] k (fun m i wr => m ≤ k ∧ i = .int .i64 ((m : Int) - 1) ∧ wr.ownsRow w.heap.size 4 1 (.slice (some ⟨g, 0, none⟩) k cap) k (bls (needTo l (k - m))) ∧ Below w.heap.size w wr)
      case atStart => exact ⟨Nat.le_refl _, rfl, by rw [Nat.sub_self]; show World.ownsRow _ _ _ _ _ _ (bls (need0 l.length)); rw [hl.out]; exact ho, hb⟩
      case round =>
        clear ho hb
        obtain ⟨hm, rfl, ho, hb⟩ := hrel
        rcases Nat.eq_zero_or_pos gk with hg0 | hg0
        · subst hg0
          go_wp2
          go_ret
          exact ⟨_, rfl, by simpa using ho, hb⟩
        · obtain ⟨m, rfl⟩ : ∃ m, gk = m + 1 := ⟨gk - 1, by omega⟩
          rw [show ((m + 1 : Nat) : Int) - 1 = (m : Int) by omega]
          have hmk : m < k := by omega
          have hml : m < l.length := by have := hl.out; omega
          have hlen := need_len l (k - (m + 1))
          rw [hl.out] at hlen
          have HS : Hid (needTo l (k - m) = needStep l (needTo l (k - (m + 1))) m) := by
            show needTo l (k - m) = _
            rw [show k - m = (k - (m + 1)) + 1 by omega]
            show needStep l (needTo l (k - (m + 1))) (l.length - (k - (m + 1) + 1)) = _
            rw [hl.out, show k - (k - (m + 1) + 1) = m by omega]
          obtain ⟨ad, rfl, hbl, h0, h1, h2, h3⟩ := (h.below hb).tm hmk
          have c0 : wr.cell? ⟨g, m, none⟩ = some (.bool (bx (needTo l (k - (m + 1))) m)) := by rw [ho.cellAt m (by omega), bls_at (by omega)]
          generalize hnd : needTo l (k - (m + 1)) = nd at *
          clear hnd
          have HLN := Lib.hid hlen; clear hlen
          by_cases hop : 2 ≤ (tx l m).op
          · cases hbn : bx nd m
            · have E : Hid (needStep l nd m = nd) := by show needStep l nd m = nd; unfold needStep; rw [hbn, if_neg (by simp)]
              rw [hbn] at c0
              clear hbn
              go_wp2
              go_roundg m
              case measure => omega
              case rel => exact ⟨by omega, rfl, by rw [HS.out, E.out]; exact ho, hb⟩
            · obtain ⟨q1, q2, q3, q4⟩ := op_small hv.out hml hop
              obtain ⟨ks, hks, hne⟩ := valid_kind hv.out hml
              have hab : (0 ≤ (tx l m).a ∧ (tx l m).a < m) ∧ (0 ≤ (tx l m).b ∧ (tx l m).b < m) := by
                rcases kind_inv hne with ⟨e', _⟩ | ⟨e', _⟩ | ⟨_, _, ⟨a0, a1, _⟩, ⟨b0, b1, _⟩, _⟩ <;> omega
              have E : Hid (needStep l nd m = (nd.set (tx l m).a.toNat true).set (tx l m).b.toNat true) := by show needStep l nd m = _; unfold needStep; rw [hbn, if_pos (by simpa using hop)]
              rw [hbn] at c0
              clear hbn hne hks
              obtain ⟨⟨a0, a1⟩, b0, b1⟩ := hab
              obtain ⟨p, hp⟩ := Int.eq_ofNat_of_zero_le a0
              obtain ⟨q, hq⟩ := Int.eq_ofNat_of_zero_le b0
              rw [hp] at h2 a1
              rw [hq] at h3 b1
              have HE : Hid (needStep l nd m = (nd.set p true).set q true) := by have := E.out; rw [hp, hq] at this; exact this
              clear E hp hq a0 b0 q1 q2 q3 q4
              have hpk : p < k := by omega
              have hqk : q < k := by omega
              obtain ⟨vp, cp⟩ : ∃ u, wr.cell? ⟨g, p, none⟩ = some u := ⟨_, (ho.cellAt p (by omega)).trans (bls_at (by rw [HLN.out]; omega))⟩
              have st1 := ho.stored p (.bool true)
              have st2 := st1.1.stored q (.bool true)
              obtain ⟨vq, cq⟩ : ∃ u, (wr.setCell ⟨g, p, none⟩ (.bool true)).cell? ⟨g, q, none⟩ = some u := by
                rw [st1.1.cellAt q (by omega)]
                exact ⟨_, List.getElem?_eq_getElem (by rw [List.length_set, len_bls, HLN.out]; exact hqk)⟩
              have fp := ho.frozenAt p
              have fq := st1.1.frozenAt q
              have hbg : w.heap.size ≤ g := (ho.lt g rfl).1
              have h3' : (wr.setCell ⟨g, p, none⟩ (.bool true)).cell? ⟨(ad.add (m * 4)).block, (ad.add (m * 4)).off + 3, none⟩ = some (.int .i64 q) := by
                rw [World.cell?_setCell_other _ _ _ _ (by intro e; injection e with e; rw [add_block] at e; omega)]; exact h3
              have S2 := Lib.hid st2.1
              clear st1 st2
              go_wp2
              go_roundg m
              case measure => omega
              case rel =>
                refine ⟨by omega, rfl, ?_, (hb.setCell (p := ⟨g, p, none⟩) hbg _).setCell (p := ⟨g, q, none⟩) hbg _⟩
                rw [HS.out, HE.out]
                have e : bls ((nd.set p true).set q true) = ((bls nd).set p (.bool true)).set q (.bool true) := by unfold bls; rw [List.map_set, List.map_set]
                rw [e]
                exact S2.out
          · have E : Hid (needStep l nd m = nd) := by show needStep l nd m = nd; unfold needStep; rw [if_neg (by simp; omega)]
            have hop' : (tx l m).op < 2 := by omega
            clear hop
            cases hbn : bx nd m
            all_goals
              rw [hbn] at c0
              clear hbn
              go_wp2
              go_roundg m
              case measure => omega
              case rel => exact ⟨by omega, rfl, by rw [HS.out, E.out]; exact ho, hb⟩
end Go.Proofs.Ytpaagplopefklaa
