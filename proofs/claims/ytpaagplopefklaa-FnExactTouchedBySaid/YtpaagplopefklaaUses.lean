/- The variables that a rule's expressions use: gathered, sorted, each once. -/
import Derived.Test.YtpaagplopefklaaTouchP
import Derived.Test.YtpaagplopefklaaUseI
import Derived.Test.YtpaagplopefklaaUseS2
import Derived.Test.YtpaagplopefklaaIntApp
import Derived.Test.YtpaagplopefklaaShelf
import Derived.Lib.OwnBridge
namespace Go.Proofs.Ytpaagplopefklaa
open Go.RowKit

theorem grow_below (w : World) (os : Array Obj) : Below w.heap.size w (Go.Sort.grow w os) :=
  ⟨rfl, rfl, rfl, by simp [Go.Sort.grow], fun k hk => by simp [Go.Sort.grow, Array.getElem?_append_left hk]⟩

/-- A row of numbers sorted in place. -/
theorem sort_own (B : Nat) (t : TypeId) (A : Option Addr) (n c : Nat) (l : List Int) (w : World) (h : w.ownsRow B t 1 (.slice A n c) n (ints l)) (hB : B ≤ w.heap.size) (hn : n ≤ 4000000000) :
    Calls Try.prog 90 #[.slice A n c] w (fun e w' => e = .returned (.tuple #[]) ∧ w'.ownsRow B t 1 (.slice A n c) n (ints (l.mergeSort fun x y => decide (x ≤ y))) ∧ Below B w w') := by
  have hl : l.length = n := by have := h.1; rw [len_ints] at this; omega
  by_cases hv : Value.slice A n c = .slice none 0 0
  · injection hv with e1 e2 e3
    subst e1; subst e2; subst e3
    obtain rfl : l = [] := List.length_eq_zero_iff.1 hl
    refine (Try.slices_Sort_int_none none 0 w).mono ?_
    rintro e w' ⟨rfl, rfl⟩
    exact ⟨rfl, by rw [List.mergeSort_nil]; exact h, Below.refl _ _⟩
  · obtain ⟨g, cap, e, hb, hlt, hnc, hm, hl2, hH⟩ := Lib.holds_of_ownsRow (enc := Value.int .i64) (zs := l) h hv
    injection e with e1 _ e3
    subst e1; subst e3
    have hS := Try.slices_Sort_int g 0 c l w hH hlt (by omega)
    rw [hl] at hS
    refine hS.mono ?_
    rintro e w' ⟨rfl, q, os, rfl⟩
    have hms : (l.mergeSort fun x y => decide (x ≤ y)).length = n := by rw [List.length_mergeSort]; exact hl
    have o1 := Lib.ownsRow_putRow (enc := Value.int .i64) (zs := l) (ys := l.mergeSort fun x y => decide (x ≤ y)) (q := q) (k := n) h hms (Nat.le_refl _)
    rw [List.take_of_length_le (by omega)] at o1
    have b1 := Lib.below_putRow (enc := Value.int .i64) (q := q) (d := (l.mergeSort fun x y => decide (x ≤ y)).toArray) (Below.refl B w) hb
    exact ⟨rfl, own_below o1 (grow_below _ os), b1.trans ((grow_below _ os).mono (Nat.le_trans hB b1.size))⟩

/-- Equal neighbours of a row of numbers left out, in place. -/
theorem compact_own (B : Nat) (t : TypeId) (A : Option Addr) (n c : Nat) (l : List Int) (w : World) (h : w.ownsRow B t 1 (.slice A n c) n (ints l)) (hn : n ≤ 4000000000) :
    Calls Try.prog 91 #[.slice A n c] w (fun e w' => e = .returned (.slice A (Lib.compact l).length c) ∧ w'.ownsRow B t 1 (.slice A (Lib.compact l).length c) (Lib.compact l).length (ints (Lib.compact l)) ∧ Below B w w') := by
  have hl : l.length = n := by have := h.1; rw [len_ints] at this; omega
  by_cases hv : Value.slice A n c = .slice none 0 0
  · injection hv with e1 e2 e3
    subst e1; subst e2; subst e3
    obtain rfl : l = [] := List.length_eq_zero_iff.1 hl
    refine (Try.slices_Compact_int_empty none 0 w).mono ?_
    rintro e w' ⟨rfl, rfl⟩
    exact ⟨rfl, h, Below.refl _ _⟩
  · obtain ⟨g, cap, e, hb, hlt, hnc, hm, hl2, hH⟩ := Lib.holds_of_ownsRow (enc := Value.int .i64) (zs := l) h hv
    injection e with e1 _ e3
    subst e1; subst e3
    have hS := Try.slices_Compact_int g 0 c l w hH (by omega) (by omega)
    rw [hl] at hS
    refine hS.mono ?_
    rintro e w' ⟨rfl, q, rfl⟩
    have hcl := Lib.compact_length_le l
    have o1 := Lib.ownsRow_putRow (enc := Value.int .i64) (zs := l) (ys := Lib.compact l ++ List.replicate (n - (Lib.compact l).length) 0) (q := q) (k := (Lib.compact l).length) h (by simp; omega) (by omega)
    rw [List.take_left' rfl] at o1
    exact ⟨rfl, o1, Lib.below_putRow (enc := Value.int .i64) (q := q) (Below.refl B w) hb⟩

theorem run_app_none (A : Option Addr) (n c c2 : Nat) (ty : TypeId) (h : n ≤ c) (W : World) : (Builtin.append_ #[35, 35] ty #[.slice A n c, .slice none 0 c2]).run Try.prog W = .ok (.slice A n c) W := by
  cases A <;> simp [Builtin.append_, run_underlying Try.underlying35, sizeOf, typeInfo, int_row.1, Builtin.lenOf, h, Builtin.firstCells, storeCells]

theorem app_ints_any {ops : Array Oper} {rest : List Oper} {o : Oper} {a : Act} {Q : Exit → Act → World → Prop} {W : World} (hgd : o.guard = none) (s x : Operand)
    (ho : o.op = .call { callee := .builtin .append, args := #[s, x], argTypes := #[35, 35] }) (base : Nat) (v : Value) (k : Nat) (l m : List Int) (c n : Nat) (A : Option Addr)
    (hs : a.eval s = v) (hown : W.ownsRow base 3 1 v k (ints l)) (hx : a.eval x = .slice A n c) (hm : Rd W W.heap.size 1 A n (ints m)) (hk : k + n < 1000000000000) (hb : base ≤ W.heap.size)
    (h : ∀ v' w', w'.ownsRow base 3 1 v' (k + n) (ints (l ++ m)) → Below base W w' → wpList Try.prog ops Q rest (a.put o.dst v') w') :
    wpList Try.prog ops Q (o :: rest) a W := by
  have hl := hm.len
  cases A with
  | some ad =>
    refine app_ints_at hgd s x ho base v k l m c n ad hs hown hx hl ?_ hk hb h
    rcases Nat.eq_zero_or_pos n with e | e
    · intro j u hu
      have hj := (List.getElem?_eq_some_iff.1 hu).1
      rw [len_ints] at hj; omega
    · obtain ⟨ad', e', _, hc⟩ := hm.2 e
      injection e' with e'; subst e'
      exact hc
  | none =>
    have h0 : n = 0 := by
      rcases Nat.eq_zero_or_pos n with e | e
      · exact e
      · obtain ⟨ad, e', _⟩ := hm.2 e
        cases e'
    subst h0
    obtain rfl : m = [] := List.eq_nil_of_length_eq_zero hl
    obtain ⟨A', c', rfl, hc, _⟩ := own_form hown
    have hr := run_app_none A' k c' c o.type hc W
    refine wpList_plain hgd fun K hK' => ?_
    unfold Oper.wp execOp
    simp only [ho, resolve, invoke, builtin, Sem.run_bind, Sem.run_pure, Result.andThen_ok, List.map_toArray, List.map_cons, List.map_nil, hs, hx, hr]
    exact hK' _ _ (h _ W (by rw [List.append_nil]; exact hown) (Below.refl _ _))

set_option maxRecDepth 100000 in
set_option maxHeartbeats 4000000 in
theorem ruleUses_any (R : Rl) (vars : Nat) (A4 : Option Addr) (n4 c4 : Nat) (A5 : Option Addr) (n5 c5 : Nat) (A6 : Option Addr) (n6 c6 : Nat) (w : World) (r1 : Mem.rd w w.heap.size [.slice A4 n4 c4] R.cond) (r3 : Mem.rd w w.heap.size [.slice A6 n6 c6] R.terms) (h5 : n6 ≤ 5) :
    Calls Try.prog 65 #[.agg #[.slice A4 n4 c4, .slice A5 n5 c5, .slice A6 n6 c6], .int .i64 vars] w (GivesInts w (touchTo R vars R.terms.length vars)) := by
  have L6 := rd_len r3
  have E : Hid (Lib.compact ((gath R vars n6).mergeSort fun x y => decide (x ≤ y)) = touchTo R vars R.terms.length vars) := Lib.hid (by rw [L6]; exact uses_eq R vars n6)
  obtain ⟨F, hF⟩ : ∃ F, F = touchTo R vars R.terms.length vars := ⟨_, rfl⟩
  rw [← hF] at E ⊢
  clear hF L6
  have GL := Lib.hid (fun k => gath_len R vars k)
  have m1 := rd_max r1
  have BX : Hid (∀ W, Below (w.alloc (.cells #[.slice A4 n4 c4, .slice A5 n5 c5, .slice A6 n6 c6] 70)).heap.size (w.alloc (.cells #[.slice A4 n4 c4, .slice A5 n5 c5, .slice A6 n6 c6] 70)) W →
      Below w.heap.size w W ∧ W.cell? ⟨w.heap.size, 0, none⟩ = some (.slice A4 n4 c4) ∧ W.cell? ⟨w.heap.size, 1, none⟩ = some (.slice A5 n5 c5) ∧ W.cell? ⟨w.heap.size, 2, none⟩ = some (.slice A6 n6 c6)) :=
    Lib.hid fun W hW => ⟨below_call hW, ((Blk.new w _ _).below hW (by simp)).cell 0, ((Blk.new w _ _).below hW (by simp)).cell 1, ((Blk.new w _ _).below hW (by simp)).cell 2⟩
  have UC := Lib.hid (fun o => usedBy_impl A4 n4 c4 R.cond vars (w.alloc o) (rd_tms.1 (Mem.rd_on_alloc r1 o)).2 m1)
  go_enter Try.func65, Try.ntmps65
  go_wp2_with fail
  refine (UC.out _).mono ?_
  rintro e w2 ⟨v2, rfl, o2, b2⟩
  rw [World.size_alloc] at o2
  obtain ⟨B2, x0, x1, x2⟩ := BX.out _ b2
  go_wp2
  go_loopg [5, 7, 15] n6 (fun m v i7 i wr => ∃ k q : Nat, k + m = n6 ∧ i = .int .i64 k ∧ wr.ownsRow (w.heap.size + 1) 3 1 v q (ints (gath R vars k)) ∧ Below (w.alloc (.cells #[.slice A4 n4 c4, .slice A5 n5 c5, .slice A6 n6 c6] 70)).heap.size (w.alloc (.cells #[.slice A4 n4 c4, .slice A5 n5 c5, .slice A6 n6 c6] 70)) wr)
  case atStart => exact ⟨0, _, by omega, rfl, o2, b2⟩
  case round =>
    clear x0 x1 x2 o2
    obtain ⟨k, q, hk, rfl, ho, hb⟩ := hrel
    obtain ⟨B, x0, x1, x2⟩ := BX.out _ hb
    have hql : q ≤ 240 := by have := ho.1; rw [len_ints] at this; have := GL.out k; omega
    by_cases hlt : k < n6
    · obtain ⟨ad6, A7, n7, c7, rfl, hbl6, d6, r7⟩ := ll_at (Mem.rd_below r3 B) hlt
      have UK := Lib.hid (usedBy_impl A7 n7 c7 (el R.terms k) vars wr (rd_tms.1 (Mem.rd_more r7 B.size)).2 (rd_max r7))
      have hul := used_len (el R.terms k) vars
      obtain ⟨u, hu⟩ : ∃ u, u = (usedL (el R.terms k) vars).length := ⟨_, rfl⟩
      have HU := Lib.hid hu
      rw [← hu] at hul
      have HO := Lib.hid ho
      clear hu ho r7
      go_wp2_with fail
      refine (UK.out).mono ?_
      rintro e w3 ⟨v3, rfl, o3, b3⟩
      rw [← HU.out] at o3
      obtain ⟨A8, c8, rfl, _, r8⟩ := own_form o3
      have O3 := Lib.hid (own_below HO.out b3)
      have R8 := Lib.hid r8
      have hb3 := hb.trans (b3.mono hb.size)
      have l3 : w.heap.size + 1 ≤ w3.heap.size := by have := hb3.size; rw [World.size_alloc] at this; exact this
      clear o3 r8
      go_wp2_with (first | (at_builtin; refine app_ints_any rfl _ _ rfl (w.heap.size + 1) _ q _ _ _ u _ rfl O3.out rfl R8.out (by omega) l3 ?_; intro v' w4 ho4 hb4))
      go_roundg (n6 - (k + 1))
      case measure => omega
      case rel => exact ⟨k + 1, q + u, by omega, by go_num, ho4, hb3.trans (hb4.mono (by simp))⟩
    · obtain rfl : k = n6 := by omega
      obtain ⟨A8, c8, rfl, _, _⟩ := own_form ho
      have SC := Lib.hid (sort_own (w.heap.size + 1) 3 A8 q c8 _ wr ho (by have := hb.size; rw [World.size_alloc] at this; exact this) (by omega))
      clear ho
      go_wp2_with fail
      refine SC.out.mono ?_
      rintro e w3 ⟨rfl, o3, b3⟩
      have CC := Lib.hid (compact_own (w.heap.size + 1) 3 A8 q c8 _ w3 o3 (by omega))
      clear o3
      go_wp2_with fail
      refine CC.out.mono ?_
      rintro e w4 ⟨rfl, o4, b4⟩
      go_wp2
      go_ret
      rw [E.out] at o4 ⊢
      exact ⟨_, rfl, own_lower o4 (by omega), (B.trans (b3.mono (by omega))).trans (b4.mono (by omega))⟩
end Go.Proofs.Ytpaagplopefklaa
