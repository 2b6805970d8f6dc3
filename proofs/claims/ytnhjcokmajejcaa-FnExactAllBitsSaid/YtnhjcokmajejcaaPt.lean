/- States as arrays with a length: the program's words. -/
import Derived.Test.YtnhjcokmajejcaaSysE
import Derived.Test.YtnhjcokmajejcaaInR
import Derived.Test.YtnhjcokmajejcaaEvalS2
import Derived.Test.YtnhjcokmajejcaaEvalB
import Derived.Test.YtnhjcokmajejcaaToSy
import Derived.Test.YtnhjcokmajejcaaIntApp
namespace Go.Proofs.Ytnhjcokmajejcaa
open Go.RowKit

def ruleIn (s : Sy) (r : Int) : Bool := decide (0 ≤ r) && decide (r < s.rules.length)


theorem ruleIn_at {s : Sy} {r : Int} (h : ruleIn s r = true) : ∃ k : Nat, r = k ∧ k < s.rules.length := by
  unfold ruleIn at h
  simp at h
  exact ⟨r.toNat, by omega, by omega⟩

end Go.Proofs.Ytnhjcokmajejcaa
namespace Go.Proofs.Ytnhjcokmajejcaa
open Go.RowKit

/-- The value of the last term. -/
def valB (l : List Tm) (st : List Int) : Int := ix (valsTo l st l.length) (l.length - 1)

end Go.Proofs.Ytnhjcokmajejcaa
namespace Go.Proofs.Ytnhjcokmajejcaa
open Go.RowKit

structure ExprOk (l : List Tm) (vars : Nat) : Prop where
  lo : 1 ≤ l.length
  hi : l.length ≤ 40
  ks : ∃ ks, kindsTo l vars l.length = some ks
theorem expr_ok {l : List Tm} {vars : Nat} {k : Int} (h : kindB l vars k = true) : ExprOk l vars := by
  unfold kindB lastB at h
  have h1 : 0 < (kindsOf l vars).length := by
    by_cases q : 0 < (kindsOf l vars).length
    · exact q
    · rw [decide_eq_false q] at h; cases h
  unfold kindsOf at h1
  by_cases hs : sizesOk l.length vars = true
  · rw [if_pos hs] at h1
    have hz : 1 ≤ l.length ∧ l.length ≤ 40 := by simp [sizesOk] at hs; omega
    cases e : kindsTo l vars l.length with
    | none => rw [e] at h1; simp at h1
    | some ks => exact ⟨hz.1, hz.2, ks, e⟩
  · rw [if_neg hs] at h1; simp at h1

structure RuleOk (R : Rl) (v : Nat) : Prop where
  cond : ExprOk R.cond v
  sets : ∀ k, k < R.sets.length → 0 ≤ ix R.sets k ∧ ix R.sets k < v
  lens : R.terms.length = R.sets.length
  terms : ∀ k, k < R.sets.length → ExprOk (el R.terms k) v

theorem rule_ok' {R : Rl} {v : Nat} (h : ruleB R v = true) : RuleOk R v := by
  unfold ruleB setsB at h
  simp only [Bool.and_eq_true, decide_eq_true_eq] at h
  obtain ⟨h1, h2, h3, h4⟩ := h
  exact ⟨expr_ok h1, fun k hk => by have := asc_at h2 k hk; omega, h3, fun k hk => expr_ok (allTo_true.1 h4 k (by omega))⟩

structure SysOk (s : Sy) : Prop where
  lo : 1 ≤ s.vars.length
  hi : s.vars.length ≤ 5
  most : s.rules.length ≤ 8
  vars : ∀ k, k < s.vars.length → varB (el s.vars k) = true
  rules : ∀ k, k < s.rules.length → RuleOk (el s.rules k) s.vars.length
  size : sizeB s ≤ 400
theorem sysOk_of {s : Sy} (h : sysB s = true) : SysOk s := by
  unfold sysB at h
  simp only [Bool.and_eq_true, decide_eq_true_eq] at h
  obtain ⟨h1, h2, h3, h4, h5, h6⟩ := h
  exact ⟨h1, h2, h3, allTo_true.1 h4, fun k hk => rule_ok' (allTo_true.1 h5 k hk), h6⟩
theorem has_len {l : List Vr} {st : List Int} (h : hasB l st = true) : st.length = l.length := by
  unfold hasB at h; simp at h; exact h.1
theorem has_at {l : List Vr} {st : List Int} (h : hasB l st = true) : ∀ k, k < l.length → (el l k).low ≤ ix st k ∧ ix st k ≤ (el l k).high := by
  unfold hasB at h
  simp only [Bool.and_eq_true] at h
  intro k hk
  have := allTo_true.1 h.2 k hk
  simpa [inB] using this
theorem sys_nums {s : Sy} {st : List Int} (hs : SysOk s) (h : hasB s.vars st = true) : NumsOk st := by
  intro i hi
  have e := has_len h
  have a := has_at h i (by omega)
  have b := varB_iff.1 (hs.vars i (by omega))
  omega

/-- A state with the first k variables of a rule set. -/
def madeTo (R : Rl) (st : List Int) : Nat → List Int
  | 0 => st
  | k + 1 => (madeTo R st k).set (ix R.sets k).toNat (valB (el R.terms k) st)
theorem len_made (R : Rl) (st : List Int) : ∀ k, (madeTo R st k).length = st.length
  | 0 => rfl
  | k + 1 => by rw [madeTo, List.length_set, len_made R st k]
/-- What a rule makes of a state; nothing, if it may not be used. -/
def useR (R : Rl) (l : List Vr) (st : List Int) : List Int := if valB R.cond st = 0 then [] else if hasB l (madeTo R st R.sets.length) then madeTo R st R.sets.length else []
def useL (s : Sy) (st : List Int) (r : Nat) : List Int := useR (el s.rules r) s.vars st
theorem use_zero {R : Rl} {l : List Vr} {st : List Int} (h : valB R.cond st = 0) : useR R l st = [] := by unfold useR; rw [if_pos h]
theorem use_out {R : Rl} {l : List Vr} {st : List Int} (h : valB R.cond st ≠ 0) (h2 : hasB l (madeTo R st R.sets.length) = false) : useR R l st = [] := by unfold useR; rw [if_neg h, if_neg (by simp [h2])]
theorem use_in {R : Rl} {l : List Vr} {st : List Int} (h : valB R.cond st ≠ 0) (h2 : hasB l (madeTo R st R.sets.length) = true) : useR R l st = madeTo R st R.sets.length := by unfold useR; rw [if_neg h, if_pos h2]

/-- A state as an array with a length: its cells and its value. -/
def ptC (st : List Int) : List Value := [.int .i64 (ix st 0), .int .i64 (ix st 1), .int .i64 (ix st 2), .int .i64 (ix st 3), .int .i64 (ix st 4), .int .i64 st.length]
def ptV (st : List Int) : Value := .agg #[.int .i64 (ix st 0), .int .i64 (ix st 1), .int .i64 (ix st 2), .int .i64 (ix st 3), .int .i64 (ix st 4), .int .i64 st.length]
theorem len_ptC (st : List Int) : (ptC st).length = 6 := rfl
theorem ix_set {l : List Int} {v j : Nat} {x : Int} (h : v < l.length) : ix (l.set v x) j = if v = j then x else ix l j := by
  unfold ix
  rw [List.getElem?_set]
  by_cases e : v = j
  · subst e; simp [h]
  · simp [e]
theorem ptC_set {st : List Int} {v : Nat} {x : Int} (h : v < st.length) (h5 : st.length ≤ 5) : (ptC st).set v (.int .i64 x) = ptC (st.set v x) := by
  unfold ptC
  simp only [ix_set h, List.length_set]
  match v, (show v < 5 by omega) with
  | 0, _ => rfl
  | 1, _ => rfl
  | 2, _ => rfl
  | 3, _ => rfl
  | 4, _ => rfl
theorem ptC_at {st : List Int} {k : Nat} (h : k < st.length) (h5 : st.length ≤ 5) : (ptC st)[k]? = some (.int .i64 (ix st k)) := by
  match k, (show k < 5 by omega) with
  | 0, _ => rfl
  | 1, _ => rfl
  | 2, _ => rfl
  | 3, _ => rfl
  | 4, _ => rfl
theorem ptC_of {st : List Int} (h5 : st.length ≤ 5) : ints st ++ [Value.int .i64 0, .int .i64 0, .int .i64 0, .int .i64 0, .int .i64 0, .int .i64 st.length].drop st.length = ptC st := by
  match st, h5 with
  | [], _ => rfl
  | [_], _ => rfl
  | [_, _], _ => rfl
  | [_, _, _], _ => rfl
  | [_, _, _, _], _ => rfl
  | [_, _, _, _, _], _ => rfl
  | _ :: _ :: _ :: _ :: _ :: _ :: _, h => simp at h

section
variable {w w' : World} {g : Nat} {t : TypeId} {st : List Int}
/-- A box of a state is read as a slice. -/
theorem Blk.pt (h : Blk w g t (ptC st)) (h5 : st.length ≤ 5) : Rd w w.heap.size 1 (some ⟨g, 0, none⟩) st.length (ints st) := by
  refine ⟨by rw [len_ints]; omega, fun _ => ⟨_, rfl, h.lt, fun j u hu => ?_⟩⟩
  have hj : j < st.length := by
    have := (List.getElem?_eq_some_iff.1 hu).1
    rw [len_ints] at this; exact this
  have hadd : (⟨g, 0, none⟩ : Addr).add j = ⟨g, j, none⟩ := by unfold Addr.add; split <;> simp_all
  rw [hadd, h.cell, ptC_at hj h5]
  rw [← hu]
  unfold ints ix
  rw [List.getElem?_map, List.getElem?_eq_getElem hj]; rfl
end

theorem int_cells {st : List Int} : (ints st).length = st.length := len_ints st

/-- 'copy' of a state into the front of a row. -/
theorem run_copy_pt {w : World} {g n c cap : Nat} {A : Option Addr} {T : TypeId} {st : List Int} {ty : TypeId} (hg : Blk w g T [Value.int .i64 0, .int .i64 0, .int .i64 0, .int .i64 0, .int .i64 0, .int .i64 n])
    (h : Rd w w.heap.size 1 A n (ints st)) (h1 : 1 ≤ n) (h5 : n ≤ 5) :
    ∃ w', (Builtin.copy_ #[26, 26] ty #[.slice (some ⟨g, 0, none⟩) 5 cap, .slice A n c]).run Try.prog w = .ok (.int .i64 n) w' ∧ Blk w' g T (ptC st) ∧ w.grownBy w' (some g) := by
  obtain ⟨ad, rfl, _, hc⟩ := h.2 (by omega)
  have hl : st.length = n := h.len
  have hf := run_firstCells_some (P := Try.prog) w 1 n ad n c (ints st) (by rw [len_ints]; omega) hc
  have hst := run_storeCells_at (P := Try.prog) g 0 T (ints st) 0 _ w hg (by simp [len_ints]; omega) (by intro u hu; unfold ints at hu; simp at hu; obtain ⟨x, _, rfl⟩ := hu; rfl)
  refine ⟨w.setRow g (ptC st).toArray, ?_, ?_, ?_⟩
  · have hmin : Nat.min n 5 = n := Nat.min_eq_left h5
    simp only [Builtin.copy_, sizeOf, typeInfo, Builtin.lenOf]
    simp [run_underlying Try.underlying26, int_row.1, int_row.2.2.1, hmin, hf]
    simp at hst
    rw [hst]
    have e := ptC_of (st := st) (by omega)
    rw [hl] at e
    simp [len_ints, hl, e]
    try rfl
  · exact setRow_heap _ g _ _ T _ hg
  · exact ⟨rfl, rfl, rfl, by simp, fun k _ hk => setRow_other _ g k _ (fun e => hk (by simp [e]))⟩
end Go.Proofs.Ytnhjcokmajejcaa
namespace Go.Proofs.Ytnhjcokmajejcaa
open Go.RowKit

theorem copy_pt {ops : Array Oper} {rest : List Oper} {o : Oper} {a : Act} {Q : Exit → Act → World → Prop} {w : World} {g n c cap : Nat} {A : Option Addr} {T : TypeId} {st : List Int} (hgd : o.guard = none) (d s : Operand)
    (ho : o.op = .call { callee := .builtin .copy, args := #[d, s], argTypes := #[26, 26] }) (hd : a.eval d = .slice (some ⟨g, 0, none⟩) 5 cap) (hs : a.eval s = .slice A n c)
    (hg : Blk w g T [Value.int .i64 0, Value.int .i64 0, .int .i64 0, .int .i64 0, .int .i64 0, .int .i64 n]) (h : Rd w w.heap.size 1 A n (ints st)) (h1 : 1 ≤ n) (h5 : n ≤ 5)
    (hK : ∀ w', Blk w' g T (ptC st) → w.grownBy w' (some g) → wpList Try.prog ops Q rest (a.put o.dst (.int .i64 n)) w') : wpList Try.prog ops Q (o :: rest) a w := by
  obtain ⟨w', hr, k1, k2⟩ := run_copy_pt (ty := o.type) (cap := cap) hg h h1 h5 (c := c)
  refine wpList_plain hgd fun K hK' => ?_
  unfold Oper.wp execOp
  simp only [ho, resolve, invoke, builtin, Sem.run_bind, Sem.run_pure, Result.andThen_ok, List.map_toArray, List.map_cons, List.map_nil, hd, hs, hr]
  exact hK' _ _ (hK w' k1 k2)

theorem six_cells {w : World} {g : Nat} {t : TypeId} {a b c d e f : Value} (h : Blk w g t [a, b, c, d, e, f]) : w.cell? ⟨g, 0, none⟩ = some a ∧ w.cell? ⟨g, 1, none⟩ = some b ∧ w.cell? ⟨g, 2, none⟩ = some c ∧
    w.cell? ⟨g, 3, none⟩ = some d ∧ w.cell? ⟨g, 4, none⟩ = some e ∧ w.cell? ⟨g, 5, none⟩ = some f :=
  ⟨h.cell 0, h.cell 1, h.cell 2, h.cell 3, h.cell 4, h.cell 5⟩
theorem six_frozen {w : World} {g : Nat} {t : TypeId} {cs : List Value} (h : Blk w g t cs) : w.frozen? ⟨g, 0, none⟩ = false ∧ w.frozen? ⟨g, 1, none⟩ = false ∧ w.frozen? ⟨g, 2, none⟩ = false ∧
    w.frozen? ⟨g, 3, none⟩ = false ∧ w.frozen? ⟨g, 4, none⟩ = false ∧ w.frozen? ⟨g, 5, none⟩ = false :=
  ⟨h.frozen 0, h.frozen 1, h.frozen 2, h.frozen 3, h.frozen 4, h.frozen 5⟩
theorem pt_cells {w : World} {g : Nat} {t : TypeId} {st : List Int} (h : Blk w g t (ptC st)) : w.cell? ⟨g, 0, none⟩ = some (.int .i64 (ix st 0)) ∧ w.cell? ⟨g, 1, none⟩ = some (.int .i64 (ix st 1)) ∧ w.cell? ⟨g, 2, none⟩ = some (.int .i64 (ix st 2)) ∧
    w.cell? ⟨g, 3, none⟩ = some (.int .i64 (ix st 3)) ∧ w.cell? ⟨g, 4, none⟩ = some (.int .i64 (ix st 4)) ∧ w.cell? ⟨g, 5, none⟩ = some (.int .i64 st.length) :=
  ⟨h.cell 0, h.cell 1, h.cell 2, h.cell 3, h.cell 4, h.cell 5⟩

theorem arr5 : Try.prog.underlying 132 = some (.array 5 3) := by kernel_rfl
/-- The first m values of an array of five. -/
theorem run_pt_slice (a : Addr) (m : Nat) (h : m ≤ 5) (W : World) : (Instr.sliceAt 132 (.pointer (some a)) none (some (.int .i64 m)) none).run Try.prog W = .ok (.slice (some a) m 5) W := by
  have e : Try.prog.arrayLen 132 = 5 := by kernel_rfl
  have e2 : Try.prog.elem 132 = 3 := by kernel_rfl
  rw [run_sliceAt_array_h W 132 a (by rw [e, e2]; exact arr5) .i64 m (by omega) (by rw [e]; omega), e, e2]
  simp [sizeOf, typeInfo, int_row.1, int_row.2.2.1, slicedAt, Addr.add]

/-- The address of a value in an array of five. -/
theorem run_pt_index (b v : Nat) (h : v < 5) (W : World) : (Instr.indexAt 132 (.pointer (some ⟨b, 0, none⟩)) (.int .i64 (v : Int))).run Try.prog W = .ok (.pointer (some ⟨b, v, none⟩)) W := by
  have e : Try.prog.arrayLen 132 = 5 := by kernel_rfl
  have e2 : Try.prog.elem 132 = 3 := by kernel_rfl
  rw [run_indexAt_array W 132 ⟨b, 0, none⟩ .i64 v (by rw [e, e2]; exact arr5), e, e2, if_pos (by omega)]
  have ha : (⟨b, 0, none⟩ : Addr).add v = ⟨b, v, none⟩ := by unfold Addr.add; split <;> simp_all
  simp [sizeOf, typeInfo, int_row.1, int_row.2.2.1, ha]

end Go.Proofs.Ytnhjcokmajejcaa
