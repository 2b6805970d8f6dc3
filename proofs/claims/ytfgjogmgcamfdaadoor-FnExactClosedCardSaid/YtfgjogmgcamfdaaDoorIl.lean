/- Rows of numbers that a call owns, beside others: append. -/
import Derived.Test.YtfgjogmgcamfdaaDoorLL
import Derived.Test.YtfgjogmgcamfdaaDoorOwnW
import Derived.Test.YtfgjogmgcamfdaaDoorLaw3
import Derived.Test.YtfgjogmgcamfdaaDoorSS
import Derived.Deep.AppendLies
import Derived.Deep.RegionLaw
namespace Go.Proofs.YtfgjogmgcamfdaaDoor
open Go.RowKit

theorem row_slice {w : World} {base size k : Nat} {e : TypeId} {v : Value} {xs : List Value} (h : w.ownsRow base e size v k xs) : ∃ A c, v = .slice A k c := by
  obtain ⟨A, c, rfl, _⟩ := own_form h
  exact ⟨A, c, rfl⟩
theorem Blk.only {w w' : World} {g : Nat} {t : TypeId} {cs : List Value} {fq : List Nat} (h : Blk w g t cs) (ho : Only fq w w') (hg : g ∉ fq) : Blk w' g t cs := (ho.block g h.lt hg).trans h
theorem app_il {ops : Array Oper} {rest : List Oper} {o : Oper} {a : Act} {Q : Exit → Act → World → Prop} {W : World} {base k : Nat} {v : Value} {l : List Int} {z : Int} {fp : List Nat} {ad : Addr} (hgd : o.guard = none) (s x : Operand)
    (ho : o.op = .call { callee := .builtin .append, args := #[s, x], argTypes := #[29, 29] }) (hs : a.eval s = v) (h : IL W base 3 v k l fp)
    (hx : a.eval x = .slice (some ad) 1 1) (hc : W.cell? ad = some (.int .i64 z)) (hk : k ≤ 1000000000) (hbase : base ≤ W.heap.size)
    (hK : ∀ v' w' fp', IL w' base 3 v' (k + 1) (l ++ [z]) fp' → Only fp W w' → (∀ b ∈ fp', b ∈ fp ∨ b = W.heap.size) → wpList Tryd.prog ops Q rest (a.put o.dst v') w') : wpList Tryd.prog ops Q (o :: rest) a W := by
  obtain ⟨v', w', fp', hr, q1, q2, q3⟩ := IL.app (P := Tryd.prog) (t := 29) (ty := o.type) Tryd.underlying29 int_row.1 int_row.2.1 int_row.2.2.1 int_row.2.2.2 h hc hk hbase
  refine wpList_plain hgd fun K hK' => ?_
  unfold Oper.wp execOp
  simp only [ho, resolve, invoke, builtin, Sem.run_bind, Sem.run_pure, Result.andThen_ok, List.map_toArray, List.map_cons, List.map_nil, hs, hx, hr]
  exact hK' _ _ (hK v' w' fp' q1 q2 q3)
theorem IL.out {w : World} {base k : Nat} {e : TypeId} {v : Value} {l : List Int} {fp : List Nat} (h : IL w base e v k l fp) (hm : k ≤ maxLen) : Mem.own w fp [v] l ∧ fp.Nodup := by
  obtain ⟨ho, rfl⟩ := h
  have hl : l.length = k := by have := ho.1; rw [len_ints] at this; omega
  rcases ho.2 with ⟨rfl, h0⟩ | ⟨g, cap, cur, rfl, hb, r⟩
  · subst h0
    obtain rfl : l = [] := List.length_eq_zero_iff.1 hl
    exact ⟨own_none w, by simp [bl, Value.ownBlock]⟩
  · exact ⟨own_at ho hl hm, by simp [bl, Value.ownBlock]⟩
theorem app_ll {ops : Array Oper} {rest : List Oper} {o : Oper} {a : Act} {Q : Exit → Act → World → Prop} {W w : World} {base k n c : Nat} {v : Value} {L : List (List Int)} {l : List Int} {fp fq : List Nat} {A : Option Addr} {ad : Addr} (hgd : o.guard = none) (s x : Operand)
    (ho : o.op = .call { callee := .builtin .append, args := #[s, x], argTypes := #[75, 75] }) (hs : a.eval s = v) (h : LL w base 29 v k L fp) (hb : Below w.heap.size w W) (own : Mem.own W fq [.slice A n c] l) (nq : fq.Nodup) (lo : ∀ b ∈ fq, w.heap.size ≤ b)
    (hx : a.eval x = .slice (some ad) 1 1) (hc : W.cell? ad = some (.slice A n c)) (hk : k ≤ 1000000000) (hbase : base ≤ w.heap.size)
    (hK : ∀ v' w' fp', LL w' base 29 v' (k + 1) (L ++ [l]) fp' → Only fp W w' → (∀ b ∈ fp', b ∈ fp ∨ b ∈ fq ∨ b = W.heap.size) → wpList Tryd.prog ops Q rest (a.put o.dst v') w') : wpList Tryd.prog ops Q (o :: rest) a W := by
  obtain ⟨v', w', fp', hr, q1, q2, q3⟩ := LL.app (P := Tryd.prog) (t := 75) (ty := o.type) Tryd.underlying75 inS_row.1 inS_row.2.1 inS_row.2.2.1 inS_row.2.2.2 h hb own nq lo hc hk hbase
  refine wpList_plain hgd fun K hK' => ?_
  unfold Oper.wp execOp
  simp only [ho, resolve, invoke, builtin, Sem.run_bind, Sem.run_pure, Result.andThen_ok, List.map_toArray, List.map_cons, List.map_nil, hs, hx, hr]
  exact hK' _ _ (hK v' w' fp' q1 q2 q3)
theorem step_il {ops : Array Oper} {o : Oper} {a : Act} {K : Act → World → Prop} {Q : Exit → Act → World → Prop} {E : Prop} {W : World} {base k : Nat} {v : Value} {l : List Int} {z : Int} {fp : List Nat} {ad : Addr} (hgd : o.guard = none) (s x : Operand)
    (ho : o.op = .call { callee := .builtin .append, args := #[s, x], argTypes := #[29, 29] }) (hs : a.eval s = v) (h : IL W base 3 v k l fp)
    (hx : a.eval x = .slice (some ad) 1 1) (hc : W.cell? ad = some (.int .i64 z)) (hk : k ≤ 1000000000) (hbase : base ≤ W.heap.size)
    (hK : ∀ A' c' w' fp', IL w' base 3 (.slice A' (k + 1) c') (k + 1) (l ++ [z]) fp' → Only fp W w' → (∀ b ∈ fp', b ∈ fp ∨ b = W.heap.size) → K (a.put o.dst (.slice A' (k + 1) c')) w') :
    if Region.wanted o (yielded ops a.tmps) = true then Oper.wp Tryd.prog o a W K Q else E := by
  have hw : Region.wanted o (yielded ops a.tmps) = true := by simp [Region.wanted, hgd]
  rw [if_pos hw]
  obtain ⟨v', w', fp', hr, q1, q2, q3⟩ := IL.app (P := Tryd.prog) (t := 29) (ty := o.type) Tryd.underlying29 int_row.1 int_row.2.1 int_row.2.2.1 int_row.2.2.2 h hc hk hbase
  obtain ⟨A', c', rfl⟩ := row_slice q1.1
  unfold Oper.wp execOp
  simp only [ho, resolve, invoke, builtin, Sem.run_bind, Sem.run_pure, Result.andThen_ok, List.map_toArray, List.map_cons, List.map_nil, hs, hx, hr]
  exact hK _ _ w' fp' q1 q2 q3
theorem LL.lit (w : World) (e : TypeId) {base : Nat} (hB : base ≤ w.heap.size) : LL (w.alloc (.cells #[] e)) base e (.slice (some ⟨w.heap.size, 0, none⟩) 0 0) 0 [] [w.heap.size] :=
  ⟨rfl, by simp, fun _ => [], fun _ => [], World.ownsRow_lit (base := base) (e := e) (size := 1) w #[] 0 hB (by unfold maxLen; omega) rfl, fun i hi => absurd hi (by omega), by simp [cat, bl, Value.ownBlock], by intro b hb; simp at hb; subst hb; exact hB⟩
theorem IL.lit (w : World) (e : TypeId) {base : Nat} (hB : base ≤ w.heap.size) : IL (w.alloc (.cells #[] e)) base e (.slice (some ⟨w.heap.size, 0, none⟩) 0 0) 0 [] [w.heap.size] :=
  ⟨World.ownsRow_lit (base := base) (e := e) (size := 1) w #[] 0 hB (by unfold maxLen; omega) rfl, by simp [bl, Value.ownBlock]⟩
end Go.Proofs.YtfgjogmgcamfdaaDoor
