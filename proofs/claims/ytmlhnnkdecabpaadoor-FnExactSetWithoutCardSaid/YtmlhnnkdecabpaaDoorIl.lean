/- Rows of numbers that a call owns, beside others: append. -/
import Derived.Test.YtmlhnnkdecabpaaDoorLL
import Derived.Test.YtmlhnnkdecabpaaDoorOwnW
import Derived.Test.YtmlhnnkdecabpaaDoorLaw2
import Derived.Deep.AppendLies
namespace Go.Proofs.YtmlhnnkdecabpaaDoor
open Go.RowKit

theorem row_slice {w : World} {base size k : Nat} {e : TypeId} {v : Value} {xs : List Value} (h : w.ownsRow base e size v k xs) : ∃ A c, v = .slice A k c := by
  obtain ⟨A, c, rfl, _⟩ := own_form h
  exact ⟨A, c, rfl⟩
theorem Blk.only {w w' : World} {g : Nat} {t : TypeId} {cs : List Value} {fq : List Nat} (h : Blk w g t cs) (ho : Only fq w w') (hg : g ∉ fq) : Blk w' g t cs := (ho.block g h.lt hg).trans h
theorem app_il {ops : Array Oper} {rest : List Oper} {o : Oper} {a : Act} {Q : Exit → Act → World → Prop} {W : World} {base k : Nat} {v : Value} {l : List Int} {z : Int} {fp : List Nat} {ad : Addr} (hgd : o.guard = none) (s x : Operand)
    (ho : o.op = .call { callee := .builtin .append, args := #[s, x], argTypes := #[29, 29] }) (hs : a.eval s = v) (h : IL W base 3 v k l fp)
    (hx : a.eval x = .slice (some ad) 1 1) (hc : W.cell? ad = some (.int .i64 z)) (hk : k ≤ 1000000000) (hbase : base ≤ W.heap.size)
    (hK : ∀ v' w' fp', IL w' base 3 v' (k + 1) (l ++ [z]) fp' → Only fp W w' → (∀ b ∈ fp', b ∈ fp ∨ b = W.heap.size) → wpList Tryd.prog ops Q rest (a.put o.dst v') w') : wpList Tryd.prog ops Q (o :: rest) a W := by
  obtain ⟨v', w', fp', hr, q1, q2, q3⟩ := IL.app (P := Tryd.prog) (t := 29) (ty := o.type) Tryd.underlying29 int_row.1 int_row.2.1 int_row.2.2.1 int_row.2.2.2 h hc hk hbase
  refine wpList_plain hgd fun K hK' => ?_
  unfold Oper.wp execOp
  simp only [ho, resolve, invoke, builtin, Sem.run_bind, Sem.run_pure, Result.andThen_ok, List.map_toArray, List.map_cons, List.map_nil, hs, hx, hr]
  exact hK' _ _ (hK v' w' fp' q1 q2 q3)
theorem IL.out {w : World} {base k : Nat} {e : TypeId} {v : Value} {l : List Int} {fp : List Nat} (h : IL w base e v k l fp) (hm : k ≤ maxLen) : Mem.own w fp [v] l ∧ fp.Nodup := by
  obtain ⟨ho, rfl⟩ := h
  have hl : l.length = k := by have := ho.1; rw [len_ints] at this; omega
  rcases ho.2 with ⟨rfl, h0⟩ | ⟨g, cap, cur, rfl, hb, r⟩
  · subst h0
    obtain rfl : l = [] := List.length_eq_zero_iff.1 hl
    exact ⟨own_none w, by simp [bl, Value.ownBlock]⟩
  · exact ⟨own_at ho hl hm, by simp [bl, Value.ownBlock]⟩
end Go.Proofs.YtmlhnnkdecabpaaDoor
