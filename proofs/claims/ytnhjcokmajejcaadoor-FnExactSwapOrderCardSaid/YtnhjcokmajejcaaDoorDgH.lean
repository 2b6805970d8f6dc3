/- Diagrams: what an operation makes of two places, in the model: words. -/
import Derived.Test.YtnhjcokmajejcaaDoorDgL
import Derived.Test.YtnhjcokmajejcaaDoorDgF
import Derived.Deep.CutRange
namespace Go.Proofs.YtnhjcokmajejcaaDoor
open Go.RowKit
set_option maxRecDepth 100000

theorem only_trans2 {fp fq : List Nat} {w w1 w2 : World} (h : Only fp w w1) (k : Only fq w1 w2) (hs : ∀ y ∈ fq, y ∈ fp ∨ w.heap.size ≤ y) : Only fp w w2 :=
  ⟨k.os.trans h.os, k.tape.trans h.tape, k.output.trans h.output, Nat.le_trans h.size k.size, fun b hb hn => by
    refine (k.block b (Nat.lt_of_lt_of_le hb h.size) fun q => ?_).trans (h.block b hb hn)
    rcases hs b q with q | q
    · exact hn q
    · omega⟩
theorem only_blk {fp : List Nat} {w w' : World} {b : Nat} {t : TypeId} {cs : List Value} (h : Only fp w w') (k : Blk w b t cs) (hn : b ∉ fp) : Blk w' b t cs := (h.block b k.lt hn).trans k
theorem below3 {w W : World} {o0 o1 o2 : Obj} (e : W.heap = (((w.alloc o0).alloc o1).alloc o2).heap) (e1 : W.os = w.os) (e2 : W.tape = w.tape) (e3 : W.output = w.output) : Below w.heap.size w W :=
  have B := ((below_alloc w o0).alloc (by simp) o1).alloc (by simp; omega) o2
  ⟨e1, e2, e3, by rw [e]; exact B.size, fun b hb => by rw [e]; exact B.block b hb⟩
/-- What l8Do and l8Fix give, in one form. -/
def OneD (base : Nat) (v : Value) (L : Nat) (r : Dg × Int) (m1 : Int) (A1 : Option Addr) (n1 c1 : Nat) (x : Int) (w' : World) : Prop :=
  (x = -1 ∧ r.2 < 0) ∨ (0 ≤ x ∧ x = r.2 ∧ m1 = r.1.vars ∧ n1 = r.1.forks.length ∧ w'.ownsRow base 108 3 (.slice A1 n1 c1) n1 (fl r.1.forks) ∧ ∀ y ∈ bl (.slice A1 n1 c1), y ∈ bl v ∨ L ≤ y)
theorem gives_de_one {base : Nat} {fp : List Nat} {v vv : Value} {k : Nat} {w w' : World} {r : Dg × Int} {e : Ending} (hv : fp = bl vv) (h : GivesDE base fp v k w r e w') :
    ∃ m1 A1 n1 c1 x, e = .returned (.tuple #[.agg #[.int .i64 m1, .slice A1 n1 c1], .int .i64 x]) ∧ Only fp w w' ∧ KeptD w w' v k ∧ OneD base vv w.heap.size r m1 A1 n1 c1 x w' := by
  obtain ⟨on, kd, ⟨hr, m, A, n, c, rfl⟩ | ⟨hr, A, c, rfl, ho, hy⟩⟩ := h
  · exact ⟨m, A, n, c, -1, rfl, on, kd, .inl ⟨rfl, hr⟩⟩
  · exact ⟨_, A, _, c, _, rfl, on, kd, .inr ⟨hr, rfl, rfl, rfl, ho, by rw [← hv]; exact hy⟩⟩
theorem two_far {W : World} {b h : Nat} {t : TypeId} {cs : List Value} {u0 u1 : Value} (hb : b ≠ h) (k : Blk W b t cs) : Blk ((W.setCell ⟨h, 0, none⟩ u0).setCell ⟨h, 1, none⟩ u1) b t cs :=
  (setCell_heap _ _ _ (show b ≠ h from hb)).trans ((setCell_heap _ _ _ (show b ≠ h from hb)).trans k)
/-- What stands when a half is made: its box at h, its place x. -/
structure HalfD (base : Nat) (v : Value) (len : Nat) (m : Int) (w : World) (r : Dg × Int) (wx : World) (h : Nat) (m1 : Int) (A1 : Option Addr) (n1 c1 : Nat) (x : Int) : Prop where
  far : w.heap.size + 1 < h
  box : Blk wx w.heap.size 35 [.int .i64 m, v]
  res : Blk wx (w.heap.size + 1) 35 [.int .i64 0, .slice none 0 0]
  only : Only (bl v) w wx
  kept : KeptD w wx v len
  one : Blk wx h 35 [.int .i64 m1, .slice A1 n1 c1]
  own : OneD base v (w.heap.size + 2) r m1 A1 n1 c1 x wx
  apart : 0 ≤ x → (Value.slice A1 n1 c1).ownBlock ≠ some h
theorem oneD_from {base : Nat} {v : Value} {L L1 : Nat} {W : World} {r : Dg × Int} {m1 : Int} {A1 : Option Addr} {n1 c1 : Nat} {x : Int} (o : OneD base v L1 r m1 A1 n1 c1 x W) (hs : L ≤ L1) : OneD base v L r m1 A1 n1 c1 x W := by
  rcases o with h | ⟨a, b, c, d, ho, hh⟩
  · exact .inl h
  · exact .inr ⟨a, b, c, d, ho, fun y hy => (hh y hy).elim .inl fun q => .inr (by omega)⟩
theorem oneD_via {base : Nat} {v v1 : Value} {L L1 : Nat} {W : World} {r : Dg × Int} {m1 : Int} {A1 : Option Addr} {n1 c1 : Nat} {x : Int} (o : OneD base v1 L1 r m1 A1 n1 c1 x W) (hs : L ≤ L1) (hv : ∀ y ∈ bl v1, y ∈ bl v ∨ L ≤ y) : OneD base v L r m1 A1 n1 c1 x W := by
  rcases o with h | ⟨a, b, c, d, ho, hh⟩
  · exact .inl h
  · exact .inr ⟨a, b, c, d, ho, fun y hy => (hh y hy).elim (hv y) fun q => .inr (by omega)⟩
theorem oneD_far {base : Nat} {v : Value} {L h : Nat} {W : World} {r : Dg × Int} {m1 : Int} {A1 : Option Addr} {n1 c1 : Nat} {x : Int} (o : OneD base v L r m1 A1 n1 c1 x W) (hh : h < L) (hv : h ∉ bl v) : 0 ≤ x → (Value.slice A1 n1 c1).ownBlock ≠ some h := fun x0 e => by
  rcases o with q | ⟨a, b, c, d, ho, q⟩
  · omega
  · rcases q h (mem_bl.2 e) with q | q
    · exact hv q
    · omega
theorem oneD_set {base : Nat} {v : Value} {L : Nat} {W : World} {r : Dg × Int} {m1 : Int} {A1 : Option Addr} {n1 c1 : Nat} {x : Int} (o : OneD base v L r m1 A1 n1 c1 x W) {p : Addr} (u : Value) (hy : (Value.slice A1 n1 c1).ownBlock ≠ some p.block) : OneD base v L r m1 A1 n1 c1 x (W.setCell p u) := by
  rcases o with h | ⟨a, b, c, d, ho, hh⟩
  · exact .inl h
  · exact .inr ⟨a, b, c, d, own_away ho u hy, hh⟩
theorem oneD_below {base : Nat} {v : Value} {L : Nat} {W W' : World} {r : Dg × Int} {m1 : Int} {A1 : Option Addr} {n1 c1 : Nat} {x : Int} (o : OneD base v L r m1 A1 n1 c1 x W) (B : Below W.heap.size W W') : OneD base v L r m1 A1 n1 c1 x W' := by
  rcases o with h | ⟨a, b, c, d, ho, hh⟩
  · exact .inl h
  · exact .inr ⟨a, b, c, d, own_below ho B, hh⟩
theorem oneD_late {base : Nat} {v : Value} {L : Nat} {W : World} {r : Dg × Int} {m1 : Int} {A1 : Option Addr} {n1 c1 : Nat} {x : Int} (o : OneD base v L r m1 A1 n1 c1 x W) (x0 : 0 ≤ x) : (Value.slice A1 n1 c1).ownBlock ≠ some W.heap.size := fun e => by
  rcases o with q | ⟨a, b, c, d, ho, q⟩
  · omega
  · have := (ho.lt _ e).2; omega
/-- The half's box was there: two stores. -/
theorem half_set {base : Nat} {v : Value} {len : Nat} {m : Int} {w W : World} {r : Dg × Int} {h : Nat} {m1 : Int} {A1 : Option Addr} {n1 c1 : Nat} {x : Int} {y0 y1 : Value} (far : w.heap.size + 1 < h) (box : Blk W w.heap.size 35 [.int .i64 m, v])
    (res : Blk W (w.heap.size + 1) 35 [.int .i64 0, .slice none 0 0]) (only : Only (bl v) w W) (kept : KeptD w W v len) (one : Blk W h 35 [y0, y1]) (own : OneD base v (w.heap.size + 2) r m1 A1 n1 c1 x W) (hy : 0 ≤ x → (Value.slice A1 n1 c1).ownBlock ≠ some h) :
    HalfD base v len m w r ((W.setCell ⟨h, 0, none⟩ (.int .i64 m1)).setCell ⟨h, 1, none⟩ (.slice A1 n1 c1)) h m1 A1 n1 c1 x := by
  refine ⟨far, ?_, ?_, only_setD (only_setD only _ (by show w.heap.size ≤ h; omega)) _ (by show w.heap.size ≤ h; omega), (kept.set _ (by show w.heap.size ≤ h; omega)).set _ (by show w.heap.size ≤ h; omega), (one.set 0 _).set 1 _, ?_, hy⟩
  · exact (setCell_heap _ _ _ (by show w.heap.size ≠ h; omega)).trans ((setCell_heap _ _ _ (by show w.heap.size ≠ h; omega)).trans box)
  · exact (setCell_heap _ _ _ (by show w.heap.size + 1 ≠ h; omega)).trans ((setCell_heap _ _ _ (by show w.heap.size + 1 ≠ h; omega)).trans res)
  · rcases own with q | q
    · exact .inl q
    · have := hy q.1
      exact oneD_set (oneD_set (.inr q) _ this) _ this
/-- The half's box is new. -/
theorem half_new {base : Nat} {v : Value} {len : Nat} {m : Int} {w W : World} {r : Dg × Int} {m1 : Int} {A1 : Option Addr} {n1 c1 : Nat} {x : Int} (far : w.heap.size + 1 < W.heap.size) (box : Blk W w.heap.size 35 [.int .i64 m, v])
    (res : Blk W (w.heap.size + 1) 35 [.int .i64 0, .slice none 0 0]) (only : Only (bl v) w W) (kept : KeptD w W v len) (own : OneD base v (w.heap.size + 2) r m1 A1 n1 c1 x W) :
    HalfD base v len m w r (W.alloc (.cells #[.int .i64 m1, .slice A1 n1 c1] 35)) W.heap.size m1 A1 n1 c1 x :=
  ⟨far, box.alloc _, res.alloc _, only.trans (Only.of_below (below_alloc W _) _), kept.below (below_alloc W _) only.size, ci_blk W _ _, oneD_below own (below_alloc W _), fun x0 => oneD_late own x0⟩
theorem half_heap {base : Nat} {v : Value} {len : Nat} {m : Int} {w W W' : World} {r : Dg × Int} {h : Nat} {m1 : Int} {A1 : Option Addr} {n1 c1 : Nat} {x : Int} (H : HalfD base v len m w r W h m1 A1 n1 c1 x) (e : W'.heap = W.heap) (e1 : W'.os = W.os) (e2 : W'.tape = W.tape) (e3 : W'.output = W.output) : HalfD base v len m w r W' h m1 A1 n1 c1 x :=
  have B : Below W.heap.size W W' := ⟨e1, e2, e3, by rw [e]; exact Nat.le_refl _, fun b _ => by rw [e]⟩
  ⟨H.far, H.box.below B H.box.lt, H.res.below B H.res.lt, H.only.trans (Only.of_below B _), H.kept.below B H.only.size, H.one.below B H.one.lt, oneD_below H.own B, H.apart⟩
theorem de_of_one {base : Nat} {v : Value} {len : Nat} {w w' : World} {r : Dg × Int} {m1 : Int} {A1 : Option Addr} {n1 c1 : Nat} {x : Int} (o : Only (bl v) w w') (k : KeptD w w' v len) (h : OneD base v w.heap.size r m1 A1 n1 c1 x w') :
    GivesDE base (bl v) v len w r (.returned (.tuple #[.agg #[.int .i64 m1, .slice A1 n1 c1], .int .i64 x])) w' := by
  rcases h with ⟨rfl, hr⟩ | ⟨hx, rfl, rfl, rfl, ho, hy⟩
  · exact ⟨o, k, .inl ⟨hr, _, _, _, _, rfl⟩⟩
  · exact ⟨o, k, .inr ⟨hx, _, _, rfl, ho, hy⟩⟩
/-- How an operation goes on. -/
theorem two_facts {d : Dg} {op a b v a0 b0 a1 b1 : Int} (o : op < 3) (e : stp d op a b = .two v a0 b0 a1 b1) : (2 ≤ a ∨ 2 ≤ b) ∧ ¬ (op = 1 ∧ (a = 0 ∨ b = 0)) ∧ ¬ (op = 2 ∧ (a = 1 ∨ b = 1)) ∧ v = minV d a b ∧ a0 = atP d a v 0 ∧ b0 = atP d b v 0 ∧ a1 = atP d a v 1 ∧ b1 = atP d b v 1 := by
  unfold stp at e
  rw [if_pos o] at e
  by_cases c1 : op = 1 ∧ (a = 0 ∨ b = 0)
  · rw [if_pos c1] at e; cases e
  · rw [if_neg c1] at e
    by_cases c2 : op = 2 ∧ (a = 1 ∨ b = 1)
    · rw [if_pos c2] at e; cases e
    · rw [if_neg c2] at e
      by_cases c3 : 2 ≤ a ∨ 2 ≤ b
      · rw [if_pos c3] at e
        injection e with q1 q2 q3 q4 q5
        subst q1
        exact ⟨c3, c1, c2, rfl, q2.symm, q3.symm, q4.symm, q5.symm⟩
      · rw [if_neg c3] at e
        by_cases c4 : op = 0
        · rw [if_pos c4] at e; cases e
        · rw [if_neg c4] at e; cases e
end Go.Proofs.YtnhjcokmajejcaaDoor
