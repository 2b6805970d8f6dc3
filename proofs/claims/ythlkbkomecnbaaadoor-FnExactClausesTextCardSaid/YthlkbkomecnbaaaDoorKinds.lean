/- The kinds of the terms of an expression: impl.KindsOf, impl.TermsValid. -/
import Derived.Test.YthlkbkomecnbaaaDoorRows
import Derived.WalkKit
import Derived.WalkSpells
import Derived.WalkLawsBesides
import Derived.Handy
import Derived.Lib.Hide
import Derived.Deep.Draws
import Derived.Laws.OwnMore
import Derived.OwnWalk
import Derived.BigQuiet
import Derived.Deep.QuietTactic
import Derived.Deep.LoopGhost
namespace Go.Proofs.YthlkbkomecnbaaaDoor
open Go.RowKit

theorem bne_f {α : Type} [BEq α] {a b : α} (h : (a == b) = false) : (a != b) = true := by simp [bne, h]
theorem bne_t {α : Type} [BEq α] {a b : α} (h : (a == b) = true) : (a != b) = false := by simp [bne, h]
theorem add_block (a : Addr) (n : Nat) : (a.add n).block = a.block := by unfold Addr.add; split <;> rfl
theorem add_zero' (a : Addr) : a.add 0 = a := by simp [Addr.add]
theorem add_add' (a : Addr) (i j : Nat) : (a.add i).add j = a.add (i + j) := by
  unfold Addr.add
  by_cases hi : i = 0 <;> by_cases hj : j = 0 <;> simp [hi, hj, Nat.add_assoc]

theorem add_pos (a : Addr) {j : Nat} (hj : 0 < j) : a.add j = ⟨a.block, a.off + j, none⟩ := by unfold Addr.add; rw [if_neg (by omega)]

/-- The slice '.slice A n c' holds the cells xs ('size' cells an element), all of them below block B. -/
def Rd (w : World) (B size : Nat) (A : Option Addr) (n : Nat) (xs : List Value) : Prop :=
  xs.length = n * size ∧ (0 < n → ∃ ad, A = some ad ∧ ad.block < B ∧ ∀ j u, xs[j]? = some u → w.cell? (ad.add j) = some u)

section
variable {w w' : World} {B B' size n : Nat} {A : Option Addr} {xs : List Value}
theorem Rd.nil_ : Rd w B size A 0 [] := ⟨by simp, fun h => absurd h (by omega)⟩
theorem Rd.keep (h : Rd w B size A n xs) (hk : ∀ p : Addr, p.block < B → w'.cell? p = w.cell? p) : Rd w' B size A n xs :=
  ⟨h.1, fun hn => by
    obtain ⟨ad, e, hb, hc⟩ := h.2 hn
    exact ⟨ad, e, hb, fun j u hu => (hk _ (by rw [add_block]; exact hb)).trans (hc j u hu)⟩⟩
theorem Rd.more (h : Rd w B size A n xs) (hB : B ≤ B') : Rd w B' size A n xs :=
  ⟨h.1, fun hn => by
    obtain ⟨ad, e, hb, hc⟩ := h.2 hn
    exact ⟨ad, e, by omega, hc⟩⟩
theorem Rd.below (h : Rd w B size A n xs) (hb : Below B w w') : Rd w' B size A n xs := h.keep fun _ hp => hb.cell hp
theorem Rd.drew (h : Rd w B size A n xs) : Rd w.drew B size A n xs := h
theorem Rd.drewN (h : Rd w B size A n xs) (k : Nat) : Rd (w.drewN k) B size A n xs := h
theorem Rd.alloc (h : Rd w B size A n xs) (hB : B ≤ w.heap.size) (o : Obj) : Rd (w.alloc o) B size A n xs := h.keep fun p hp => World.cell?_alloc_lt w o p (by omega)
/-- Below the end of the heap, whatever block is made. -/
theorem Rd.one (h : Rd w B 1 A n xs) {k : Nat} (hk : k < n) : ∃ ad u, A = some ad ∧ ad.block < B ∧ xs[k]? = some u ∧ w.cell? (ad.add k) = some u := by
  obtain ⟨ad, e, hb, hc⟩ := h.2 (by omega)
  have hl : k < xs.length := by have := h.1; omega
  exact ⟨ad, xs[k], e, hb, List.getElem?_eq_getElem hl, hc k _ (List.getElem?_eq_getElem hl)⟩
theorem Rd.of_own {base : Nat} {e : TypeId} {c : Nat} (h : w.ownsRow base e size (.slice A n c) n xs) : Rd w w.heap.size size A n xs := by
  refine ⟨h.1, fun hn => ?_⟩
  rcases h.2 with ⟨_, e0⟩ | ⟨g, cap, cur, hv, _, hh, _⟩
  · omega
  have hA : A = some ⟨g, 0, none⟩ := by injection hv
  have hlt : g < w.heap.size := (Array.getElem?_eq_some_iff.1 hh).1
  subst hA
  exact ⟨_, rfl, hlt, h.cells (g := g) rfl⟩
theorem own_form {base : Nat} {e : TypeId} {v : Value} (h : w.ownsRow base e size v n xs) : ∃ A c, v = .slice A n c ∧ n ≤ c ∧ Rd w w.heap.size size A n xs := by
  rcases h.2 with ⟨rfl, rfl⟩ | ⟨g, cap, cur, rfl, _, _, hc, _⟩
  · exact ⟨none, 0, rfl, Nat.le_refl _, Rd.of_own h⟩
  · exact ⟨_, cap, rfl, hc, Rd.of_own h⟩
end

/-- What a call owns it still owns behind whatever changes nothing that was there. -/
theorem own_below {w w' : World} {base size n : Nat} {e : TypeId} {v : Value} {xs : List Value} (h : w.ownsRow base e size v n xs) (hb : Below w.heap.size w w') : w'.ownsRow base e size v n xs :=
  h.kept (row := none) ⟨hb.os, hb.tape, hb.output, hb.size, fun k hk _ => hb.block k hk⟩ (by cases v.ownBlock <;> simp)
theorem below_alloc (w : World) (o : Obj) : Below w.heap.size w (w.alloc o) := (Below.refl _ _).alloc (Nat.le_refl _) _
/-- A cell that was there reads the same behind a new block, whatever it is. -/
theorem cell_alloc {w : World} {a : Addr} {k : Nat} {v : Value} (hb : a.block < w.heap.size) (h : w.cell? (a.add k) = some v) (o : Obj) : (w.alloc o).cell? (a.add k) = some v :=
  (World.cell?_alloc_lt w o _ (by rw [add_block]; exact hb)).trans h
/-- A new block, then a call. -/
theorem below_call {w w' : World} {o : Obj} (h : Below (w.alloc o).heap.size (w.alloc o) w') : Below w.heap.size w w' := (below_alloc w o).trans (h.mono (by simp))

/-- The number at a place of a list, under a name that the walk leaves alone. -/
def ix (l : List Int) (k : Nat) : Int := l[k]?.getD 0
theorem ix_lt {l : List Int} {k : Nat} (h : k < l.length) : ix l k = l[k] := by simp [ix, List.getElem?_eq_getElem h]

/-- The cells of a list of int. -/
def ints (l : List Int) : List Value := l.map (Value.int .i64)
theorem ints_at {l : List Int} {k : Nat} {u : Value} (h : (ints l)[k]? = some u) : ∃ hk : k < l.length, u = .int .i64 l[k] := by
  unfold ints at h
  rw [List.getElem?_map] at h
  by_cases hk : k < l.length
  · rw [List.getElem?_eq_getElem hk] at h; exact ⟨hk, by simpa using h.symm⟩
  · rw [List.getElem?_eq_none (by omega)] at h; simp at h
theorem len_ints (l : List Int) : (ints l).length = l.length := by simp [ints]

/-- A slice of int at a place. -/
theorem Rd.int {w : World} {B n : Nat} {A : Option Addr} {l : List Int} (h : Rd w B 1 A n (ints l)) {k : Nat} (hk : k < n) :
    ∃ ad, A = some ad ∧ ad.block < B ∧ w.cell? (ad.add k) = some (.int .i64 (ix l k)) := by
  obtain ⟨ad, u, e, hb, hx, hc⟩ := h.one hk
  obtain ⟨hl, rfl⟩ := ints_at hx
  exact ⟨ad, e, hb, by rw [hc, ix_lt hl]⟩
theorem Rd.len {w : World} {B n : Nat} {A : Option Addr} {l : List Int} (h : Rd w B 1 A n (ints l)) : l.length = n := by have := h.1; rw [len_ints] at this; omega

/-- A term of an expression. -/
structure Tm where
  op : Int
  n : Int
  a : Int
  b : Int
def Tm.cs (t : Tm) : List Value := [.int .i64 t.op, .int .i64 t.n, .int .i64 t.a, .int .i64 t.b]
def Tm.v (t : Tm) : Value := .agg #[.int .i64 t.op, .int .i64 t.n, .int .i64 t.a, .int .i64 t.b]
def tms (l : List Tm) : List Value := l.flatMap Tm.cs
theorem len_tms (l : List Tm) : (tms l).length = l.length * 4 := by
  induction l with
  | nil => rfl
  | cons t l ih => simp [tms, List.flatMap_cons, Tm.cs] at ih ⊢; omega
theorem tms_at : ∀ (l : List Tm) (k : Nat) (hk : k < l.length) (j : Nat) (_ : j < 4), (tms l)[k * 4 + j]? = (l[k].cs)[j]?
  | [], k, hk, _, _ => absurd hk (by simp)
  | t :: l, 0, _, j, hj => by
    simp only [tms, List.flatMap_cons, Nat.zero_mul, Nat.zero_add, List.getElem_cons_zero]
    rw [List.getElem?_append_left (by simp [Tm.cs]; omega)]
  | t :: l, k + 1, hk, j, hj => by
    have := tms_at l k (by simpa using hk) j hj
    simp only [tms, List.flatMap_cons, List.getElem_cons_succ] at this ⊢
    rw [List.getElem?_append_right (by simp [Tm.cs]; omega), ← this]
    simp only [Tm.cs, List.length_cons, List.length_nil]
    congr 1; omega
def Tm.zero : Tm := ⟨0, 0, 0, 0⟩
theorem Rd.tlen {w : World} {B n : Nat} {A : Option Addr} {l : List Tm} (h : Rd w B 4 A n (tms l)) : l.length = n := by have := h.1; rw [len_tms] at this; omega
/-- The term at a place, under a name that the walk leaves alone. -/
def tx (l : List Tm) (k : Nat) : Tm := l[k]?.getD .zero
theorem tx_lt {l : List Tm} {k : Nat} (h : k < l.length) : tx l k = l[k] := by simp [tx, List.getElem?_eq_getElem h]
/-- A slice of terms at a place: its four cells. -/
theorem Rd.tm {w : World} {B n : Nat} {A : Option Addr} {l : List Tm} (h : Rd w B 4 A n (tms l)) {k : Nat} (hk : k < n) :
    ∃ ad, A = some ad ∧ ad.block < B ∧ w.cell? (ad.add (k * 4)) = some (.int .i64 (tx l k).op) ∧ w.cell? ⟨(ad.add (k * 4)).block, (ad.add (k * 4)).off + 1, none⟩ = some (.int .i64 (tx l k).n) ∧
      w.cell? ⟨(ad.add (k * 4)).block, (ad.add (k * 4)).off + 2, none⟩ = some (.int .i64 (tx l k).a) ∧ w.cell? ⟨(ad.add (k * 4)).block, (ad.add (k * 4)).off + 3, none⟩ = some (.int .i64 (tx l k).b) := by
  have hl := h.tlen
  obtain ⟨ad, e, hb, hc⟩ := h.2 (by omega)
  have hg : tx l k = l[k]'(by omega) := tx_lt (by omega)
  have H : ∀ j (hj : j < 4) u, (l[k]'(by omega)).cs[j]? = some u → w.cell? (ad.add (k * 4 + j)) = some u := fun j hj u hu => hc _ _ ((tms_at l k (by omega) j hj).trans hu)
  rw [hg]
  refine ⟨ad, e, hb, ?_⟩
  have E : ∀ j, 0 < j → (⟨(ad.add (k * 4)).block, (ad.add (k * 4)).off + j, none⟩ : Addr) = ad.add (k * 4 + j) := fun j hj => by rw [← add_add', add_pos _ hj]
  rw [E 1 (by omega), E 2 (by omega), E 3 (by omega)]
  exact ⟨H 0 (by omega) _ rfl, H 1 (by omega) _ rfl, H 2 (by omega) _ rfl, H 3 (by omega) _ rfl⟩
end Go.Proofs.YthlkbkomecnbaaaDoor
namespace Go.Proofs.YthlkbkomecnbaaaDoor
open Go.RowKit

def inB (n lo hi : Int) : Bool := decide (lo ≤ n) && decide (n ≤ hi)

set_option maxHeartbeats 400000 in
theorem l1In_any (n lo hi : Int) (w : World) :
    Calls Tryd.prog 20 #[.int .i64 n, .int .i64 lo, .int .i64 hi] w fun e w' => e = .returned (.bool (inB n lo hi)) ∧ w = w' := by
  go_enter Tryd.func20, Tryd.ntmps20
  go_wp2
  all_goals (go_ret; exact ⟨by congr 2; simp only [inB]; (first | (simp [*]; done) | (simp; omega)), rfl⟩)

/-- The kind if it is well, else none. -/
def kIf (b : Bool) (k : Int) : Int := if b then k else 0
def kindAt (ks : List Int) (p k : Int) : Bool := decide (0 ≤ p) && decide (p < ks.length) && (ix ks p.toNat == k)
theorem kindAt_in {ks : List Int} {p k : Int} (h0 : 0 ≤ p) (h1 : p < ks.length) : kindAt ks p k = (ix ks p.toNat == k) := by simp [kindAt, h0, h1]
theorem kindAt_out {ks : List Int} {p k : Int} (h : p < 0 ∨ (ks.length : Int) ≤ p) : kindAt ks p k = false := by
  unfold kindAt
  rcases h with h | h
  · rw [decide_eq_false (by omega)]; rfl
  · rw [decide_eq_false (show ¬ p < (ks.length : Int) by omega)]; simp

/-- The kinds of both terms of an operation. -/
def ofTwo (t : Tm) (ks : List Int) (k : Int) : Bool := (t.n == 0) && (kindAt ks t.a k && kindAt ks t.b k)

/-- The kind of a term behind terms of the kinds ks. -/
def kind (t : Tm) (ks : List Int) (vars : Int) : Int :=
  if t.op = 0 then kIf ((t.a == 0) && ((t.b == 0) && inB t.n (-9999) 9999)) 1
  else if t.op = 1 then kIf ((t.a == 0) && ((t.b == 0) && (decide (0 ≤ t.n) && decide (t.n < vars)))) 1
  else if t.op = 2 ∨ t.op = 3 ∨ t.op = 4 then kIf (ofTwo t ks 1) 1
  else if t.op = 5 ∨ t.op = 6 then kIf (ofTwo t ks 1) 2
  else if t.op = 7 then kIf ((t.a == t.b) && ofTwo t ks 2) 2
  else if t.op = 8 ∨ t.op = 9 then kIf (ofTwo t ks 2) 2
  else 0

/-- The value of a call is this number; nothing that was there has changed. -/
def GivesInt (w : World) (x : Int) (e : Ending) (w' : World) : Prop := e = .returned (.int .i64 x) ∧ Below w.heap.size w w'

/-- The call gives this Bool; nothing that was there has changed. -/
def GivesBool (w : World) (b : Bool) (e : Ending) (w' : World) : Prop := e = .returned (.bool b) ∧ Below w.heap.size w w'

section
variable (A : Option Addr) (n c : Nat) (ks : List Int) (vars tn a b : Int) (w : World)

variable (h : Rd w w.heap.size 1 A n (ints ks))
include h
end

end Go.Proofs.YthlkbkomecnbaaaDoor
namespace Go.Proofs.YthlkbkomecnbaaaDoor
open Go.RowKit

theorem int_info : (Tryd.prog.info? 3).map (fun i => (i.zero, i.size, i.bytes)) = some (some (.int .i64 0), 1, 8) := by kernel_rfl
/-- int's row of the table of types, under a name. -/
noncomputable def intRow : TypeInfo := Classical.choose (info_parts int_info)
theorem int_row : Tryd.prog.info? 3 = some intRow ∧ intRow.zero = some (.int .i64 0) ∧ intRow.size = 1 ∧ intRow.bytes = 8 := Classical.choose_spec (info_parts int_info)

/-- 'append(v, z)' onto a row of int of the call's own. -/
theorem app_int {ops : Array Oper} {rest : List Oper} {o : Oper} {a : Act} {Q : Exit → Act → World → Prop} {w : World} (hgd : o.guard = none) (s x : Operand)
    (ho : o.op = .call { callee := .builtin .append, args := #[s, x], argTypes := #[34, 34] }) (base : Nat) (v : Value) (k : Nat) (l : List Int) (z : Int)
    (hs : a.eval s = v) (hown : w.ownsRow base 3 1 v k (ints l)) (hx : a.eval x = .slice (some ⟨w.heap.size, 0, none⟩) 1 1) (hk : k < 1000000000000) (hb : base ≤ w.heap.size)
    (h : ∀ v' w', w'.ownsRow base 3 1 v' (k + 1) (ints (l ++ [z])) → Below base w w' → wpList Tryd.prog ops Q rest (a.put o.dst v') w') :
    wpList Tryd.prog ops Q (o :: rest) a (w.alloc (.cells #[.int .i64 z] 3)) := by
  refine wpList_append_own _ hgd s x 34 ho base 3 intRow (.int .i64 0) 1 8 Tryd.underlying34 int_row.1 int_row.2.1 int_row.2.2.1 int_row.2.2.2 rfl (by decide) v k _ hs (hown.alloc _) ⟨w.heap.size, 0, none⟩ 1 1 [.int .i64 z] hx rfl ?_ ?_ (by unfold maxLen; omega) (by omega) (by simp; omega) ?_
  · intro j u hu
    cases j with
    | zero => rw [add_zero', World.cell?_alloc_at _ _ _ _ rfl]; simpa using hu
    | succ j => simp at hu
  · intro u hu; simp at hu; subst hu; rfl
  · intro v' w' h1 h2 _
    refine h v' w' (by simpa [ints] using h1) ?_
    exact ((Below.refl base w).alloc hb _).grown h2 (by simp; omega) (fun g hg => (hown.lt g hg).1)

/-- The kinds of the first k terms, while all are well. -/
def kindsTo (l : List Tm) (vars : Int) : Nat → Option (List Int)
  | 0 => some []
  | k + 1 => match kindsTo l vars k with
    | none => none
    | some ks => if kind (tx l k) ks vars = 0 then none else some (ks ++ [kind (tx l k) ks vars])
theorem kindsTo_len {l : List Tm} {vars : Int} : ∀ {k : Nat} {ks : List Int}, kindsTo l vars k = some ks → ks.length = k
  | 0, ks, h => by simp [kindsTo] at h; subst h; rfl
  | k + 1, ks, h => by
    simp only [kindsTo] at h
    cases hk : kindsTo l vars k with
    | none => rw [hk] at h; cases h
    | some ks' =>
      rw [hk] at h
      dsimp only at h
      split at h
      · cases h
      · injection h with h; subst h; simp [kindsTo_len hk]
theorem kindsTo_none {l : List Tm} {vars : Int} {k : Nat} (h : kindsTo l vars k = none) : ∀ n, k ≤ n → kindsTo l vars n = none := by
  intro n hn
  induction n with
  | zero => obtain rfl : k = 0 := by omega
            exact h
  | succ n ih =>
    by_cases e : k = n + 1
    · subst e; exact h
    · simp only [kindsTo, ih (by omega)]
/-- Whether so many terms over so many variables may be an expression. -/
def sizesOk (n : Nat) (vars : Int) : Bool := decide (0 ≤ vars) && decide (vars ≤ 5) && decide (1 ≤ n) && decide (n ≤ 40)
/-- The kinds of the terms of an expression; nothing if it is none. -/
def kindsOf (l : List Tm) (vars : Int) : List Int := if sizesOk l.length vars then (kindsTo l vars l.length).getD [] else []

/-- The call gives a new slice of these numbers. -/
def GivesInts (w : World) (ks : List Int) (e : Ending) (w' : World) : Prop := ∃ v, e = .returned v ∧ w'.ownsRow w.heap.size 3 1 v ks.length (ints ks) ∧ Below w.heap.size w w'

end Go.Proofs.YthlkbkomecnbaaaDoor
