/- The kinds of the terms of an expression: impl.KindsOf, impl.TermsValid. -/
import Derived.Test.YthlkbkomecnbaaaRows
import Derived.WalkKit
import Derived.WalkSpells
import Derived.WalkLawsBesides
import Derived.Handy
import Derived.Lib.Hide
import Derived.Deep.Draws
import Derived.Laws.OwnMore
import Derived.OwnWalk
import Derived.BigQuiet
import Derived.Deep.QuietTactic
import Derived.Deep.LoopGhost
namespace Go.Proofs.Ythlkbkomecnbaaa
open Go.RowKit

theorem bne_f {α : Type} [BEq α] {a b : α} (h : (a == b) = false) : (a != b) = true := by simp [bne, h]
theorem bne_t {α : Type} [BEq α] {a b : α} (h : (a == b) = true) : (a != b) = false := by simp [bne, h]
theorem add_block (a : Addr) (n : Nat) : (a.add n).block = a.block := by unfold Addr.add; split <;> rfl
theorem add_zero' (a : Addr) : a.add 0 = a := by simp [Addr.add]
theorem add_add' (a : Addr) (i j : Nat) : (a.add i).add j = a.add (i + j) := by
  unfold Addr.add
  by_cases hi : i = 0 <;> by_cases hj : j = 0 <;> simp [hi, hj, Nat.add_assoc]

theorem add_pos (a : Addr) {j : Nat} (hj : 0 < j) : a.add j = ⟨a.block, a.off + j, none⟩ := by unfold Addr.add; rw [if_neg (by omega)]

/-- The slice '.slice A n c' holds the cells xs ('size' cells an element), all of them below block B. -/
def Rd (w : World) (B size : Nat) (A : Option Addr) (n : Nat) (xs : List Value) : Prop :=
  xs.length = n * size ∧ (0 < n → ∃ ad, A = some ad ∧ ad.block < B ∧ ∀ j u, xs[j]? = some u → w.cell? (ad.add j) = some u)

section
variable {w w' : World} {B B' size n : Nat} {A : Option Addr} {xs : List Value}
theorem Rd.nil_ : Rd w B size A 0 [] := ⟨by simp, fun h => absurd h (by omega)⟩
theorem Rd.keep (h : Rd w B size A n xs) (hk : ∀ p : Addr, p.block < B → w'.cell? p = w.cell? p) : Rd w' B size A n xs :=
  ⟨h.1, fun hn => by
    obtain ⟨ad, e, hb, hc⟩ := h.2 hn
    exact ⟨ad, e, hb, fun j u hu => (hk _ (by rw [add_block]; exact hb)).trans (hc j u hu)⟩⟩
theorem Rd.more (h : Rd w B size A n xs) (hB : B ≤ B') : Rd w B' size A n xs :=
  ⟨h.1, fun hn => by
    obtain ⟨ad, e, hb, hc⟩ := h.2 hn
    exact ⟨ad, e, by omega, hc⟩⟩
theorem Rd.below (h : Rd w B size A n xs) (hb : Below B w w') : Rd w' B size A n xs := h.keep fun _ hp => hb.cell hp
theorem Rd.drew (h : Rd w B size A n xs) : Rd w.drew B size A n xs := h
theorem Rd.drewN (h : Rd w B size A n xs) (k : Nat) : Rd (w.drewN k) B size A n xs := h
theorem Rd.alloc (h : Rd w B size A n xs) (hB : B ≤ w.heap.size) (o : Obj) : Rd (w.alloc o) B size A n xs := h.keep fun p hp => World.cell?_alloc_lt w o p (by omega)
/-- Below the end of the heap, whatever block is made. -/
theorem Rd.one (h : Rd w B 1 A n xs) {k : Nat} (hk : k < n) : ∃ ad u, A = some ad ∧ ad.block < B ∧ xs[k]? = some u ∧ w.cell? (ad.add k) = some u := by
  obtain ⟨ad, e, hb, hc⟩ := h.2 (by omega)
  have hl : k < xs.length := by have := h.1; omega
  exact ⟨ad, xs[k], e, hb, List.getElem?_eq_getElem hl, hc k _ (List.getElem?_eq_getElem hl)⟩
theorem Rd.of_own {base : Nat} {e : TypeId} {c : Nat} (h : w.ownsRow base e size (.slice A n c) n xs) : Rd w w.heap.size size A n xs := by
  refine ⟨h.1, fun hn => ?_⟩
  rcases h.2 with ⟨_, e0⟩ | ⟨g, cap, cur, hv, _, hh, _⟩
  · omega
  have hA : A = some ⟨g, 0, none⟩ := by injection hv
  have hlt : g < w.heap.size := (Array.getElem?_eq_some_iff.1 hh).1
  subst hA
  exact ⟨_, rfl, hlt, h.cells (g := g) rfl⟩
theorem own_form {base : Nat} {e : TypeId} {v : Value} (h : w.ownsRow base e size v n xs) : ∃ A c, v = .slice A n c ∧ n ≤ c ∧ Rd w w.heap.size size A n xs := by
  rcases h.2 with ⟨rfl, rfl⟩ | ⟨g, cap, cur, rfl, _, _, hc, _⟩
  · exact ⟨none, 0, rfl, Nat.le_refl _, Rd.of_own h⟩
  · exact ⟨_, cap, rfl, hc, Rd.of_own h⟩
end

/-- What a call owns it still owns behind whatever changes nothing that was there. -/
theorem own_below {w w' : World} {base size n : Nat} {e : TypeId} {v : Value} {xs : List Value} (h : w.ownsRow base e size v n xs) (hb : Below w.heap.size w w') : w'.ownsRow base e size v n xs :=
  h.kept (row := none) ⟨hb.os, hb.tape, hb.output, hb.size, fun k hk _ => hb.block k hk⟩ (by cases v.ownBlock <;> simp)
theorem below_alloc (w : World) (o : Obj) : Below w.heap.size w (w.alloc o) := (Below.refl _ _).alloc (Nat.le_refl _) _
/-- A cell that was there reads the same behind a new block, whatever it is. -/
theorem cell_alloc {w : World} {a : Addr} {k : Nat} {v : Value} (hb : a.block < w.heap.size) (h : w.cell? (a.add k) = some v) (o : Obj) : (w.alloc o).cell? (a.add k) = some v :=
  (World.cell?_alloc_lt w o _ (by rw [add_block]; exact hb)).trans h
/-- A new block, then a call. -/
theorem below_call {w w' : World} {o : Obj} (h : Below (w.alloc o).heap.size (w.alloc o) w') : Below w.heap.size w w' := (below_alloc w o).trans (h.mono (by simp))

/-- The number at a place of a list, under a name that the walk leaves alone. -/
def ix (l : List Int) (k : Nat) : Int := l[k]?.getD 0
theorem ix_lt {l : List Int} {k : Nat} (h : k < l.length) : ix l k = l[k] := by simp [ix, List.getElem?_eq_getElem h]

/-- The cells of a list of int. -/
def ints (l : List Int) : List Value := l.map (Value.int .i64)
theorem ints_at {l : List Int} {k : Nat} {u : Value} (h : (ints l)[k]? = some u) : ∃ hk : k < l.length, u = .int .i64 l[k] := by
  unfold ints at h
  rw [List.getElem?_map] at h
  by_cases hk : k < l.length
  · rw [List.getElem?_eq_getElem hk] at h; exact ⟨hk, by simpa using h.symm⟩
  · rw [List.getElem?_eq_none (by omega)] at h; simp at h
theorem len_ints (l : List Int) : (ints l).length = l.length := by simp [ints]

/-- A slice of int at a place. -/
theorem Rd.int {w : World} {B n : Nat} {A : Option Addr} {l : List Int} (h : Rd w B 1 A n (ints l)) {k : Nat} (hk : k < n) :
    ∃ ad, A = some ad ∧ ad.block < B ∧ w.cell? (ad.add k) = some (.int .i64 (ix l k)) := by
  obtain ⟨ad, u, e, hb, hx, hc⟩ := h.one hk
  obtain ⟨hl, rfl⟩ := ints_at hx
  exact ⟨ad, e, hb, by rw [hc, ix_lt hl]⟩
theorem Rd.len {w : World} {B n : Nat} {A : Option Addr} {l : List Int} (h : Rd w B 1 A n (ints l)) : l.length = n := by have := h.1; rw [len_ints] at this; omega

/-- A term of an expression. -/
structure Tm where
  op : Int
  n : Int
  a : Int
  b : Int
def Tm.cs (t : Tm) : List Value := [.int .i64 t.op, .int .i64 t.n, .int .i64 t.a, .int .i64 t.b]
def Tm.v (t : Tm) : Value := .agg #[.int .i64 t.op, .int .i64 t.n, .int .i64 t.a, .int .i64 t.b]
def tms (l : List Tm) : List Value := l.flatMap Tm.cs
theorem len_tms (l : List Tm) : (tms l).length = l.length * 4 := by
  induction l with
  | nil => rfl
  | cons t l ih => simp [tms, List.flatMap_cons, Tm.cs] at ih ⊢; omega
theorem tms_at : ∀ (l : List Tm) (k : Nat) (hk : k < l.length) (j : Nat) (_ : j < 4), (tms l)[k * 4 + j]? = (l[k].cs)[j]?
  | [], k, hk, _, _ => absurd hk (by simp)
  | t :: l, 0, _, j, hj => by
    simp only [tms, List.flatMap_cons, Nat.zero_mul, Nat.zero_add, List.getElem_cons_zero]
    rw [List.getElem?_append_left (by simp [Tm.cs]; omega)]
  | t :: l, k + 1, hk, j, hj => by
    have := tms_at l k (by simpa using hk) j hj
    simp only [tms, List.flatMap_cons, List.getElem_cons_succ] at this ⊢
    rw [List.getElem?_append_right (by simp [Tm.cs]; omega), ← this]
    simp only [Tm.cs, List.length_cons, List.length_nil]
    congr 1; omega
def Tm.zero : Tm := ⟨0, 0, 0, 0⟩
theorem Rd.tlen {w : World} {B n : Nat} {A : Option Addr} {l : List Tm} (h : Rd w B 4 A n (tms l)) : l.length = n := by have := h.1; rw [len_tms] at this; omega
/-- The term at a place, under a name that the walk leaves alone. -/
def tx (l : List Tm) (k : Nat) : Tm := l[k]?.getD .zero
theorem tx_lt {l : List Tm} {k : Nat} (h : k < l.length) : tx l k = l[k] := by simp [tx, List.getElem?_eq_getElem h]
/-- A slice of terms at a place: its four cells. -/
theorem Rd.tm {w : World} {B n : Nat} {A : Option Addr} {l : List Tm} (h : Rd w B 4 A n (tms l)) {k : Nat} (hk : k < n) :
    ∃ ad, A = some ad ∧ ad.block < B ∧ w.cell? (ad.add (k * 4)) = some (.int .i64 (tx l k).op) ∧ w.cell? ⟨(ad.add (k * 4)).block, (ad.add (k * 4)).off + 1, none⟩ = some (.int .i64 (tx l k).n) ∧
      w.cell? ⟨(ad.add (k * 4)).block, (ad.add (k * 4)).off + 2, none⟩ = some (.int .i64 (tx l k).a) ∧ w.cell? ⟨(ad.add (k * 4)).block, (ad.add (k * 4)).off + 3, none⟩ = some (.int .i64 (tx l k).b) := by
  have hl := h.tlen
  obtain ⟨ad, e, hb, hc⟩ := h.2 (by omega)
  have hg : tx l k = l[k]'(by omega) := tx_lt (by omega)
  have H : ∀ j (hj : j < 4) u, (l[k]'(by omega)).cs[j]? = some u → w.cell? (ad.add (k * 4 + j)) = some u := fun j hj u hu => hc _ _ ((tms_at l k (by omega) j hj).trans hu)
  rw [hg]
  refine ⟨ad, e, hb, ?_⟩
  have E : ∀ j, 0 < j → (⟨(ad.add (k * 4)).block, (ad.add (k * 4)).off + j, none⟩ : Addr) = ad.add (k * 4 + j) := fun j hj => by rw [← add_add', add_pos _ hj]
  rw [E 1 (by omega), E 2 (by omega), E 3 (by omega)]
  exact ⟨H 0 (by omega) _ rfl, H 1 (by omega) _ rfl, H 2 (by omega) _ rfl, H 3 (by omega) _ rfl⟩
end Go.Proofs.Ythlkbkomecnbaaa
namespace Go.Proofs.Ythlkbkomecnbaaa
open Go.RowKit

def inB (n lo hi : Int) : Bool := decide (lo ≤ n) && decide (n ≤ hi)

set_option maxHeartbeats 400000 in
theorem isNumber_any (n : Int) (w : World) :
    Calls Try.prog 148 #[.int .i64 n] w fun e w' => e = .returned (.bool (inB n (-9999) 9999)) ∧ w = w' := by
  go_enter Try.func148, Try.ntmps148
  go_wp2
  all_goals (go_ret; exact ⟨by congr 2; simp only [inB]; (first | (simp [*]; done) | (simp; omega)), rfl⟩)

set_option maxHeartbeats 400000 in
theorem l1In_any (n lo hi : Int) (w : World) :
    Calls Try.prog 48 #[.int .i64 n, .int .i64 lo, .int .i64 hi] w fun e w' => e = .returned (.bool (inB n lo hi)) ∧ w = w' := by
  go_enter Try.func48, Try.ntmps48
  go_wp2
  all_goals (go_ret; exact ⟨by congr 2; simp only [inB]; (first | (simp [*]; done) | (simp; omega)), rfl⟩)

/-- The kind if it is well, else none. -/
def kIf (b : Bool) (k : Int) : Int := if b then k else 0
theorem kindIf_any (b : Bool) (k : Int) (w : World) :
    Calls Try.prog 174 #[.bool b, .int .i64 k] w fun e w' => e = .returned (.int .i64 (kIf b k)) ∧ w = w' := by
  cases b <;> (go_enter Try.func174, Try.ntmps174; go_wp2; go_ret; exact ⟨rfl, rfl⟩)

def kindAt (ks : List Int) (p k : Int) : Bool := decide (0 ≤ p) && decide (p < ks.length) && (ix ks p.toNat == k)
theorem kindAt_in {ks : List Int} {p k : Int} (h0 : 0 ≤ p) (h1 : p < ks.length) : kindAt ks p k = (ix ks p.toNat == k) := by simp [kindAt, h0, h1]
theorem kindAt_out {ks : List Int} {p k : Int} (h : p < 0 ∨ (ks.length : Int) ≤ p) : kindAt ks p k = false := by
  unfold kindAt
  rcases h with h | h
  · rw [decide_eq_false (by omega)]; rfl
  · rw [decide_eq_false (show ¬ p < (ks.length : Int) by omega)]; simp

theorem isKindAt_any (A : Option Addr) (n c : Nat) (ks : List Int) (p k : Int) (w : World) (h : Rd w w.heap.size 1 A n (ints ks)) :
    Calls Try.prog 191 #[.slice A n c, .int .i64 p, .int .i64 k] w fun e w' => e = .returned (.bool (kindAt ks p k)) ∧ w = w' := by
  have hl := h.len
  by_cases h0 : 0 ≤ p
  · obtain ⟨q, rfl⟩ := Int.eq_ofNat_of_zero_le h0
    by_cases h1 : q < n
    · obtain ⟨ad, rfl, hb, hc⟩ := h.int h1
      have e := kindAt_in (ks := ks) (p := (q : Int)) (k := k) h0 (by omega)
      rw [e]; clear e
      rw [Int.toNat_natCast]
      clear h hl
      go_enter Try.func191, Try.ntmps191
      go_wp2
      go_ret
      exact ⟨rfl, rfl⟩
    · rw [kindAt_out (.inr (by omega))]
      clear hl h
      go_enter Try.func191, Try.ntmps191
      go_wp2
      go_ret
      exact ⟨rfl, rfl⟩
  · rw [kindAt_out (.inl (by omega))]
    clear hl h
    go_enter Try.func191, Try.ntmps191
    go_wp2
    go_ret
    exact ⟨rfl, rfl⟩

/-- The kinds of both terms of an operation. -/
def ofTwo (t : Tm) (ks : List Int) (k : Int) : Bool := (t.n == 0) && (kindAt ks t.a k && kindAt ks t.b k)

set_option maxHeartbeats 400000 in
theorem isOfTwo_any (t : Tm) (A : Option Addr) (n c : Nat) (ks : List Int) (k : Int) (w : World) (h : Rd w w.heap.size 1 A n (ints ks)) :
    Calls Try.prog 175 #[t.v, .slice A n c, .int .i64 k] w fun e w' => e = .returned (.bool (ofTwo t ks k)) ∧ Below w.heap.size w w' := by
  obtain ⟨op, tn, a, b⟩ := t
  unfold Tm.v ofTwo
  dsimp only
  have HR : ∀ o, Rd (w.alloc o) (w.alloc o).heap.size 1 A n (ints ks) := fun o => (h.alloc (Nat.le_refl _) o).more (by simp)
  have HR := Lib.hid HR
  clear h
  by_cases h0 : tn = 0
  · subst h0
    cases h1 : kindAt ks a k
    all_goals cases h2 : kindAt ks b k
    all_goals have H1 := Lib.hid h1; clear h1
    all_goals have H2 := Lib.hid h2; clear h2
    all_goals go_enter Try.func175, Try.ntmps175
    all_goals go_wp2_with fail
    all_goals
      refine (isKindAt_any A n c ks a k _ (HR.out _)).mono ?_
      rintro e w' ⟨rfl, rfl⟩
      rw [H1.out]
      go_wp2_with fail
    · go_ret
      exact ⟨rfl, (Below.refl _ _).alloc (Nat.le_refl _) _⟩
    · go_ret
      exact ⟨rfl, (Below.refl _ _).alloc (Nat.le_refl _) _⟩
    all_goals
      refine (isKindAt_any A n c ks b k _ (HR.out _)).mono ?_
      rintro e w' ⟨rfl, rfl⟩
      rw [H2.out]
      go_wp2_with fail
      go_ret
      exact ⟨rfl, (Below.refl _ _).alloc (Nat.le_refl _) _⟩
  · have hb : (tn == 0) = false := beq_eq_false_iff_ne.2 h0
    rw [hb]
    go_enter Try.func175, Try.ntmps175
    go_wp2
    go_ret
    exact ⟨rfl, (Below.refl _ _).alloc (Nat.le_refl _) _⟩

/-- The kind of a term behind terms of the kinds ks. -/
def kind (t : Tm) (ks : List Int) (vars : Int) : Int :=
  if t.op = 0 then kIf ((t.a == 0) && ((t.b == 0) && inB t.n (-9999) 9999)) 1
  else if t.op = 1 then kIf ((t.a == 0) && ((t.b == 0) && (decide (0 ≤ t.n) && decide (t.n < vars)))) 1
  else if t.op = 2 ∨ t.op = 3 ∨ t.op = 4 then kIf (ofTwo t ks 1) 1
  else if t.op = 5 ∨ t.op = 6 then kIf (ofTwo t ks 1) 2
  else if t.op = 7 then kIf ((t.a == t.b) && ofTwo t ks 2) 2
  else if t.op = 8 ∨ t.op = 9 then kIf (ofTwo t ks 2) 2
  else 0

/-- The value of a call is this number; nothing that was there has changed. -/
def GivesInt (w : World) (x : Int) (e : Ending) (w' : World) : Prop := e = .returned (.int .i64 x) ∧ Below w.heap.size w w'

/-- The call gives this Bool; nothing that was there has changed. -/
def GivesBool (w : World) (b : Bool) (e : Ending) (w' : World) : Prop := e = .returned (.bool b) ∧ Below w.heap.size w w'

section
variable (A : Option Addr) (n c : Nat) (ks : List Int) (vars tn a b : Int) (w : World)

set_option maxHeartbeats 800000 in
theorem kindOf_0 : Calls Try.prog 149 #[.agg #[.int .i64 0, .int .i64 tn, .int .i64 a, .int .i64 b], .slice A n c, .int .i64 vars] w (GivesInt w (kind ⟨0, tn, a, b⟩ ks vars)) := by
  have e : kind ⟨0, tn, a, b⟩ ks vars = kIf ((a == 0) && ((b == 0) && inB tn (-9999) 9999)) 1 := rfl
  rw [e]; clear e
  cases ha : a == 0 <;> cases hb : b == 0
  all_goals
    go_enter Try.func149, Try.ntmps149
    go_wp2_with (first | (go_at_call 174; refine (kindIf_any _ _ _).mono ?_; rintro e w' ⟨rfl, rfl⟩) | (go_at_call 148; refine (isNumber_any _ _).mono ?_; rintro e w' ⟨rfl, rfl⟩))
    go_ret
    exact ⟨rfl, (Below.refl _ _).alloc (Nat.le_refl _) _⟩

set_option maxHeartbeats 800000 in
theorem kindOf_1 : Calls Try.prog 149 #[.agg #[.int .i64 1, .int .i64 tn, .int .i64 a, .int .i64 b], .slice A n c, .int .i64 vars] w (GivesInt w (kind ⟨1, tn, a, b⟩ ks vars)) := by
  have e : kind ⟨1, tn, a, b⟩ ks vars = kIf ((a == 0) && ((b == 0) && (decide (0 ≤ tn) && decide (tn < vars)))) 1 := rfl
  rw [e]; clear e
  cases ha : a == 0 <;> cases hb : b == 0 <;> cases hc : decide (0 ≤ tn)
  all_goals
    go_enter Try.func149, Try.ntmps149
    go_wp2_with (first | (go_at_call 174; refine (kindIf_any _ _ _).mono ?_; rintro e w' ⟨rfl, rfl⟩))
    go_ret
    exact ⟨rfl, (Below.refl _ _).alloc (Nat.le_refl _) _⟩

variable (h : Rd w w.heap.size 1 A n (ints ks))
include h
set_option maxHeartbeats 800000 in
theorem kindOf_two (op k k' : Int) (e : kind ⟨op, tn, a, b⟩ ks vars = kIf (ofTwo ⟨op, tn, a, b⟩ ks k) k')
    (hop : (op = 2 ∧ k = 1 ∧ k' = 1) ∨ (op = 3 ∧ k = 1 ∧ k' = 1) ∨ (op = 4 ∧ k = 1 ∧ k' = 1) ∨ (op = 5 ∧ k = 1 ∧ k' = 2) ∨ (op = 6 ∧ k = 1 ∧ k' = 2) ∨ (op = 8 ∧ k = 2 ∧ k' = 2) ∨ (op = 9 ∧ k = 2 ∧ k' = 2)) :
    Calls Try.prog 149 #[.agg #[.int .i64 op, .int .i64 tn, .int .i64 a, .int .i64 b], .slice A n c, .int .i64 vars] w (GivesInt w (kind ⟨op, tn, a, b⟩ ks vars)) := by
  rw [e]; clear e
  have HR : ∀ o, Rd (w.alloc o) (w.alloc o).heap.size 1 A n (ints ks) := fun o => (h.alloc (Nat.le_refl _) o).more (by simp)
  have HR := Lib.hid HR
  clear h
  rcases hop with ⟨rfl, rfl, rfl⟩ | ⟨rfl, rfl, rfl⟩ | ⟨rfl, rfl, rfl⟩ | ⟨rfl, rfl, rfl⟩ | ⟨rfl, rfl, rfl⟩ | ⟨rfl, rfl, rfl⟩ | ⟨rfl, rfl, rfl⟩
  all_goals
    go_enter Try.func149, Try.ntmps149
    go_wp2_with (first | (go_at_call 174; refine (kindIf_any _ _ _).mono ?_; rintro e w' ⟨rfl, rfl⟩) | (go_at_call 175; refine (isOfTwo_any ⟨_, _, _, _⟩ A n c ks _ _ (HR.out _)).mono ?_; rintro e w' ⟨rfl, hb⟩))
    go_ret
    exact ⟨rfl, ((Below.refl _ _).alloc (Nat.le_refl _) _).trans (hb.mono (by simp))⟩

set_option maxHeartbeats 800000 in
theorem kindOf_7 : Calls Try.prog 149 #[.agg #[.int .i64 7, .int .i64 tn, .int .i64 a, .int .i64 b], .slice A n c, .int .i64 vars] w (GivesInt w (kind ⟨7, tn, a, b⟩ ks vars)) := by
  have e : kind ⟨7, tn, a, b⟩ ks vars = kIf ((a == b) && ofTwo ⟨7, tn, a, b⟩ ks 2) 2 := rfl
  rw [e]; clear e
  have HR : ∀ o, Rd (w.alloc o) (w.alloc o).heap.size 1 A n (ints ks) := fun o => (h.alloc (Nat.le_refl _) o).more (by simp)
  have HR := Lib.hid HR
  clear h
  cases ha : a == b
  · go_enter Try.func149, Try.ntmps149
    go_wp2_with (first | (go_at_call 174; refine (kindIf_any _ _ _).mono ?_; rintro e w' ⟨rfl, rfl⟩))
    go_ret
    exact ⟨rfl, (Below.refl _ _).alloc (Nat.le_refl _) _⟩
  · go_enter Try.func149, Try.ntmps149
    go_wp2_with (first | (go_at_call 174; refine (kindIf_any _ _ _).mono ?_; rintro e w' ⟨rfl, rfl⟩) | (go_at_call 175; refine (isOfTwo_any ⟨_, _, _, _⟩ A n c ks _ _ (HR.out _)).mono ?_; rintro e w' ⟨rfl, hb⟩))
    go_ret
    exact ⟨rfl, ((Below.refl _ _).alloc (Nat.le_refl _) _).trans (hb.mono (by simp))⟩

omit h in
set_option maxHeartbeats 800000 in
theorem kindOf_else (op : Int) (hop : op < 0 ∨ 9 < op) : Calls Try.prog 149 #[.agg #[.int .i64 op, .int .i64 tn, .int .i64 a, .int .i64 b], .slice A n c, .int .i64 vars] w (GivesInt w (kind ⟨op, tn, a, b⟩ ks vars)) := by
  have e : kind ⟨op, tn, a, b⟩ ks vars = 0 := by
    unfold kind
    dsimp only
    rw [if_neg (by omega), if_neg (by omega), if_neg (by omega), if_neg (by omega), if_neg (by omega), if_neg (by omega)]
  rw [e]; clear e
  have g0 : (op == 0) = false := beq_eq_false_iff_ne.2 (by omega)
  have g1 : (op == 1) = false := beq_eq_false_iff_ne.2 (by omega)
  have g2 : (op == 2) = false := beq_eq_false_iff_ne.2 (by omega)
  have g3 : (op == 3) = false := beq_eq_false_iff_ne.2 (by omega)
  have g4 : (op == 4) = false := beq_eq_false_iff_ne.2 (by omega)
  have g5 : (op == 5) = false := beq_eq_false_iff_ne.2 (by omega)
  have g6 : (op == 6) = false := beq_eq_false_iff_ne.2 (by omega)
  have g7 : (op == 7) = false := beq_eq_false_iff_ne.2 (by omega)
  have g8 : (op == 8) = false := beq_eq_false_iff_ne.2 (by omega)
  have g9 : (op == 9) = false := beq_eq_false_iff_ne.2 (by omega)
  go_enter Try.func149, Try.ntmps149
  go_wp2
  go_ret
  exact ⟨rfl, (Below.refl _ _).alloc (Nat.le_refl _) _⟩
end

theorem kindOf_any (t : Tm) (A : Option Addr) (n c : Nat) (ks : List Int) (vars : Int) (w : World) (h : Rd w w.heap.size 1 A n (ints ks)) :
    Calls Try.prog 149 #[t.v, .slice A n c, .int .i64 vars] w (GivesInt w (kind t ks vars)) := by
  obtain ⟨op, tn, a, b⟩ := t
  show Calls Try.prog 149 #[.agg #[.int .i64 op, .int .i64 tn, .int .i64 a, .int .i64 b], .slice A n c, .int .i64 vars] w _
  by_cases h0 : op < 0 ∨ 9 < op
  · exact kindOf_else A n c ks vars tn a b w op h0
  obtain rfl | rfl | rfl | rfl | rfl | rfl | rfl | rfl | rfl | rfl : op = 0 ∨ op = 1 ∨ op = 2 ∨ op = 3 ∨ op = 4 ∨ op = 5 ∨ op = 6 ∨ op = 7 ∨ op = 8 ∨ op = 9 := by omega
  · exact kindOf_0 A n c ks vars tn a b w
  · exact kindOf_1 A n c ks vars tn a b w
  · exact kindOf_two A n c ks vars tn a b w h 2 1 1 rfl (by simp)
  · exact kindOf_two A n c ks vars tn a b w h 3 1 1 rfl (by simp)
  · exact kindOf_two A n c ks vars tn a b w h 4 1 1 rfl (by simp)
  · exact kindOf_two A n c ks vars tn a b w h 5 1 2 rfl (by simp)
  · exact kindOf_two A n c ks vars tn a b w h 6 1 2 rfl (by simp)
  · exact kindOf_7 A n c ks vars tn a b w h
  · exact kindOf_two A n c ks vars tn a b w h 8 2 2 rfl (by simp)
  · exact kindOf_two A n c ks vars tn a b w h 9 2 2 rfl (by simp)
end Go.Proofs.Ythlkbkomecnbaaa
namespace Go.Proofs.Ythlkbkomecnbaaa
open Go.RowKit

theorem int_info : (Try.prog.info? 3).map (fun i => (i.zero, i.size, i.bytes)) = some (some (.int .i64 0), 1, 8) := by kernel_rfl
/-- int's row of the table of types, under a name. -/
noncomputable def intRow : TypeInfo := Classical.choose (info_parts int_info)
theorem int_row : Try.prog.info? 3 = some intRow ∧ intRow.zero = some (.int .i64 0) ∧ intRow.size = 1 ∧ intRow.bytes = 8 := Classical.choose_spec (info_parts int_info)

/-- 'append(v, z)' onto a row of int of the call's own. -/
theorem app_int {ops : Array Oper} {rest : List Oper} {o : Oper} {a : Act} {Q : Exit → Act → World → Prop} {w : World} (hgd : o.guard = none) (s x : Operand)
    (ho : o.op = .call { callee := .builtin .append, args := #[s, x], argTypes := #[22, 22] }) (base : Nat) (v : Value) (k : Nat) (l : List Int) (z : Int)
    (hs : a.eval s = v) (hown : w.ownsRow base 3 1 v k (ints l)) (hx : a.eval x = .slice (some ⟨w.heap.size, 0, none⟩) 1 1) (hk : k < 1000000000000) (hb : base ≤ w.heap.size)
    (h : ∀ v' w', w'.ownsRow base 3 1 v' (k + 1) (ints (l ++ [z])) → Below base w w' → wpList Try.prog ops Q rest (a.put o.dst v') w') :
    wpList Try.prog ops Q (o :: rest) a (w.alloc (.cells #[.int .i64 z] 3)) := by
  refine wpList_append_own _ hgd s x 22 ho base 3 intRow (.int .i64 0) 1 8 Try.underlying22 int_row.1 int_row.2.1 int_row.2.2.1 int_row.2.2.2 rfl (by decide) v k _ hs (hown.alloc _) ⟨w.heap.size, 0, none⟩ 1 1 [.int .i64 z] hx rfl ?_ ?_ (by unfold maxLen; omega) (by omega) (by simp; omega) ?_
  · intro j u hu
    cases j with
    | zero => rw [add_zero', World.cell?_alloc_at _ _ _ _ rfl]; simpa using hu
    | succ j => simp at hu
  · intro u hu; simp at hu; subst hu; rfl
  · intro v' w' h1 h2 _
    refine h v' w' (by simpa [ints] using h1) ?_
    exact ((Below.refl base w).alloc hb _).grown h2 (by simp; omega) (fun g hg => (hown.lt g hg).1)

/-- The kinds of the first k terms, while all are well. -/
def kindsTo (l : List Tm) (vars : Int) : Nat → Option (List Int)
  | 0 => some []
  | k + 1 => match kindsTo l vars k with
    | none => none
    | some ks => if kind (tx l k) ks vars = 0 then none else some (ks ++ [kind (tx l k) ks vars])
theorem kindsTo_len {l : List Tm} {vars : Int} : ∀ {k : Nat} {ks : List Int}, kindsTo l vars k = some ks → ks.length = k
  | 0, ks, h => by simp [kindsTo] at h; subst h; rfl
  | k + 1, ks, h => by
    simp only [kindsTo] at h
    cases hk : kindsTo l vars k with
    | none => rw [hk] at h; cases h
    | some ks' =>
      rw [hk] at h
      dsimp only at h
      split at h
      · cases h
      · injection h with h; subst h; simp [kindsTo_len hk]
theorem kindsTo_none {l : List Tm} {vars : Int} {k : Nat} (h : kindsTo l vars k = none) : ∀ n, k ≤ n → kindsTo l vars n = none := by
  intro n hn
  induction n with
  | zero => obtain rfl : k = 0 := by omega
            exact h
  | succ n ih =>
    by_cases e : k = n + 1
    · subst e; exact h
    · simp only [kindsTo, ih (by omega)]
/-- Whether so many terms over so many variables may be an expression. -/
def sizesOk (n : Nat) (vars : Int) : Bool := decide (0 ≤ vars) && decide (vars ≤ 5) && decide (1 ≤ n) && decide (n ≤ 40)
/-- The kinds of the terms of an expression; nothing if it is none. -/
def kindsOf (l : List Tm) (vars : Int) : List Int := if sizesOk l.length vars then (kindsTo l vars l.length).getD [] else []

/-- The call gives a new slice of these numbers. -/
def GivesInts (w : World) (ks : List Int) (e : Ending) (w' : World) : Prop := ∃ v, e = .returned v ∧ w'.ownsRow w.heap.size 3 1 v ks.length (ints ks) ∧ Below w.heap.size w w'

set_option maxHeartbeats 1000000 in
theorem kindsOf_impl (A : Option Addr) (n c : Nat) (l : List Tm) (vars : Int) (w : World) (h : Rd w w.heap.size 4 A n (tms l)) (hn : n ≤ maxLen) :
    Calls Try.prog 117 #[.slice A n c, .int .i64 vars] w (GivesInts w (kindsOf l vars)) := by
  unfold maxLen at hn
  by_cases g : vars < 0 ∨ 5 < vars ∨ n < 1 ∨ 40 < n
  · have e : kindsOf l vars = [] := by
      unfold kindsOf
      rw [h.tlen, if_neg (by simp [sizesOk]; omega)]
    rw [e]
    clear e h
    have hd : decide (vars < 0) = true ∨ decide (vars < 0) = false := by cases decide (vars < 0) <;> simp
    go_enter Try.func117, Try.ntmps117
    go_wp2
    all_goals (go_ret; exact ⟨_, rfl, World.ownsRow_nil _ _ _ _, Below.refl _ _⟩)
  · have g1 : 0 ≤ vars := by omega
    have g2 : vars ≤ 5 := by omega
    have g3 : 1 ≤ n := by omega
    have g4 : n ≤ 40 := by omega
    clear g
    have d1 : decide (vars < 0) = false := decide_eq_false (by omega)
    have d2 : decide (5 < vars) = false := decide_eq_false (by omega)
    have d3 : decide ((n : Int) < 1) = false := decide_eq_false (by omega)
    have d4 : decide (40 < (n : Int)) = false := decide_eq_false (by omega)
    go_enter Try.func117, Try.ntmps117
    go_wp2_with (first | (at_make; refine wpList_make_own _ rfl _ _ 22 rfl w.heap.size 3 intRow _ 1 Try.underlying22 int_row.1 int_row.2.1 int_row.2.2.1 _ _ _ n rfl rfl (by omega) (by rw [int_row.2.2.2]; omega) (by unfold maxLen; omega) (Nat.le_refl _) ?_; intro w1 hown hg))
    have hbw := (Below.refl w.heap.size w).grown hg (Nat.le_refl _) (by simp)
    clear hg
    go_loopg [5, 30] n (fun m v i wr => ∃ (k : Nat) (ks : List Int), k + m = n ∧ i = .int .i64 k ∧ Hid (kindsTo l vars k = some ks) ∧ wr.ownsRow w.heap.size 3 1 v k (ints ks) ∧ Below w.heap.size w wr)
    case atStart => exact ⟨0, [], by omega, rfl, Lib.hid rfl, hown, hbw⟩
    case round =>
      obtain ⟨k, ks, hk, rfl, hto, hown', hb⟩ := hrel
      clear hown hbw
      by_cases hlt : k < n
      · obtain ⟨A', c', rfl, _, hR⟩ := own_form hown'
        obtain ⟨ad, rfl, _, h0, h1, h2, h3⟩ := (h.below hb).tm hlt
        have hR' := fun o : Obj => (hR.alloc (Nat.le_refl _) o).more (B' := (wr.alloc o).heap.size) (by simp)
        have HR := Lib.hid hR'; clear hR'
        cases hz : kind (tx l k) ks vars == 0
        · go_wp2_with (first
            | (go_at_call 149; refine (kindOf_any (tx l k) A' k c' ks vars _ (HR.out _)).mono ?_; rintro e w2 ⟨rfl, hb2⟩
               have hb3 := below_call hb2)
            | (at_builtin; refine app_int rfl _ _ rfl w.heap.size _ k ks _ rfl (own_below hown' hb3) rfl (by omega) (by have := hb.size; have := hb3.size; omega) ?_; intro v' w3 hown3 hb4))
          have hf : kindsTo l vars (k + 1) = some (ks ++ [kind (tx l k) ks vars]) := by
            simp only [kindsTo, hto.out]; rw [if_neg (by simpa using hz)]
          go_roundg (n - (k + 1))
          case measure => omega
          case rel => exact ⟨k + 1, _, by omega, by go_num, Lib.hid hf, hown3, (hb.trans (hb3.mono hb.size)).trans hb4⟩
        · have hf : kindsTo l vars (k + 1) = none := by
            simp only [kindsTo, hto.out]; rw [if_pos (by simpa using hz)]
          have HF := Lib.hid hf; clear hf
          go_wp2_with (first
            | (go_at_call 149; refine (kindOf_any (tx l k) _ k c' ks vars _ (HR.out _)).mono ?_; rintro e w2 ⟨rfl, hb2⟩
               have hb3 := below_call hb2))
          go_ret
          have e : kindsOf l vars = [] := by unfold kindsOf; rw [kindsTo_none HF.out _ (by rw [h.tlen]; omega)]; simp
          rw [e]
          exact ⟨_, rfl, World.ownsRow_nil _ _ _ _, hb.trans (hb3.mono hb.size)⟩
      · obtain rfl : k = n := by omega
        go_wp2
        go_ret
        have e : kindsOf l vars = ks := by
          unfold kindsOf
          rw [if_pos (by rw [h.tlen]; simp [sizesOk]; omega), h.tlen, hto.out]; rfl
        rw [e]
        exact ⟨_, rfl, by rw [kindsTo_len hto.out]; exact hown', hb⟩
end Go.Proofs.Ythlkbkomecnbaaa
