/- The exact laws' helpers over lists of int, and the marks that they write. -/
import Derived.Test.YtmlhnnkdecabpaaDoorLaw
import Derived.Test.YtmlhnnkdecabpaaDoorKinds
namespace Go.Proofs.YtmlhnnkdecabpaaDoor
open Go.RowKit

theorem cell_below {w w' : World} {B : Nat} {p : Addr} {v : Value} (hb : Below B w w') (hp : p.block < B) (h : w.cell? p = some v) : w'.cell? p = some v := (hb.cell hp).trans h
/-- The four cells of a term stay. -/
theorem four_below {w w' : World} {a : Addr} {m : Nat} {v0 v1 v2 v3 : Value} (hb : Below w.heap.size w w') (ha : a.block < w.heap.size) (h0 : w.cell? (a.add m) = some v0) (h1 : w.cell? ⟨(a.add m).block, (a.add m).off + 1, none⟩ = some v1)
    (h2 : w.cell? ⟨(a.add m).block, (a.add m).off + 2, none⟩ = some v2) (h3 : w.cell? ⟨(a.add m).block, (a.add m).off + 3, none⟩ = some v3) :
    w'.cell? (a.add m) = some v0 ∧ w'.cell? ⟨(a.add m).block, (a.add m).off + 1, none⟩ = some v1 ∧ w'.cell? ⟨(a.add m).block, (a.add m).off + 2, none⟩ = some v2 ∧ w'.cell? ⟨(a.add m).block, (a.add m).off + 3, none⟩ = some v3 := by
  have e : (a.add m).block < w.heap.size := by rw [add_block]; exact ha
  exact ⟨cell_below hb e h0, cell_below hb e h1, cell_below hb e h2, cell_below hb e h3⟩
theorem Tm.eq_self (t : Tm) : t.eq t = true := by simp [Tm.eq]
theorem eqTerm_same (t : Tm) (w : World) : Calls Tryd.prog 49 #[.agg #[.int .i64 t.op, .int .i64 t.n, .int .i64 t.a, .int .i64 t.b], .agg #[.int .i64 t.op, .int .i64 t.n, .int .i64 t.a, .int .i64 t.b]] w (GivesBool w true) := by
  have h := eqTerm_any t t w
  rw [t.eq_self] at h
  exact h

set_option maxHeartbeats 1000000 in
theorem eqTermS_same (A A' : Option Addr) (n c c' : Nat) (l : List Tm) (w : World) (h : Rd w w.heap.size 4 A n (tms l)) (h' : Rd w w.heap.size 4 A' n (tms l)) (hn : n ≤ 1048576) :
    Calls Tryd.prog 17 #[.slice A n c, .slice A' n c'] w (GivesBool w true) := by
  go_enter Tryd.func17, Tryd.ntmps17
  go_wp2
  go_loopg [5] n (fun m i wr => ∃ k : Nat, k + m = n ∧ i = .int .i64 k ∧ Below w.heap.size w wr)
  case atStart => exact ⟨0, by omega, rfl, Below.refl _ _⟩
  case round =>
    obtain ⟨k, hk, rfl, hb⟩ := hrel
    by_cases hlt : k < n
    · obtain ⟨ad, rfl, b1, h0, h1, h2, h3⟩ := (h.below hb).tm hlt
      obtain ⟨ad', rfl, b2, i0, i1, i2, i3⟩ := (h'.below hb).tm hlt
      go_wp2
      go_region_held3 (fun w' => w'.cell? (ad.add (k * 4)) = some (.int .i64 (tx l k).op) ∧ w'.cell? ⟨(ad.add (k * 4)).block, (ad.add (k * 4)).off + 1, none⟩ = some (.int .i64 (tx l k).n) ∧ w'.cell? ⟨(ad.add (k * 4)).block, (ad.add (k * 4)).off + 2, none⟩ = some (.int .i64 (tx l k).a) ∧ w'.cell? ⟨(ad.add (k * 4)).block, (ad.add (k * 4)).off + 3, none⟩ = some (.int .i64 (tx l k).b) ∧
          w'.cell? (ad'.add (k * 4)) = some (.int .i64 (tx l k).op) ∧ w'.cell? ⟨(ad'.add (k * 4)).block, (ad'.add (k * 4)).off + 1, none⟩ = some (.int .i64 (tx l k).n) ∧ w'.cell? ⟨(ad'.add (k * 4)).block, (ad'.add (k * 4)).off + 2, none⟩ = some (.int .i64 (tx l k).a) ∧ w'.cell? ⟨(ad'.add (k * 4)).block, (ad'.add (k * 4)).off + 3, none⟩ = some (.int .i64 (tx l k).b))
        (go_keep) ((go_at_call 49; refine (eqTerm_same (tx l k) _).mono ?_; rintro e w2 ⟨rfl, hb2⟩; obtain ⟨p0, p1, p2, p3⟩ := four_below hb2 (Nat.lt_of_lt_of_le b1 hb.size) h0 h1 h2 h3; obtain ⟨q0, q1, q2, q3⟩ := four_below hb2 (Nat.lt_of_lt_of_le b2 hb.size) i0 i1 i2 i3))
      all_goals
        go_wp2
        go_roundg (n - (k + 1))
        case measure => omega
        case rel => exact ⟨k + 1, by omega, by go_num, hb.trans (Below.mono (B' := w.heap.size) ⟨hb2.os, hb2.tape, hb2.output, hb2.size, hb2.block⟩ hb.size)⟩
    · obtain rfl : k = n := by omega
      go_wp2
      go_ret
      exact ⟨rfl, hb⟩
end Go.Proofs.YtmlhnnkdecabpaaDoor
namespace Go.Proofs.YtmlhnnkdecabpaaDoor
open Go.RowKit

set_option maxHeartbeats 1000000 in
theorem eqIntS_same (A A' : Option Addr) (n c c' : Nat) (l : List Int) (w : World) (h : Rd w w.heap.size 1 A n (ints l)) (h' : Rd w w.heap.size 1 A' n (ints l)) (hn : n ≤ maxLen) :
    Calls Tryd.prog 15 #[.slice A n c, .slice A' n c'] w (GivesBool w true) := by
  unfold maxLen at hn
  go_enter Tryd.func15, Tryd.ntmps15
  go_wp2
  go_loopg [5] n (fun m i wr => ∃ k : Nat, k + m = n ∧ i = .int .i64 k ∧ Below w.heap.size w wr)
  case atStart => exact ⟨0, by omega, rfl, Below.refl _ _⟩
  case round =>
    obtain ⟨k, hk, rfl, hb⟩ := hrel
    by_cases hlt : k < n
    · obtain ⟨ad, rfl, b1, h0⟩ := (h.below hb).int hlt
      obtain ⟨ad', rfl, b2, i0⟩ := (h'.below hb).int hlt
      have e1 : (ix l k != ix l k) = false := by simp
      go_wp2
      go_quiet (fail)
      go_wp2
      go_roundg (n - (k + 1))
      case measure => omega
      case rel => exact ⟨k + 1, by omega, by go_num, hb.trans ⟨rfl, rfl, rfl, Nat.le_refl _, fun _ _ => rfl⟩⟩
    · obtain rfl : k = n := by omega
      go_wp2
      go_ret
      exact ⟨rfl, hb⟩

/-- The numbers from k on. -/
def seqFrom (k : Int) : Nat → List Int
  | 0 => []
  | n + 1 => seqFrom k n ++ [k + n]
theorem len_seq (k : Int) : ∀ n, (seqFrom k n).length = n
  | 0 => rfl
  | n + 1 => by simp [seqFrom, len_seq k n]
theorem ix_seq (k : Int) : ∀ {n j : Nat}, j < n → ix (seqFrom k n) j = k + j
  | n + 1, j, h => by
    unfold ix seqFrom
    by_cases e : j < n
    · rw [List.getElem?_append_left (by rw [len_seq]; exact e)]
      exact ix_seq k e
    · have : j = n := by omega
      subst this
      rw [List.getElem?_append_right (by rw [len_seq]; omega), len_seq]; simp

/-- The call gives this number; nothing has changed. -/
def SameInt (w : World) (x : Int) (e : Ending) (w' : World) : Prop := e = .returned (.int .i64 x) ∧ Below w.heap.size w w'

set_option maxHeartbeats 1000000 in
theorem heldIntS_any (A : Option Addr) (n c : Nat) (q : Int) (w : World) (h : Rd w w.heap.size 1 A n (ints (seqFrom q n))) (hq : 0 ≤ q) (hq' : q ≤ 1000000000000) (hn : n ≤ 1000000000000) :
    Calls Tryd.prog 21 #[.slice A n c, .int .i64 q] w (GivesInt w (q + n)) := by
  go_enter Tryd.func21, Tryd.ntmps21
  go_wp2
  go_loopg [1, 5] n (fun m j i wr => ∃ k : Nat, k + m = n ∧ i = .int .i64 k ∧ j = .int .i64 (q + k) ∧ Below w.heap.size w wr)
  case atStart => exact ⟨0, by omega, rfl, by simp, Below.refl _ _⟩
  case round =>
    obtain ⟨k, hk, rfl, rfl, hb⟩ := hrel
    by_cases hlt : k < n
    · obtain ⟨ad, rfl, b1, h0⟩ := (h.below hb).int hlt
      rw [ix_seq q hlt] at h0
      have e1 : (q + (k : Int) != q + k) = false := by simp
      go_wp2
      go_roundg (n - (k + 1))
      case measure => omega
      case rel => exact ⟨k + 1, by omega, by go_num, by go_num, hb⟩
    · obtain rfl : k = n := by omega
      go_wp2
      go_ret
      exact ⟨rfl, hb⟩

/-- The cells of a row, k of which are marked from q on. -/
def marked (l : List Int) (q : Int) (k : Nat) : List Int := seqFrom q k ++ l.drop k

/-- The call gives this number, and has written into one block alone. -/
def Marks (w : World) (x : Int) (row : Option Nat) (e : Ending) (w' : World) : Prop := e = .returned (.int .i64 x) ∧ w.grownBy w' row
theorem grown_trans {a b c : World} {row : Option Nat} (h : a.grownBy b row) (k : b.grownBy c row) : a.grownBy c row :=
  ⟨k.os.trans h.os, k.tape.trans h.tape, k.output.trans h.output, Nat.le_trans h.size k.size, fun i hi hne => (k.block i (Nat.lt_of_lt_of_le hi h.size) hne).trans (h.block i hi hne)⟩
theorem grown_drew {a b : World} {row : Option Nat} (h : a.grownBy b row) : a.grownBy b.drew row := ⟨h.os, h.tape, h.output, h.size, h.block⟩
/-- Below a row of the call's own nothing has changed. -/
theorem grown_below {w w' : World} {row : Option Nat} {B : Nat} (h : w.grownBy w' row) (hB : B ≤ w.heap.size) (hr : ∀ k, row = some k → B ≤ k) : Below B w w' := (Below.refl B w).grown h hB hr

theorem marked_succ {l : List Int} {q : Int} {k : Nat} (h : k < l.length) : (ints (marked l q k)).set k (.int .i64 (q + k)) = ints (marked l q (k + 1)) := by
  unfold ints marked
  rw [← List.map_set, List.set_append_right _ _ (by rw [len_seq]; omega), len_seq, Nat.sub_self, List.drop_eq_getElem_cons h]
  simp only [List.map_append, List.map_cons, List.set_cons_zero, seqFrom, List.append_assoc, List.cons_append, List.nil_append]
theorem marked_len {l : List Int} {q : Int} {k : Nat} (h : k ≤ l.length) : (marked l q k).length = l.length := by simp [marked, len_seq]; omega
theorem marked_all {l : List Int} {q : Int} {n : Nat} (h : l.length = n) : marked l q n = seqFrom q n := by unfold marked; rw [List.drop_of_length_le (by omega)]; simp

/-- The call gives this number, and its slice reads as the marks. -/
def MarksInts (w : World) (base : Nat) (v : Value) (n : Nat) (q : Int) (e : Ending) (w' : World) : Prop :=
  e = .returned (.int .i64 (q + n)) ∧ w'.ownsRow base 3 1 v n (ints (seqFrom q n)) ∧ w.grownBy w' v.ownBlock

set_option maxHeartbeats 1000000 in
theorem markIntS_any (base : Nat) (A : Option Addr) (n c : Nat) (l : List Int) (q : Int) (w : World) (hown : w.ownsRow base 3 1 (.slice A n c) n (ints l)) (hq : 0 ≤ q) (hq' : q ≤ 1000000000000) (hn : n ≤ 1000000000000) :
    Calls Tryd.prog 20 #[.slice A n c, .int .i64 q] w (MarksInts w base (.slice A n c) n q) := by
  have hl : l.length = n := by have := hown.1; rw [len_ints] at this; omega
  have hl := Lib.hid hl
  go_enter Tryd.func20, Tryd.ntmps20
  go_wp2
  go_loopg [1, 5] n (fun m j i wr => ∃ k : Nat, k + m = n ∧ i = .int .i64 k ∧ j = .int .i64 (q + k) ∧ wr.ownsRow base 3 1 (.slice A n c) n (ints (marked l q k)) ∧ w.grownBy wr (Value.slice A n c).ownBlock)
  case atStart => exact ⟨0, by omega, rfl, by simp, hown, World.grownBy.refl _ _⟩
  case round =>
    obtain ⟨k, hk, rfl, rfl, ho, hg⟩ := hrel
    clear hown
    by_cases hlt : k < n
    · rcases ho.2 with ⟨_, h0⟩ | ⟨g, cap, cur, hv, _⟩
      · omega
      injection hv with hA _ hc
      subst hA
      subst hc
      have f0 := ho.frozenAt k
      have c0 : wr.cell? ⟨g, k, none⟩ = some (.int .i64 (ix (marked l q k) k)) := by
        rw [ho.cellAt k (by omega)]
        have : k < (marked l q k).length := by rw [marked_len (by rw [hl.out]; omega), hl.out]; exact hlt
        unfold ints
        rw [List.getElem?_map, List.getElem?_eq_getElem this, ix_lt this]; rfl
      have hs := Lib.hid (ho.stored k (.int .i64 (q + k)))
      go_wp2
      go_roundg (n - (k + 1))
      case measure => omega
      case rel =>
        refine ⟨k + 1, by omega, by go_num, by go_num, ?_, grown_trans hg hs.out.2⟩
        rw [← marked_succ (by rw [hl.out]; exact hlt)]
        exact hs.out.1
    · obtain rfl : k = n := by omega
      go_wp2
      go_ret
      rw [marked_all hl.out] at ho
      exact ⟨rfl, ho, hg⟩

/-- The call gives this number, and has written into one block alone. -/
def MarksTms (w : World) (_base : Nat) (v : Value) (n : Nat) (q : Int) (e : Ending) (w' : World) : Prop :=
  e = .returned (.int .i64 (q + 4 * n)) ∧ w.grownBy w' v.ownBlock

set_option maxHeartbeats 1000000 in
theorem markTermS_any (base : Nat) (A : Option Addr) (n c : Nat) (xs : List Value) (q : Int) (w : World) (hown : w.ownsRow base 59 4 (.slice A n c) n xs) (hq : 0 ≤ q) (hq' : q ≤ 1000000000000) (hn : n ≤ 1000000000000) :
    Calls Tryd.prog 19 #[.slice A n c, .int .i64 q] w (MarksTms w base (.slice A n c) n q) := by
  go_enter Tryd.func19, Tryd.ntmps19
  go_wp2
  go_loopg [1, 5] n (fun m j i wr => ∃ (k : Nat) (xs : List Value), k + m = n ∧ i = .int .i64 k ∧ j = .int .i64 (q + 4 * k) ∧ wr.ownsRow base 59 4 (.slice A n c) n xs ∧ w.grownBy wr (Value.slice A n c).ownBlock)
  case atStart => exact ⟨0, xs, by omega, rfl, by simp, hown, World.grownBy.refl _ _⟩
  case round =>
    clear hown
    obtain ⟨k, ys, hk, rfl, rfl, ho, hg⟩ := hrel
    by_cases hlt : k < n
    · rcases ho.2 with ⟨_, h0⟩ | ⟨g, cap, cur, hv, _⟩
      · omega
      injection hv with hA _ hc
      subst hA
      subst hc
      have C : ∀ j, j < n * 4 → ∃ u, wr.cell? ⟨g, j, none⟩ = some u := fun j hj => by
        rw [ho.cellAt j hj]
        exact ⟨_, List.getElem?_eq_getElem (by rw [ho.1]; exact hj)⟩
      obtain ⟨u0, c0⟩ := C (k * 4) (by omega)
      obtain ⟨u1, c1⟩ := C (k * 4 + 1) (by omega)
      obtain ⟨u2, c2⟩ := C (k * 4 + 2) (by omega)
      obtain ⟨u3, c3⟩ := C (k * 4 + 3) (by omega)
      have f0 := ho.frozenAt (k * 4)
      have f1 := ho.frozenAt (k * 4 + 1)
      have f2 := ho.frozenAt (k * 4 + 2)
      have f3 := ho.frozenAt (k * 4 + 3)
      clear C
      go_wp2
      go_roundg (n - (k + 1))
      case measure => omega
      case rel =>
        have s0 := ho.stored (k * 4) (.int .i64 (q + 4 * k))
        have s1 := s0.1.stored (k * 4 + 1) (.int .i64 (q + 4 * k + 1))
        have s2 := s1.1.stored (k * 4 + 2) (.int .i64 (q + 4 * k + 1 + 1))
        have s3 := s2.1.stored (k * 4 + 3) (.int .i64 (q + 4 * k + 1 + 1 + 1))
        exact ⟨k + 1, _, by omega, by go_num, by go_num, s3.1, grown_trans (grown_trans (grown_trans (grown_trans hg s0.2) s1.2) s2.2) s3.2⟩
    · obtain rfl : k = n := by omega
      go_wp2
      go_ret
      exact ⟨rfl, hg⟩

theorem ne_of_ranges {v r : Option Nat} {a b c d : Nat} (h1 : ∀ k, v = some k → a ≤ k ∧ k < b) (h2 : ∀ k, r = some k → c ≤ k ∧ k < d) (h : b ≤ c ∨ d ≤ a) : v = none ∨ v ≠ r := by
  cases v with
  | none => exact .inl rfl
  | some k =>
    refine .inr fun e => ?_
    have x := h1 k rfl
    have y := h2 k e.symm
    omega

theorem kinds_len (l : List Tm) (vars : Int) : (kindsOf l vars).length ≤ 40 := by
  unfold kindsOf
  split
  · rename_i h
    cases hk : kindsTo l vars l.length with
    | none => simp
    | some ks => simp [sizesOk] at h; simp [kindsTo_len hk]; omega
  · simp
end Go.Proofs.YtmlhnnkdecabpaaDoor
