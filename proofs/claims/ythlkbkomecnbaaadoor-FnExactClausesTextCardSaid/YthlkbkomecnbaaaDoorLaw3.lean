/- The exact laws' helpers over lists of int, and the marks that they write. -/
import Derived.Test.YthlkbkomecnbaaaDoorKinds
import Derived.Deep.LoopGhost
import Derived.Deep.RegionHeld3
namespace Go.Proofs.YthlkbkomecnbaaaDoor
open Go.RowKit

/-- Whether two terms are equal. -/
def Tm.eq (t u : Tm) : Bool := t.op == u.op && (t.n == u.n && (t.a == u.a && t.b == u.b))

/-- A block that is known whole. -/
def Blk (w : World) (g : Nat) (t : TypeId) (cs : List Value) : Prop := w.heap[g]? = some (.cells cs.toArray t (0, 0))
section
variable {w w' : World} {g : Nat} {t : TypeId} {cs : List Value}
theorem Blk.lt (h : Blk w g t cs) : g < w.heap.size := (Array.getElem?_eq_some_iff.1 h).1
theorem Blk.cell (h : Blk w g t cs) (i : Nat) : w.cell? ⟨g, i, none⟩ = cs[i]? := by rw [cell_of_row w g i cs.toArray t (0, 0) h]; simp
theorem Blk.frozen (h : Blk w g t cs) (i : Nat) : w.frozen? ⟨g, i, none⟩ = false := by unfold Blk at h; simp [World.frozen?, h]
theorem Blk.alloc (h : Blk w g t cs) (o : Obj) : Blk (w.alloc o) g t cs := (Below.heap_alloc w o g h.lt).trans h
theorem Blk.below {B : Nat} (h : Blk w g t cs) (hb : Below B w w') (hg : g < B) : Blk w' g t cs := (hb.block g hg).trans h
theorem Blk.set (h : Blk w g t cs) (i : Nat) (u : Value) : Blk (w.setCell ⟨g, i, none⟩ u) g t (cs.set i u) := by
  unfold Blk at h ⊢
  simp [World.setCell, Array.getElem?_modify, h]
theorem Blk.own (h : Blk w g t cs) {base size n : Nat} (hb : base ≤ g) (hn : n ≤ maxLen) (hs : cs.length = n * size) : w.ownsRow base t size (.slice (some ⟨g, 0, none⟩) n n) n cs :=
  ⟨hs, .inr ⟨g, n, cs.toArray, rfl, hb, h, Nat.le_refl _, hn, by simpa using hs, by simp [← hs]⟩⟩
theorem Blk.of_own {base size n : Nat} (h : w.ownsRow base t size (.slice (some ⟨g, 0, none⟩) n n) n cs) : Blk w g t cs ∧ base ≤ g := by
  rcases h.2 with ⟨h', _⟩ | ⟨g', cap, cur, hv, hb, hg, _, _, hs, ht⟩
  · simp at h'
  · injection hv with h1 h2 h3
    injection h1 with h1
    injection h1 with h1 _ _
    subst h1; subst h3
    refine ⟨?_, hb⟩
    unfold Blk
    rw [hg, ← ht, List.take_of_length_le (by simp [hs])]
end

/-- The cells of a copy, k terms of which are made. -/
def copied (l : List Tm) (n k : Nat) : List Value := tms (l.take k) ++ List.replicate ((n - k) * 4) (.int .i64 0)

theorem tms_snoc {l : List Tm} {k : Nat} (h : k < l.length) : tms (l.take (k + 1)) = tms (l.take k) ++ (tx l k).cs := by
  rw [List.take_succ_eq_append_getElem h, tx_lt h]
  unfold tms
  rw [List.flatMap_append]
  simp
theorem copied_room {l : List Tm} {n k : Nat} (h : k < n) : copied l n k = tms (l.take k) ++ ([.int .i64 0, .int .i64 0, .int .i64 0, .int .i64 0] ++ List.replicate ((n - (k + 1)) * 4) (.int .i64 0)) := by
  unfold copied
  rw [show (n - k) * 4 = 4 + (n - (k + 1)) * 4 by omega, ← List.replicate_append_replicate]; rfl
theorem len_take {l : List Tm} {n k : Nat} (hl : l.length = n) (h : k < n) : (tms (l.take k)).length = k * 4 := by rw [len_tms, List.length_take]; omega
theorem copied_at {l : List Tm} {n k : Nat} (hl : l.length = n) (h : k < n) (j : Nat) (hj : j < 4) : (copied l n k)[k * 4 + j]? = some (.int .i64 0) := by
  rw [copied_room h, List.getElem?_append_right (by rw [len_take hl h]; omega), len_take hl h, show k * 4 + j - k * 4 = j by omega]
  rw [List.getElem?_append_left (by simpa using hj)]
  match j, hj with
  | 0, _ => rfl
  | 1, _ => rfl
  | 2, _ => rfl
  | 3, _ => rfl
theorem copied_succ {l : List Tm} {n k : Nat} (hl : l.length = n) (h : k < n) : ((((copied l n k).set (k * 4) (.int .i64 (tx l k).op)).set (k * 4 + 1) (.int .i64 (tx l k).n)).set (k * 4 + 2) (.int .i64 (tx l k).a)).set (k * 4 + 3) (.int .i64 (tx l k).b) = copied l n (k + 1) := by
  have e := len_take hl h
  rw [copied_room h]
  rw [List.set_append_right _ _ (by omega), e, Nat.sub_self]
  rw [List.set_append_right _ _ (by omega), e, show k * 4 + 1 - k * 4 = 1 by omega]
  rw [List.set_append_right _ _ (by omega), e, show k * 4 + 2 - k * 4 = 2 by omega]
  rw [List.set_append_right _ _ (by omega), e, show k * 4 + 3 - k * 4 = 3 by omega]
  show _ = tms (l.take (k + 1)) ++ List.replicate ((n - (k + 1)) * 4) (.int .i64 0)
  rw [tms_snoc (by omega), List.append_assoc]
  rfl
theorem copied_all {l : List Tm} {n : Nat} (hl : l.length = n) : copied l n n = tms l := by unfold copied; rw [Nat.sub_self, List.take_of_length_le (by omega)]; simp
theorem copied_none (l : List Tm) (n : Nat) : (madeCells (Value.agg #[.int .i64 0, .int .i64 0, .int .i64 0, .int .i64 0]).cells (n * 4)).toList = copied l n 0 := by
  unfold copied
  simp only [List.take_zero, Nat.sub_zero, tms, List.flatMap_nil, List.nil_append]
  refine List.ext_getElem? fun i => ?_
  have H : ∀ j, j < 4 → (#[Value.int IntKind.i64 0, .int .i64 0, .int .i64 0, .int .i64 0] : Array Value)[j]! = .int .i64 0 := by
    intro j hj
    match j, hj with
    | 0, _ => rfl
    | 1, _ => rfl
    | 2, _ => rfl
    | 3, _ => rfl
  by_cases hi : i < n * 4
  · rw [List.getElem?_replicate, if_pos hi, Array.getElem?_toList]
    unfold madeCells
    rw [Array.getElem?_map, Array.getElem?_range, if_pos hi]
    exact congrArg some (H (i % 4) (Nat.mod_lt _ (by omega)))
  · rw [List.getElem?_eq_none (by rw [Array.length_toList, size_madeCells]; omega), List.getElem?_eq_none (by rw [List.length_replicate]; omega)]

end Go.Proofs.YthlkbkomecnbaaaDoor
namespace Go.Proofs.YthlkbkomecnbaaaDoor
open Go.RowKit

theorem cell_below {w w' : World} {B : Nat} {p : Addr} {v : Value} (hb : Below B w w') (hp : p.block < B) (h : w.cell? p = some v) : w'.cell? p = some v := (hb.cell hp).trans h
/-- The four cells of a term stay. -/
theorem four_below {w w' : World} {a : Addr} {m : Nat} {v0 v1 v2 v3 : Value} (hb : Below w.heap.size w w') (ha : a.block < w.heap.size) (h0 : w.cell? (a.add m) = some v0) (h1 : w.cell? ⟨(a.add m).block, (a.add m).off + 1, none⟩ = some v1)
    (h2 : w.cell? ⟨(a.add m).block, (a.add m).off + 2, none⟩ = some v2) (h3 : w.cell? ⟨(a.add m).block, (a.add m).off + 3, none⟩ = some v3) :
    w'.cell? (a.add m) = some v0 ∧ w'.cell? ⟨(a.add m).block, (a.add m).off + 1, none⟩ = some v1 ∧ w'.cell? ⟨(a.add m).block, (a.add m).off + 2, none⟩ = some v2 ∧ w'.cell? ⟨(a.add m).block, (a.add m).off + 3, none⟩ = some v3 := by
  have e : (a.add m).block < w.heap.size := by rw [add_block]; exact ha
  exact ⟨cell_below hb e h0, cell_below hb e h1, cell_below hb e h2, cell_below hb e h3⟩
theorem Tm.eq_self (t : Tm) : t.eq t = true := by simp [Tm.eq]
end Go.Proofs.YthlkbkomecnbaaaDoor
namespace Go.Proofs.YthlkbkomecnbaaaDoor
open Go.RowKit

set_option maxHeartbeats 1000000 in
theorem eqIntS_same (A A' : Option Addr) (n c c' : Nat) (l : List Int) (w : World) (h : Rd w w.heap.size 1 A n (ints l)) (h' : Rd w w.heap.size 1 A' n (ints l)) (hn : n ≤ maxLen) :
    Calls Tryd.prog 27 #[.slice A n c, .slice A' n c'] w (GivesBool w true) := by
  unfold maxLen at hn
  go_enter Tryd.func27, Tryd.ntmps27
  go_wp2
  go_loopg [5] n (fun m i wr => ∃ k : Nat, k + m = n ∧ i = .int .i64 k ∧ Below w.heap.size w wr)
  case atStart => exact ⟨0, by omega, rfl, Below.refl _ _⟩
  case round =>
    obtain ⟨k, hk, rfl, hb⟩ := hrel
    by_cases hlt : k < n
    · obtain ⟨ad, rfl, b1, h0⟩ := (h.below hb).int hlt
      obtain ⟨ad', rfl, b2, i0⟩ := (h'.below hb).int hlt
      have e1 : (ix l k != ix l k) = false := by simp
      go_wp2
      go_quiet (fail)
      go_wp2
      go_roundg (n - (k + 1))
      case measure => omega
      case rel => exact ⟨k + 1, by omega, by go_num, hb.trans ⟨rfl, rfl, rfl, Nat.le_refl _, fun _ _ => rfl⟩⟩
    · obtain rfl : k = n := by omega
      go_wp2
      go_ret
      exact ⟨rfl, hb⟩

/-- The numbers from k on. -/
def seqFrom (k : Int) : Nat → List Int
  | 0 => []
  | n + 1 => seqFrom k n ++ [k + n]
theorem len_seq (k : Int) : ∀ n, (seqFrom k n).length = n
  | 0 => rfl
  | n + 1 => by simp [seqFrom, len_seq k n]
theorem ix_seq (k : Int) : ∀ {n j : Nat}, j < n → ix (seqFrom k n) j = k + j
  | n + 1, j, h => by
    unfold ix seqFrom
    by_cases e : j < n
    · rw [List.getElem?_append_left (by rw [len_seq]; exact e)]
      exact ix_seq k e
    · have : j = n := by omega
      subst this
      rw [List.getElem?_append_right (by rw [len_seq]; omega), len_seq]; simp

/-- The call gives this number; nothing has changed. -/
def SameInt (w : World) (x : Int) (e : Ending) (w' : World) : Prop := e = .returned (.int .i64 x) ∧ Below w.heap.size w w'

/-- The cells of a row, k of which are marked from q on. -/
def marked (l : List Int) (q : Int) (k : Nat) : List Int := seqFrom q k ++ l.drop k

/-- The call gives this number, and has written into one block alone. -/
def Marks (w : World) (x : Int) (row : Option Nat) (e : Ending) (w' : World) : Prop := e = .returned (.int .i64 x) ∧ w.grownBy w' row
theorem grown_trans {a b c : World} {row : Option Nat} (h : a.grownBy b row) (k : b.grownBy c row) : a.grownBy c row :=
  ⟨k.os.trans h.os, k.tape.trans h.tape, k.output.trans h.output, Nat.le_trans h.size k.size, fun i hi hne => (k.block i (Nat.lt_of_lt_of_le hi h.size) hne).trans (h.block i hi hne)⟩
theorem grown_drew {a b : World} {row : Option Nat} (h : a.grownBy b row) : a.grownBy b.drew row := ⟨h.os, h.tape, h.output, h.size, h.block⟩
/-- Below a row of the call's own nothing has changed. -/
theorem grown_below {w w' : World} {row : Option Nat} {B : Nat} (h : w.grownBy w' row) (hB : B ≤ w.heap.size) (hr : ∀ k, row = some k → B ≤ k) : Below B w w' := (Below.refl B w).grown h hB hr

theorem marked_succ {l : List Int} {q : Int} {k : Nat} (h : k < l.length) : (ints (marked l q k)).set k (.int .i64 (q + k)) = ints (marked l q (k + 1)) := by
  unfold ints marked
  rw [← List.map_set, List.set_append_right _ _ (by rw [len_seq]; omega), len_seq, Nat.sub_self, List.drop_eq_getElem_cons h]
  simp only [List.map_append, List.map_cons, List.set_cons_zero, seqFrom, List.append_assoc, List.cons_append, List.nil_append]
theorem marked_len {l : List Int} {q : Int} {k : Nat} (h : k ≤ l.length) : (marked l q k).length = l.length := by simp [marked, len_seq]; omega
theorem marked_all {l : List Int} {q : Int} {n : Nat} (h : l.length = n) : marked l q n = seqFrom q n := by unfold marked; rw [List.drop_of_length_le (by omega)]; simp

/-- The call gives this number, and its slice reads as the marks. -/
def MarksInts (w : World) (base : Nat) (v : Value) (n : Nat) (q : Int) (e : Ending) (w' : World) : Prop :=
  e = .returned (.int .i64 (q + n)) ∧ w'.ownsRow base 3 1 v n (ints (seqFrom q n)) ∧ w.grownBy w' v.ownBlock

/-- The call gives this number, and has written into one block alone. -/
def MarksTms (w : World) (_base : Nat) (v : Value) (n : Nat) (q : Int) (e : Ending) (w' : World) : Prop :=
  e = .returned (.int .i64 (q + 4 * n)) ∧ w.grownBy w' v.ownBlock

theorem ne_of_ranges {v r : Option Nat} {a b c d : Nat} (h1 : ∀ k, v = some k → a ≤ k ∧ k < b) (h2 : ∀ k, r = some k → c ≤ k ∧ k < d) (h : b ≤ c ∨ d ≤ a) : v = none ∨ v ≠ r := by
  cases v with
  | none => exact .inl rfl
  | some k =>
    refine .inr fun e => ?_
    have x := h1 k rfl
    have y := h2 k e.symm
    omega

theorem kinds_len (l : List Tm) (vars : Int) : (kindsOf l vars).length ≤ 40 := by
  unfold kindsOf
  split
  · rename_i h
    cases hk : kindsTo l vars l.length with
    | none => simp
    | some ks => simp [sizesOk] at h; simp [kindsTo_len hk]; omega
  · simp
end Go.Proofs.YthlkbkomecnbaaaDoor
