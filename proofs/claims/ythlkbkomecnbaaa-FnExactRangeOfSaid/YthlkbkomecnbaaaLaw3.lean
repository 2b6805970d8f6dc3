/- The exact laws' helpers over lists of int, and the marks that they write. -/
import Derived.Test.YthlkbkomecnbaaaKinds
import Derived.Deep.LoopGhost
import Derived.Deep.RegionHeld3
namespace Go.Proofs.Ythlkbkomecnbaaa
open Go.RowKit

/-- szTermS: what is left of the room. -/
theorem szTermS_any (A : Option Addr) (n c : Nat) (left : Int) (hn : n ≤ maxLen) (h0 : 0 ≤ left) (h1 : left ≤ 1048576) (w : World) :
    Calls Try.prog 36 #[.slice A n c, .int .i64 left] w fun e w' => e = .returned (.int .i64 (if left < n then -1 else left - n)) ∧ w = w' := by
  unfold maxLen at hn
  by_cases h : left < n
  · rw [if_pos h]
    go_enter Try.func36, Try.ntmps36
    go_wp2
    go_ret
    exact ⟨rfl, rfl⟩
  · rw [if_neg h]
    go_enter Try.func36, Try.ntmps36
    go_wp2
    go_ret
    exact ⟨rfl, rfl⟩

theorem toTerm_any (t : Tm) (w : World) : Calls Try.prog 84 #[t.v] w fun e w' => e = .returned t.v ∧ Below w.heap.size w w' := by
  obtain ⟨op, n, a, b⟩ := t
  show Calls _ _ #[.agg #[.int .i64 op, .int .i64 n, .int .i64 a, .int .i64 b]] w _
  go_enter Try.func84, Try.ntmps84
  go_wp2
  exact bodyPost_ret (v := .agg #[.int .i64 op, .int .i64 n, .int .i64 a, .int .i64 b]) (by simp [results, Try.results84, go_sem]) rfl ⟨rfl, ((((Below.refl _ _).alloc (Nat.le_refl _) _).alloc (by simp) _).alloc (by simp; omega) _)⟩

/-- Whether two terms are equal. -/
def Tm.eq (t u : Tm) : Bool := t.op == u.op && (t.n == u.n && (t.a == u.a && t.b == u.b))

set_option maxHeartbeats 1000000 in
theorem eqTerm_any (t u : Tm) (w : World) : Calls Try.prog 88 #[t.v, u.v] w fun e w' => e = .returned (.bool (t.eq u)) ∧ Below w.heap.size w w' := by
  obtain ⟨op, n, a, b⟩ := t
  obtain ⟨op', n', a', b'⟩ := u
  unfold Tm.eq
  dsimp only
  show Calls _ _ #[.agg #[.int .i64 op, .int .i64 n, .int .i64 a, .int .i64 b], .agg #[.int .i64 op', .int .i64 n', .int .i64 a', .int .i64 b']] w _
  cases g1 : op == op' <;> cases g2 : n == n' <;> cases g3 : a == a' <;> cases g4 : b == b'
  all_goals
    first | have g1' := bne_f g1 | have g1' := bne_t g1
    first | have g2' := bne_f g2 | have g2' := bne_t g2
    first | have g3' := bne_f g3 | have g3' := bne_t g3
    first | have g4' := bne_f g4 | have g4' := bne_t g4
    go_enter Try.func88, Try.ntmps88
    go_wp2
    go_ret
    exact ⟨rfl, ((Below.refl _ _).alloc (Nat.le_refl _) _).alloc (by simp) _⟩

theorem tm_info : (Try.prog.info? 102).map (fun i => (i.zero, i.size, i.bytes)) = some (some (.agg #[.int .i64 0, .int .i64 0, .int .i64 0, .int .i64 0]), 4, 32) := by kernel_rfl
/-- A term's row of the table of types, under a name. -/
noncomputable def tmRow : TypeInfo := Classical.choose (info_parts tm_info) -- 102
theorem tm_row : Try.prog.info? 102 = some tmRow ∧ tmRow.zero = some (.agg #[.int .i64 0, .int .i64 0, .int .i64 0, .int .i64 0]) ∧ tmRow.size = 4 ∧ tmRow.bytes = 32 := Classical.choose_spec (info_parts tm_info)

/-- A block that is known whole. -/
def Blk (w : World) (g : Nat) (t : TypeId) (cs : List Value) : Prop := w.heap[g]? = some (.cells cs.toArray t (0, 0))
section
variable {w w' : World} {g : Nat} {t : TypeId} {cs : List Value}
theorem Blk.lt (h : Blk w g t cs) : g < w.heap.size := (Array.getElem?_eq_some_iff.1 h).1
theorem Blk.cell (h : Blk w g t cs) (i : Nat) : w.cell? ⟨g, i, none⟩ = cs[i]? := by rw [cell_of_row w g i cs.toArray t (0, 0) h]; simp
theorem Blk.frozen (h : Blk w g t cs) (i : Nat) : w.frozen? ⟨g, i, none⟩ = false := by unfold Blk at h; simp [World.frozen?, h]
theorem Blk.alloc (h : Blk w g t cs) (o : Obj) : Blk (w.alloc o) g t cs := (Below.heap_alloc w o g h.lt).trans h
theorem Blk.below {B : Nat} (h : Blk w g t cs) (hb : Below B w w') (hg : g < B) : Blk w' g t cs := (hb.block g hg).trans h
theorem Blk.set (h : Blk w g t cs) (i : Nat) (u : Value) : Blk (w.setCell ⟨g, i, none⟩ u) g t (cs.set i u) := by
  unfold Blk at h ⊢
  simp [World.setCell, Array.getElem?_modify, h]
theorem Blk.own (h : Blk w g t cs) {base size n : Nat} (hb : base ≤ g) (hn : n ≤ maxLen) (hs : cs.length = n * size) : w.ownsRow base t size (.slice (some ⟨g, 0, none⟩) n n) n cs :=
  ⟨hs, .inr ⟨g, n, cs.toArray, rfl, hb, h, Nat.le_refl _, hn, by simpa using hs, by simp [← hs]⟩⟩
theorem Blk.of_own {base size n : Nat} (h : w.ownsRow base t size (.slice (some ⟨g, 0, none⟩) n n) n cs) : Blk w g t cs ∧ base ≤ g := by
  rcases h.2 with ⟨h', _⟩ | ⟨g', cap, cur, hv, hb, hg, _, _, hs, ht⟩
  · simp at h'
  · injection hv with h1 h2 h3
    injection h1 with h1
    injection h1 with h1 _ _
    subst h1; subst h3
    refine ⟨?_, hb⟩
    unfold Blk
    rw [hg, ← ht, List.take_of_length_le (by simp [hs])]
end

/-- The cells of a copy, k terms of which are made. -/
def copied (l : List Tm) (n k : Nat) : List Value := tms (l.take k) ++ List.replicate ((n - k) * 4) (.int .i64 0)

theorem tms_snoc {l : List Tm} {k : Nat} (h : k < l.length) : tms (l.take (k + 1)) = tms (l.take k) ++ (tx l k).cs := by
  rw [List.take_succ_eq_append_getElem h, tx_lt h]
  unfold tms
  rw [List.flatMap_append]
  simp
theorem copied_room {l : List Tm} {n k : Nat} (h : k < n) : copied l n k = tms (l.take k) ++ ([.int .i64 0, .int .i64 0, .int .i64 0, .int .i64 0] ++ List.replicate ((n - (k + 1)) * 4) (.int .i64 0)) := by
  unfold copied
  rw [show (n - k) * 4 = 4 + (n - (k + 1)) * 4 by omega, ← List.replicate_append_replicate]; rfl
theorem len_take {l : List Tm} {n k : Nat} (hl : l.length = n) (h : k < n) : (tms (l.take k)).length = k * 4 := by rw [len_tms, List.length_take]; omega
theorem copied_at {l : List Tm} {n k : Nat} (hl : l.length = n) (h : k < n) (j : Nat) (hj : j < 4) : (copied l n k)[k * 4 + j]? = some (.int .i64 0) := by
  rw [copied_room h, List.getElem?_append_right (by rw [len_take hl h]; omega), len_take hl h, show k * 4 + j - k * 4 = j by omega]
  rw [List.getElem?_append_left (by simpa using hj)]
  match j, hj with
  | 0, _ => rfl
  | 1, _ => rfl
  | 2, _ => rfl
  | 3, _ => rfl
theorem copied_succ {l : List Tm} {n k : Nat} (hl : l.length = n) (h : k < n) : ((((copied l n k).set (k * 4) (.int .i64 (tx l k).op)).set (k * 4 + 1) (.int .i64 (tx l k).n)).set (k * 4 + 2) (.int .i64 (tx l k).a)).set (k * 4 + 3) (.int .i64 (tx l k).b) = copied l n (k + 1) := by
  have e := len_take hl h
  rw [copied_room h]
  rw [List.set_append_right _ _ (by omega), e, Nat.sub_self]
  rw [List.set_append_right _ _ (by omega), e, show k * 4 + 1 - k * 4 = 1 by omega]
  rw [List.set_append_right _ _ (by omega), e, show k * 4 + 2 - k * 4 = 2 by omega]
  rw [List.set_append_right _ _ (by omega), e, show k * 4 + 3 - k * 4 = 3 by omega]
  show _ = tms (l.take (k + 1)) ++ List.replicate ((n - (k + 1)) * 4) (.int .i64 0)
  rw [tms_snoc (by omega), List.append_assoc]
  rfl
theorem copied_all {l : List Tm} {n : Nat} (hl : l.length = n) : copied l n n = tms l := by unfold copied; rw [Nat.sub_self, List.take_of_length_le (by omega)]; simp
theorem copied_none (l : List Tm) (n : Nat) : (madeCells (Value.agg #[.int .i64 0, .int .i64 0, .int .i64 0, .int .i64 0]).cells (n * 4)).toList = copied l n 0 := by
  unfold copied
  simp only [List.take_zero, Nat.sub_zero, tms, List.flatMap_nil, List.nil_append]
  refine List.ext_getElem? fun i => ?_
  have H : ∀ j, j < 4 → (#[Value.int IntKind.i64 0, .int .i64 0, .int .i64 0, .int .i64 0] : Array Value)[j]! = .int .i64 0 := by
    intro j hj
    match j, hj with
    | 0, _ => rfl
    | 1, _ => rfl
    | 2, _ => rfl
    | 3, _ => rfl
  by_cases hi : i < n * 4
  · rw [List.getElem?_replicate, if_pos hi, Array.getElem?_toList]
    unfold madeCells
    rw [Array.getElem?_map, Array.getElem?_range, if_pos hi]
    exact congrArg some (H (i % 4) (Nat.mod_lt _ (by omega)))
  · rw [List.getElem?_eq_none (by rw [Array.length_toList, size_madeCells]; omega), List.getElem?_eq_none (by rw [List.length_replicate]; omega)]

/-- The call gives a new slice of these terms. -/
def GivesTms (w : World) (l : List Tm) (e : Ending) (w' : World) : Prop := ∃ v, e = .returned v ∧ w'.ownsRow w.heap.size 102 4 v l.length (tms l) ∧ Below w.heap.size w w'

set_option maxHeartbeats 1000000 in
theorem toTermS_any (A : Option Addr) (n c : Nat) (l : List Tm) (w : World) (h : Rd w w.heap.size 4 A n (tms l)) (hn : n ≤ 1048576) :
    Calls Try.prog 38 #[.slice A n c] w (GivesTms w l) := by
  go_enter Try.func38, Try.ntmps38
  go_wp2_with (first | (at_make; refine wpList_make_full _ rfl _ _ 60 rfl w.heap.size 102 tmRow _ 4 Try.underlying60 tm_row.1 tm_row.2.1 tm_row.2.2.1 _ _ _ _ n rfl rfl rfl rfl (by rw [tm_row.2.2.2]; omega) (by unfold maxLen; omega) (Nat.le_refl _) ?_; intro w1 hown hg))
  have hbw := (Below.refl w.heap.size w).grown hg (Nat.le_refl _) (by simp)
  have hblk := (Blk.of_own hown).1
  have e0 : (madeCells (Value.agg #[.int .i64 0, .int .i64 0, .int .i64 0, .int .i64 0]).cells (n * 4)).toList = copied l n 0 := copied_none l n
  rw [e0] at hblk
  clear hg hown e0
  go_loopg [4] n (fun m i wr => ∃ k : Nat, k + m = n ∧ i = .int .i64 k ∧ Blk wr w.heap.size 102 (copied l n k) ∧ Below w.heap.size w wr)
  case atStart => exact ⟨0, by omega, rfl, hblk, hbw⟩
  case round =>
    clear hblk hbw
    obtain ⟨k, hk, rfl, hblk, hb⟩ := hrel
    by_cases hlt : k < n
    · obtain ⟨ad, rfl, _, h0, h1, h2, h3⟩ := (h.below hb).tm hlt
      have hl := Lib.hid h.tlen
      go_wp2_with (first | (go_at_call 84; refine (toTerm_any (tx l k) _).mono ?_; rintro e w2 ⟨rfl, hb2⟩; unfold Tm.v
                            have HK := Lib.hid (hblk.below hb2 hblk.lt)
                            have f0 := HK.out.frozen (k * 4)
                            have f1 := HK.out.frozen (k * 4 + 1)
                            have f2 := HK.out.frozen (k * 4 + 2)
                            have f3 := HK.out.frozen (k * 4 + 3)
                            have c0 := (HK.out.cell (k * 4)).trans (copied_at hl.out hlt 0 (by omega))
                            have c1 := (HK.out.cell (k * 4 + 1)).trans (copied_at hl.out hlt 1 (by omega))
                            have c2 := (HK.out.cell (k * 4 + 2)).trans (copied_at hl.out hlt 2 (by omega))
                            have c3 := (HK.out.cell (k * 4 + 3)).trans (copied_at hl.out hlt 3 (by omega))))
      go_roundg (n - (k + 1))
      case measure => omega
      case rel =>
        refine ⟨k + 1, by omega, by go_num, ?_, ?_⟩
        · rw [← copied_succ hl.out hlt]
          exact (((HK.out.set _ _).set _ _).set _ _).set _ _
        · exact ((((hb.trans (hb2.mono hb.size)).setCell (Nat.le_refl _) _).setCell (Nat.le_refl _) _).setCell (Nat.le_refl _) _).setCell (Nat.le_refl _) _
    · obtain rfl : k = n := by omega
      go_wp2
      go_ret
      refine ⟨_, rfl, ?_, hb⟩
      rw [copied_all h.tlen] at hblk
      rw [h.tlen]
      exact hblk.own (Nat.le_refl _) (by unfold maxLen; omega) h.1
end Go.Proofs.Ythlkbkomecnbaaa
namespace Go.Proofs.Ythlkbkomecnbaaa
open Go.RowKit

theorem cell_below {w w' : World} {B : Nat} {p : Addr} {v : Value} (hb : Below B w w') (hp : p.block < B) (h : w.cell? p = some v) : w'.cell? p = some v := (hb.cell hp).trans h
/-- The four cells of a term stay. -/
theorem four_below {w w' : World} {a : Addr} {m : Nat} {v0 v1 v2 v3 : Value} (hb : Below w.heap.size w w') (ha : a.block < w.heap.size) (h0 : w.cell? (a.add m) = some v0) (h1 : w.cell? ⟨(a.add m).block, (a.add m).off + 1, none⟩ = some v1)
    (h2 : w.cell? ⟨(a.add m).block, (a.add m).off + 2, none⟩ = some v2) (h3 : w.cell? ⟨(a.add m).block, (a.add m).off + 3, none⟩ = some v3) :
    w'.cell? (a.add m) = some v0 ∧ w'.cell? ⟨(a.add m).block, (a.add m).off + 1, none⟩ = some v1 ∧ w'.cell? ⟨(a.add m).block, (a.add m).off + 2, none⟩ = some v2 ∧ w'.cell? ⟨(a.add m).block, (a.add m).off + 3, none⟩ = some v3 := by
  have e : (a.add m).block < w.heap.size := by rw [add_block]; exact ha
  exact ⟨cell_below hb e h0, cell_below hb e h1, cell_below hb e h2, cell_below hb e h3⟩
theorem Tm.eq_self (t : Tm) : t.eq t = true := by simp [Tm.eq]
theorem eqTerm_same (t : Tm) (w : World) : Calls Try.prog 88 #[.agg #[.int .i64 t.op, .int .i64 t.n, .int .i64 t.a, .int .i64 t.b], .agg #[.int .i64 t.op, .int .i64 t.n, .int .i64 t.a, .int .i64 t.b]] w (GivesBool w true) := by
  have h := eqTerm_any t t w
  rw [t.eq_self] at h
  exact h

set_option maxHeartbeats 1000000 in
theorem eqTermS_same (A A' : Option Addr) (n c c' : Nat) (l : List Tm) (w : World) (h : Rd w w.heap.size 4 A n (tms l)) (h' : Rd w w.heap.size 4 A' n (tms l)) (hn : n ≤ 1048576) :
    Calls Try.prog 40 #[.slice A n c, .slice A' n c'] w (GivesBool w true) := by
  go_enter Try.func40, Try.ntmps40
  go_wp2
  go_loopg [5] n (fun m i wr => ∃ k : Nat, k + m = n ∧ i = .int .i64 k ∧ Below w.heap.size w wr)
  case atStart => exact ⟨0, by omega, rfl, Below.refl _ _⟩
  case round =>
    obtain ⟨k, hk, rfl, hb⟩ := hrel
    by_cases hlt : k < n
    · obtain ⟨ad, rfl, b1, h0, h1, h2, h3⟩ := (h.below hb).tm hlt
      obtain ⟨ad', rfl, b2, i0, i1, i2, i3⟩ := (h'.below hb).tm hlt
      go_wp2
      go_region_held3 (fun w' => w'.cell? (ad.add (k * 4)) = some (.int .i64 (tx l k).op) ∧ w'.cell? ⟨(ad.add (k * 4)).block, (ad.add (k * 4)).off + 1, none⟩ = some (.int .i64 (tx l k).n) ∧ w'.cell? ⟨(ad.add (k * 4)).block, (ad.add (k * 4)).off + 2, none⟩ = some (.int .i64 (tx l k).a) ∧ w'.cell? ⟨(ad.add (k * 4)).block, (ad.add (k * 4)).off + 3, none⟩ = some (.int .i64 (tx l k).b) ∧
          w'.cell? (ad'.add (k * 4)) = some (.int .i64 (tx l k).op) ∧ w'.cell? ⟨(ad'.add (k * 4)).block, (ad'.add (k * 4)).off + 1, none⟩ = some (.int .i64 (tx l k).n) ∧ w'.cell? ⟨(ad'.add (k * 4)).block, (ad'.add (k * 4)).off + 2, none⟩ = some (.int .i64 (tx l k).a) ∧ w'.cell? ⟨(ad'.add (k * 4)).block, (ad'.add (k * 4)).off + 3, none⟩ = some (.int .i64 (tx l k).b))
        (go_keep) ((go_at_call 88; refine (eqTerm_same (tx l k) _).mono ?_; rintro e w2 ⟨rfl, hb2⟩; obtain ⟨p0, p1, p2, p3⟩ := four_below hb2 (Nat.lt_of_lt_of_le b1 hb.size) h0 h1 h2 h3; obtain ⟨q0, q1, q2, q3⟩ := four_below hb2 (Nat.lt_of_lt_of_le b2 hb.size) i0 i1 i2 i3))
      all_goals
        go_wp2
        go_roundg (n - (k + 1))
        case measure => omega
        case rel => exact ⟨k + 1, by omega, by go_num, hb.trans (Below.mono (B' := w.heap.size) ⟨hb2.os, hb2.tape, hb2.output, hb2.size, hb2.block⟩ hb.size)⟩
    · obtain rfl : k = n := by omega
      go_wp2
      go_ret
      exact ⟨rfl, hb⟩
end Go.Proofs.Ythlkbkomecnbaaa
namespace Go.Proofs.Ythlkbkomecnbaaa
open Go.RowKit

set_option maxHeartbeats 1000000 in
theorem eqIntS_same (A A' : Option Addr) (n c c' : Nat) (l : List Int) (w : World) (h : Rd w w.heap.size 1 A n (ints l)) (h' : Rd w w.heap.size 1 A' n (ints l)) (hn : n ≤ maxLen) :
    Calls Try.prog 14 #[.slice A n c, .slice A' n c'] w (GivesBool w true) := by
  unfold maxLen at hn
  go_enter Try.func14, Try.ntmps14
  go_wp2
  go_loopg [5] n (fun m i wr => ∃ k : Nat, k + m = n ∧ i = .int .i64 k ∧ Below w.heap.size w wr)
  case atStart => exact ⟨0, by omega, rfl, Below.refl _ _⟩
  case round =>
    obtain ⟨k, hk, rfl, hb⟩ := hrel
    by_cases hlt : k < n
    · obtain ⟨ad, rfl, b1, h0⟩ := (h.below hb).int hlt
      obtain ⟨ad', rfl, b2, i0⟩ := (h'.below hb).int hlt
      have e1 : (ix l k != ix l k) = false := by simp
      go_wp2
      go_quiet (fail)
      go_wp2
      go_roundg (n - (k + 1))
      case measure => omega
      case rel => exact ⟨k + 1, by omega, by go_num, hb.trans ⟨rfl, rfl, rfl, Nat.le_refl _, fun _ _ => rfl⟩⟩
    · obtain rfl : k = n := by omega
      go_wp2
      go_ret
      exact ⟨rfl, hb⟩

/-- The numbers from k on. -/
def seqFrom (k : Int) : Nat → List Int
  | 0 => []
  | n + 1 => seqFrom k n ++ [k + n]
theorem len_seq (k : Int) : ∀ n, (seqFrom k n).length = n
  | 0 => rfl
  | n + 1 => by simp [seqFrom, len_seq k n]
theorem ix_seq (k : Int) : ∀ {n j : Nat}, j < n → ix (seqFrom k n) j = k + j
  | n + 1, j, h => by
    unfold ix seqFrom
    by_cases e : j < n
    · rw [List.getElem?_append_left (by rw [len_seq]; exact e)]
      exact ix_seq k e
    · have : j = n := by omega
      subst this
      rw [List.getElem?_append_right (by rw [len_seq]; omega), len_seq]; simp

/-- The call gives this number; nothing has changed. -/
def SameInt (w : World) (x : Int) (e : Ending) (w' : World) : Prop := e = .returned (.int .i64 x) ∧ Below w.heap.size w w'

set_option maxHeartbeats 1000000 in
theorem heldIntS_any (A : Option Addr) (n c : Nat) (q : Int) (w : World) (h : Rd w w.heap.size 1 A n (ints (seqFrom q n))) (hq : 0 ≤ q) (hq' : q ≤ 1000000000000) (hn : n ≤ 1000000000000) :
    Calls Try.prog 23 #[.slice A n c, .int .i64 q] w (GivesInt w (q + n)) := by
  go_enter Try.func23, Try.ntmps23
  go_wp2
  go_loopg [1, 5] n (fun m j i wr => ∃ k : Nat, k + m = n ∧ i = .int .i64 k ∧ j = .int .i64 (q + k) ∧ Below w.heap.size w wr)
  case atStart => exact ⟨0, by omega, rfl, by simp, Below.refl _ _⟩
  case round =>
    obtain ⟨k, hk, rfl, rfl, hb⟩ := hrel
    by_cases hlt : k < n
    · obtain ⟨ad, rfl, b1, h0⟩ := (h.below hb).int hlt
      rw [ix_seq q hlt] at h0
      have e1 : (q + (k : Int) != q + k) = false := by simp
      go_wp2
      go_roundg (n - (k + 1))
      case measure => omega
      case rel => exact ⟨k + 1, by omega, by go_num, by go_num, hb⟩
    · obtain rfl : k = n := by omega
      go_wp2
      go_ret
      exact ⟨rfl, hb⟩

/-- The cells of a row, k of which are marked from q on. -/
def marked (l : List Int) (q : Int) (k : Nat) : List Int := seqFrom q k ++ l.drop k

/-- The call gives this number, and has written into one block alone. -/
def Marks (w : World) (x : Int) (row : Option Nat) (e : Ending) (w' : World) : Prop := e = .returned (.int .i64 x) ∧ w.grownBy w' row
theorem grown_trans {a b c : World} {row : Option Nat} (h : a.grownBy b row) (k : b.grownBy c row) : a.grownBy c row :=
  ⟨k.os.trans h.os, k.tape.trans h.tape, k.output.trans h.output, Nat.le_trans h.size k.size, fun i hi hne => (k.block i (Nat.lt_of_lt_of_le hi h.size) hne).trans (h.block i hi hne)⟩
theorem grown_drew {a b : World} {row : Option Nat} (h : a.grownBy b row) : a.grownBy b.drew row := ⟨h.os, h.tape, h.output, h.size, h.block⟩
/-- Below a row of the call's own nothing has changed. -/
theorem grown_below {w w' : World} {row : Option Nat} {B : Nat} (h : w.grownBy w' row) (hB : B ≤ w.heap.size) (hr : ∀ k, row = some k → B ≤ k) : Below B w w' := (Below.refl B w).grown h hB hr

theorem marked_succ {l : List Int} {q : Int} {k : Nat} (h : k < l.length) : (ints (marked l q k)).set k (.int .i64 (q + k)) = ints (marked l q (k + 1)) := by
  unfold ints marked
  rw [← List.map_set, List.set_append_right _ _ (by rw [len_seq]; omega), len_seq, Nat.sub_self, List.drop_eq_getElem_cons h]
  simp only [List.map_append, List.map_cons, List.set_cons_zero, seqFrom, List.append_assoc, List.cons_append, List.nil_append]
theorem marked_len {l : List Int} {q : Int} {k : Nat} (h : k ≤ l.length) : (marked l q k).length = l.length := by simp [marked, len_seq]; omega
theorem marked_all {l : List Int} {q : Int} {n : Nat} (h : l.length = n) : marked l q n = seqFrom q n := by unfold marked; rw [List.drop_of_length_le (by omega)]; simp

/-- The call gives this number, and its slice reads as the marks. -/
def MarksInts (w : World) (base : Nat) (v : Value) (n : Nat) (q : Int) (e : Ending) (w' : World) : Prop :=
  e = .returned (.int .i64 (q + n)) ∧ w'.ownsRow base 3 1 v n (ints (seqFrom q n)) ∧ w.grownBy w' v.ownBlock

set_option maxHeartbeats 1000000 in
theorem markIntS_any (base : Nat) (A : Option Addr) (n c : Nat) (l : List Int) (q : Int) (w : World) (hown : w.ownsRow base 3 1 (.slice A n c) n (ints l)) (hq : 0 ≤ q) (hq' : q ≤ 1000000000000) (hn : n ≤ 1000000000000) :
    Calls Try.prog 22 #[.slice A n c, .int .i64 q] w (MarksInts w base (.slice A n c) n q) := by
  have hl : l.length = n := by have := hown.1; rw [len_ints] at this; omega
  have hl := Lib.hid hl
  go_enter Try.func22, Try.ntmps22
  go_wp2
  go_loopg [1, 5] n (fun m j i wr => ∃ k : Nat, k + m = n ∧ i = .int .i64 k ∧ j = .int .i64 (q + k) ∧ wr.ownsRow base 3 1 (.slice A n c) n (ints (marked l q k)) ∧ w.grownBy wr (Value.slice A n c).ownBlock)
  case atStart => exact ⟨0, by omega, rfl, by simp, hown, World.grownBy.refl _ _⟩
  case round =>
    obtain ⟨k, hk, rfl, rfl, ho, hg⟩ := hrel
    clear hown
    by_cases hlt : k < n
    · rcases ho.2 with ⟨_, h0⟩ | ⟨g, cap, cur, hv, _⟩
      · omega
      injection hv with hA _ hc
      subst hA
      subst hc
      have f0 := ho.frozenAt k
      have c0 : wr.cell? ⟨g, k, none⟩ = some (.int .i64 (ix (marked l q k) k)) := by
        rw [ho.cellAt k (by omega)]
        have : k < (marked l q k).length := by rw [marked_len (by rw [hl.out]; omega), hl.out]; exact hlt
        unfold ints
        rw [List.getElem?_map, List.getElem?_eq_getElem this, ix_lt this]; rfl
      have hs := Lib.hid (ho.stored k (.int .i64 (q + k)))
      go_wp2
      go_roundg (n - (k + 1))
      case measure => omega
      case rel =>
        refine ⟨k + 1, by omega, by go_num, by go_num, ?_, grown_trans hg hs.out.2⟩
        rw [← marked_succ (by rw [hl.out]; exact hlt)]
        exact hs.out.1
    · obtain rfl : k = n := by omega
      go_wp2
      go_ret
      rw [marked_all hl.out] at ho
      exact ⟨rfl, ho, hg⟩

/-- The call gives this number, and has written into one block alone. -/
def MarksTms (w : World) (_base : Nat) (v : Value) (n : Nat) (q : Int) (e : Ending) (w' : World) : Prop :=
  e = .returned (.int .i64 (q + 4 * n)) ∧ w.grownBy w' v.ownBlock

theorem ne_of_ranges {v r : Option Nat} {a b c d : Nat} (h1 : ∀ k, v = some k → a ≤ k ∧ k < b) (h2 : ∀ k, r = some k → c ≤ k ∧ k < d) (h : b ≤ c ∨ d ≤ a) : v = none ∨ v ≠ r := by
  cases v with
  | none => exact .inl rfl
  | some k =>
    refine .inr fun e => ?_
    have x := h1 k rfl
    have y := h2 k e.symm
    omega

theorem kinds_len (l : List Tm) (vars : Int) : (kindsOf l vars).length ≤ 40 := by
  unfold kindsOf
  split
  · rename_i h
    cases hk : kindsTo l vars l.length with
    | none => simp
    | some ks => simp [sizesOk] at h; simp [kindsTo_len hk]; omega
  · simp
end Go.Proofs.Ythlkbkomecnbaaa
