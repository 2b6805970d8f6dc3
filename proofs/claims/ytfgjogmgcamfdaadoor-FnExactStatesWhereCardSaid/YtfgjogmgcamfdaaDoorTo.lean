/- Copies of nested data, made element by element. -/
import Derived.Test.YtfgjogmgcamfdaaDoorLaw3
import Derived.Test.YtfgjogmgcamfdaaDoorSy
namespace Go.Proofs.YtfgjogmgcamfdaaDoor
open Go.RowKit

/-- The cells of a copy, k numbers of which are made. -/
def copiedI (l : List Int) (n k : Nat) : List Value := ints (l.take k) ++ List.replicate (n - k) (.int .i64 0)
theorem copiedI_room {l : List Int} {n k : Nat} (h : k < n) : copiedI l n k = ints (l.take k) ++ (.int .i64 0 :: List.replicate (n - (k + 1)) (.int .i64 0)) := by
  unfold copiedI
  rw [show n - k = 1 + (n - (k + 1)) by omega, ← List.replicate_append_replicate]; rfl
theorem lenI_take {l : List Int} {n k : Nat} (hl : l.length = n) (h : k < n) : (ints (l.take k)).length = k := by rw [len_ints, List.length_take]; omega
theorem copiedI_at {l : List Int} {n k : Nat} (hl : l.length = n) (h : k < n) : (copiedI l n k)[k]? = some (.int .i64 0) := by
  rw [copiedI_room h, List.getElem?_append_right (by rw [lenI_take hl h]; omega), lenI_take hl h, Nat.sub_self]; rfl
theorem copiedI_succ {l : List Int} {n k : Nat} (hl : l.length = n) (h : k < n) : (copiedI l n k).set k (.int .i64 (ix l k)) = copiedI l n (k + 1) := by
  have e := lenI_take hl h
  rw [copiedI_room h, List.set_append_right _ _ (by omega), e, Nat.sub_self]
  show _ = ints (l.take (k + 1)) ++ List.replicate (n - (k + 1)) (.int .i64 0)
  rw [List.take_succ_eq_append_getElem (show k < l.length by omega), ix_lt (by omega)]
  simp only [ints, List.map_append, List.map_cons, List.map_nil, List.append_assoc, List.cons_append, List.nil_append, List.set_cons_zero]
theorem copiedI_all {l : List Int} {n : Nat} (hl : l.length = n) : copiedI l n n = ints l := by unfold copiedI; rw [Nat.sub_self, List.take_of_length_le (by omega)]; simp
theorem copiedI_none (l : List Int) (n : Nat) : (madeCells (Value.int .i64 0).cells (n * 1)).toList = copiedI l n 0 := by
  rw [Nat.mul_one]
  exact (toList_madeCells_one _ _).trans (by simp [copiedI, ints])

set_option maxHeartbeats 1000000 in
theorem toIntS_any (A : Option Addr) (n c : Nat) (l : List Int) (w : World) (h : Rd w w.heap.size 1 A n (ints l)) (hn : n ≤ 1048576) :
    Calls Tryd.prog 22 #[.slice A n c] w (GivesInts w l) := by
  go_enter Tryd.func22, Tryd.ntmps22
  go_wp2_with (first | (at_make; refine wpList_make_full _ rfl _ _ 29 rfl w.heap.size 3 intRow _ 1 Tryd.underlying29 int_row.1 int_row.2.1 int_row.2.2.1 _ _ _ _ n rfl rfl rfl rfl (by rw [int_row.2.2.2]; omega) (by unfold maxLen; omega) (Nat.le_refl _) ?_; intro w1 hown hg))
  have hbw := (Below.refl w.heap.size w).grown hg (Nat.le_refl _) (by simp)
  have hblk := (Blk.of_own hown).1
  rw [copiedI_none l n] at hblk
  clear hg hown
  go_loopg [4] n (fun m i wr => ∃ k : Nat, k + m = n ∧ i = .int .i64 k ∧ Blk wr w.heap.size 3 (copiedI l n k) ∧ Below w.heap.size w wr)
  case atStart => exact ⟨0, by omega, rfl, hblk, hbw⟩
  case round =>
    clear hblk hbw
    obtain ⟨k, hk, rfl, hblk, hb⟩ := hrel
    by_cases hlt : k < n
    · obtain ⟨ad, rfl, _, h0⟩ := (h.below hb).int hlt
      have hl := Lib.hid h.len
      have f0 := hblk.frozen k
      have c0 := (hblk.cell k).trans (copiedI_at hl.out hlt)
      go_wp2
      go_roundg (n - (k + 1))
      case measure => omega
      case rel =>
        refine ⟨k + 1, by omega, by go_num, ?_, hb.setCell (Nat.le_refl _) _⟩
        rw [← copiedI_succ hl.out hlt]
        exact hblk.set _ _
    · obtain rfl : k = n := by omega
      go_wp2
      go_ret
      refine ⟨_, rfl, ?_, hb⟩
      rw [copiedI_all h.len] at hblk
      rw [h.len]
      exact hblk.own (Nat.le_refl _) (by unfold maxLen; omega) (by rw [len_ints, h.len]; omega)
end Go.Proofs.YtfgjogmgcamfdaaDoor
namespace Go.Proofs.YtfgjogmgcamfdaaDoor
open Go.RowKit

theorem bcell {W w1 : World} (hb : Below W.heap.size W w1) : (∀ b o, b < W.heap.size → w1.cell? ⟨b, o, none⟩ = W.cell? ⟨b, o, none⟩) ∧ (∀ b o, b < W.heap.size → w1.frozen? ⟨b, o, none⟩ = W.frozen? ⟨b, o, none⟩) :=
  ⟨fun b o h => hb.cell (p := ⟨b, o, none⟩) h, fun b o h => hb.frozen (p := ⟨b, o, none⟩) h⟩

section
variable {α : Type} [Mem α]
/-- A slice of n elements, k of which are made. -/
def MadeL (w : World) (g : Nat) (t : TypeId) (z : List Value) (n k : Nat) (l : List α) : Prop :=
  ∃ ecs fps, Blk w g t (cat ecs k ++ cat (fun _ => z) (n - k)) ∧ (∀ i, i < k → Mem.own w (fps i) (ecs i) (el l i)) ∧ (cat fps k).Nodup ∧ ∀ b ∈ cat fps k, g < b
/-- The call gives a new slice that is its own. -/
def GivesL (w : World) (l : List α) (e : Ending) (w' : World) : Prop :=
  ∃ A n c fp, e = .returned (.slice A n c) ∧ Mem.own w' fp [.slice A n c] l ∧ fp.Nodup ∧ (∀ b ∈ fp, w.heap.size ≤ b) ∧ Below w.heap.size w w'

theorem cat_front {β : Type} (z : List β) (n : Nat) : cat (fun _ => z) (n + 1) = z ++ cat (fun _ => z) n := by
  unfold cat; rw [List.range_succ_eq_map, List.flatMap_cons, List.flatMap_map]
theorem made_cat (z : Array Value) (n : Nat) : (madeCells z (n * z.size)).toList = cat (fun _ => z.toList) n := by
  have hl : (cat (fun _ => z.toList) n).length = n * z.size := cat_len fun _ _ => by simp
  refine List.ext_getElem? fun i => ?_
  by_cases hi : i < n * z.size
  · have hs : 0 < z.size := by
      rcases Nat.eq_zero_or_pos z.size with h0 | h0
      · rw [h0] at hi; omega
      · exact h0
    have hk : i / z.size < n := (Nat.div_lt_iff_lt_mul hs).2 hi
    have hr := Nat.mod_lt i hs
    have hd : i / z.size * z.size + i % z.size = i := by rw [Nat.mul_comm]; exact Nat.div_add_mod _ _
    have h2 := cat_at (f := fun _ : Nat => z.toList) (s := z.size) (n := n) (fun _ _ => by simp) hk hr
    rw [hd] at h2
    rw [h2, Array.getElem?_toList]
    unfold madeCells
    rw [Array.getElem?_map, Array.getElem?_range, if_pos hi]
    simp [hr, Array.getElem!_eq_getD, Array.getD]
  · rw [List.getElem?_eq_none (by rw [Array.length_toList, size_madeCells]; omega), List.getElem?_eq_none (by omega)]
theorem set_one {X Y : List Value} {m : Nat} (h : X.length = m) (a a' : Value) : (X ++ ([a] ++ Y)).set m a' = X ++ ([a'] ++ Y) := by
  subst h; rw [List.set_append_right _ _ (Nat.le_refl _), Nat.sub_self]; rfl
theorem set_three {X Y : List Value} {m : Nat} (h : X.length = m) (a b c a' b' c' : Value) : (((X ++ ([a, b, c] ++ Y)).set m a').set (m + 1) b').set (m + 2) c' = X ++ ([a', b', c'] ++ Y) := by
  subst h
  rw [List.set_append_right _ _ (by omega), Nat.sub_self, List.set_append_right _ _ (by omega), show X.length + 1 - X.length = 1 by omega, List.set_append_right _ _ (by omega), show X.length + 2 - X.length = 2 by omega]
  rfl
theorem setCell_heap (w : World) (p : Addr) (u : Value) {b : Nat} (h : b ≠ p.block) : (w.setCell p u).heap[b]? = w.heap[b]? := by
  simp [World.setCell, Array.getElem?_modify]
  intro e; exact absurd e.symm h
/-- f, but x at k. -/
def upd {β : Type} (f : Nat → β) (k : Nat) (x : β) : Nat → β := fun i => if i = k then x else f i
theorem upd_at {β : Type} (f : Nat → β) (k : Nat) (x : β) : upd f k x k = x := by simp [upd]
theorem upd_ne {β : Type} (f : Nat → β) {k i : Nat} (x : β) (h : i < k) : upd f k x i = f i := by simp [upd, show i ≠ k by omega]
theorem cat_upd {β : Type} (f : Nat → List β) (k : Nat) (x : List β) : cat (upd f k x) (k + 1) = cat f k ++ x := by
  rw [cat_succ, upd_at, cat_congr fun i hi => upd_ne f x hi]

variable {w w2 w3 : World} {g n k : Nat} {t : TypeId} {z : List Value} {l : List α}
theorem MadeL.zero (h : Blk w g t (cat (fun _ => z) n)) : MadeL w g t z n 0 l :=
  ⟨fun _ => [], fun _ => [], by simpa [cat_zero] using h, fun i hi => absurd hi (by omega), by simp [cat], by simp [cat]⟩
/-- The room for the next element, and what stands behind it. -/
theorem MadeL.room (h : MadeL w g t z n k l) (hk : k < n) : ∃ X Y, Blk w g t (X ++ (z ++ Y)) ∧ X.length = k * Mem.size α ∧
    ∀ cs fp w2 w3, Below w.heap.size w w2 → Mem.own w2 fp cs (el l k) → fp.Nodup → (∀ b ∈ fp, w.heap.size ≤ b) → Blk w3 g t (X ++ (cs ++ Y)) → (∀ b, b ≠ g → w3.heap[b]? = w2.heap[b]?) → MadeL w3 g t z n (k + 1) l := by
  obtain ⟨ecs, fps, hb, ho, hn, hg⟩ := h
  rw [show n - k = (n - (k + 1)) + 1 by omega, cat_front] at hb
  refine ⟨cat ecs k, cat (fun _ => z) (n - (k + 1)), hb, cat_len fun i hi => Mem.rd_len (Mem.own_rd (ho i hi)), fun cs fp w2 w3 b2 o2 nd lo hb3 hkeep => ?_⟩
  refine ⟨upd ecs k cs, upd fps k fp, ?_, fun i hi => ?_, ?_, ?_⟩
  · rw [cat_upd, List.append_assoc]; exact hb3
  · by_cases e : i = k
    · subst e; rw [upd_at, upd_at]; exact Mem.own_keep o2 fun b hm => hkeep b (by have := lo b hm; have := hb.lt; omega)
    · rw [upd_ne _ _ (by omega), upd_ne _ _ (by omega)]
      have o1 := ho i (by omega)
      refine Mem.own_keep (Mem.own_below o1 b2) fun b hm => hkeep b ?_
      have := hg b (mem_cat.2 ⟨i, by omega, hm⟩); omega
  · rw [cat_upd, List.nodup_append]
    refine ⟨hn, nd, fun a ha b hb' e => ?_⟩
    subst e
    obtain ⟨i, hi, hm⟩ := mem_cat.1 ha
    have := Mem.own_lt (ho i hi) a hm
    have := lo a hb'
    omega
  · rw [cat_upd]
    intro b hm
    rcases List.mem_append.1 hm with hm | hm
    · exact hg b hm
    · have := lo b hm; have := hb.lt; omega
theorem MadeL.all (h : MadeL w g t z n n l) (hl : l.length = n) (hm : n ≤ maxLen) : ∃ fp, Mem.own w fp [.slice (some ⟨g, 0, none⟩) n n] l ∧ fp.Nodup ∧ ∀ b ∈ fp, g ≤ b := by
  obtain ⟨ecs, fps, hb, ho, hn, hg⟩ := h
  rw [Nat.sub_self, cat_zero, List.append_nil] at hb
  refine ⟨g :: cat fps n, ⟨_, n, n, rfl, hm, hl, .inr ⟨g, t, ecs, fps, rfl, hb.own (Nat.zero_le _) hm (cat_len fun i hi => Mem.rd_len (Mem.own_rd (ho i hi))), rfl, ho⟩⟩, List.nodup_cons.2 ⟨fun hm => by have := hg g hm; omega, hn⟩, fun b hm => ?_⟩
  rcases List.mem_cons.1 hm with rfl | hm
  · exact Nat.le_refl _
  · have := hg b hm; omega
end
end Go.Proofs.YtfgjogmgcamfdaaDoor
