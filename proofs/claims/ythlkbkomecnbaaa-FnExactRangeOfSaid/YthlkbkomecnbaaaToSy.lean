/- The exact laws' copies of systems. -/
import Derived.Test.YthlkbkomecnbaaaLaw3
namespace Go.Proofs.Ythlkbkomecnbaaa
open Go.RowKit

/-- Of the blocks that were there only those of a list have changed. -/
structure Only (fp : List Nat) (w w' : World) : Prop where
  os : w'.os = w.os
  tape : w'.tape = w.tape
  output : w'.output = w.output
  size : w.heap.size ≤ w'.heap.size
  block : ∀ k, k < w.heap.size → k ∉ fp → w'.heap[k]? = w.heap[k]?

section
variable {fp fq : List Nat} {w w' a b c : World} {B : Nat}
theorem Only.refl (fp : List Nat) (w : World) : Only fp w w := ⟨rfl, rfl, rfl, Nat.le_refl _, fun _ _ _ => rfl⟩
theorem Only.trans (h : Only fp a b) (k : Only fp b c) : Only fp a c :=
  ⟨k.os.trans h.os, k.tape.trans h.tape, k.output.trans h.output, Nat.le_trans h.size k.size, fun i hi hn => (k.block i (Nat.lt_of_lt_of_le hi h.size) hn).trans (h.block i hi hn)⟩
theorem Only.mono (h : Only fp a b) (s : ∀ k ∈ fp, k ∈ fq) : Only fq a b := ⟨h.os, h.tape, h.output, h.size, fun i hi hn => h.block i hi fun hk => hn (s i hk)⟩
theorem Only.of_below (h : Below w.heap.size w w') (fp : List Nat) : Only fp w w' := ⟨h.os, h.tape, h.output, h.size, fun i hi _ => h.block i hi⟩
theorem Only.of_grown {row : Option Nat} (h : w.grownBy w' row) (hr : ∀ k, row = some k → k ∈ fp) : Only fp w w' :=
  ⟨h.os, h.tape, h.output, h.size, fun i hi hn => h.block i hi fun e => hn (hr i e.symm)⟩
theorem Only.below (h : Only fp w w') (hB : B ≤ w.heap.size) (hf : ∀ k ∈ fp, B ≤ k) : Below B w w' :=
  ⟨h.os, h.tape, h.output, h.size, fun i hi => h.block i (by omega) fun hk => by have := hf i hk; omega⟩
end

/-- The element at a place of a list, under a name that the walk leaves alone. -/
def el {α : Type} [Inhabited α] (l : List α) (k : Nat) : α := l[k]?.getD default
theorem el_lt {α : Type} [Inhabited α] {l : List α} {k : Nat} (h : k < l.length) : el l k = l[k] := by simp [el, List.getElem?_eq_getElem h]
theorem el_mem {α : Type} [Inhabited α] {l : List α} {k : Nat} (h : k < l.length) : el l k ∈ l := by rw [el_lt h]; exact List.getElem_mem h
theorem take_el {α : Type} [Inhabited α] {l : List α} {k : Nat} (h : k < l.length) : l.take (k + 1) = l.take k ++ [el l k] := by rw [List.take_succ_eq_append_getElem h, el_lt h]

/-- What cells in memory stand for: 'rd' reads below a block, 'own' says which blocks are the datum's own. -/
class Mem (α : Type) extends Inhabited α where
  size : Nat
  rd : World → Nat → List Value → α → Prop
  own : World → List Nat → List Value → α → Prop
  rd_len : ∀ {w : World} {B : Nat} {cs : List Value} {a : α}, rd w B cs a → cs.length = size
  rd_keep : ∀ {w w' : World} {B : Nat} {cs : List Value} {a : α}, rd w B cs a → (∀ p : Addr, p.block < B → w'.cell? p = w.cell? p) → rd w' B cs a
  rd_more : ∀ {w : World} {B B' : Nat} {cs : List Value} {a : α}, rd w B cs a → B ≤ B' → rd w B' cs a
  own_rd : ∀ {w : World} {fp : List Nat} {cs : List Value} {a : α}, own w fp cs a → rd w w.heap.size cs a
  own_keep : ∀ {w w' : World} {fp : List Nat} {cs : List Value} {a : α}, own w fp cs a → (∀ b ∈ fp, w'.heap[b]? = w.heap[b]?) → own w' fp cs a
  own_lt : ∀ {w : World} {fp : List Nat} {cs : List Value} {a : α}, own w fp cs a → ∀ b ∈ fp, b < w.heap.size

section
variable {α : Type} [Mem α] {w w' : World} {B B' : Nat} {cs : List Value} {a : α} {fp fq : List Nat}
theorem Mem.rd_below (h : Mem.rd w B cs a) (hb : Below B w w') : Mem.rd w' B cs a := Mem.rd_keep h fun _ hp => hb.cell hp
theorem Mem.rd_alloc (h : Mem.rd w B cs a) (hB : B ≤ w.heap.size) (o : Obj) : Mem.rd (w.alloc o) B cs a := Mem.rd_keep h fun p hp => World.cell?_alloc_lt w o p (by omega)
theorem Mem.rd_drew (h : Mem.rd w B cs a) : Mem.rd w.drew B cs a := Mem.rd_keep h fun _ _ => rfl
/-- What was read at the heap's end is read behind a call. -/
theorem Mem.rd_on (h : Mem.rd w w.heap.size cs a) (hb : Below w.heap.size w w') : Mem.rd w' w'.heap.size cs a := Mem.rd_more (Mem.rd_below h hb) hb.size
theorem Mem.rd_on_alloc (h : Mem.rd w w.heap.size cs a) (o : Obj) : Mem.rd (w.alloc o) (w.alloc o).heap.size cs a := Mem.rd_on h (below_alloc w o)
theorem Mem.own_below (h : Mem.own w fp cs a) (hb : Below w.heap.size w w') : Mem.own w' fp cs a := Mem.own_keep h fun b hm => hb.block b (Mem.own_lt h b hm)
theorem Mem.own_only (h : Mem.own w fp cs a) (ho : Only fq w w') (hd : ∀ b ∈ fp, b ∉ fq) : Mem.own w' fp cs a := Mem.own_keep h fun b hm => ho.block b (Mem.own_lt h b hm) (hd b hm)
end

instance : Mem Int where
  size := 1
  rd _ _ cs a := cs = [.int .i64 a]
  own _ fp cs a := fp = [] ∧ cs = [.int .i64 a]
  rd_len h := by subst h; rfl
  rd_keep h _ := h
  rd_more h _ := h
  own_rd h := h.2
  own_keep h _ := h
  own_lt h b hb := by rw [h.1] at hb; cases hb

instance : Mem Bool where
  size := 1
  rd _ _ cs a := cs = [.bool a]
  own _ fp cs a := fp = [] ∧ cs = [.bool a]
  rd_len h := by subst h; rfl
  rd_keep h _ := h
  rd_more h _ := h
  own_rd h := h.2
  own_keep h _ := h
  own_lt h b hb := by rw [h.1] at hb; cases hb

instance : Inhabited Tm := ⟨.zero⟩
instance : Mem Tm where
  size := 4
  rd _ _ cs a := cs = a.cs
  own _ fp cs a := fp = [] ∧ cs = a.cs
  rd_len h := by subst h; rfl
  rd_keep h _ := h
  rd_more h _ := h
  own_rd h := h.2
  own_keep h _ := h
  own_lt h b hb := by rw [h.1] at hb; cases hb

instance {α β : Type} [Mem α] [Mem β] : Mem (α × β) where
  size := Mem.size α + Mem.size β
  rd w B cs p := ∃ c1 c2, cs = c1 ++ c2 ∧ Mem.rd w B c1 p.1 ∧ Mem.rd w B c2 p.2
  own w fp cs p := ∃ c1 c2 f1 f2, cs = c1 ++ c2 ∧ fp = f1 ++ f2 ∧ Mem.own w f1 c1 p.1 ∧ Mem.own w f2 c2 p.2
  rd_len h := by obtain ⟨c1, c2, rfl, h1, h2⟩ := h; rw [List.length_append, Mem.rd_len h1, Mem.rd_len h2]
  rd_keep h k := by obtain ⟨c1, c2, e, h1, h2⟩ := h; exact ⟨c1, c2, e, Mem.rd_keep h1 k, Mem.rd_keep h2 k⟩
  rd_more h k := by obtain ⟨c1, c2, e, h1, h2⟩ := h; exact ⟨c1, c2, e, Mem.rd_more h1 k, Mem.rd_more h2 k⟩
  own_rd h := by obtain ⟨c1, c2, f1, f2, e, _, h1, h2⟩ := h; exact ⟨c1, c2, e, Mem.own_rd h1, Mem.own_rd h2⟩
  own_keep h k := by
    obtain ⟨c1, c2, f1, f2, e, rfl, h1, h2⟩ := h
    exact ⟨c1, c2, f1, f2, e, rfl, Mem.own_keep h1 fun b hb => k b (by simp [hb]), Mem.own_keep h2 fun b hb => k b (by simp [hb])⟩
  own_lt h b hb := by
    obtain ⟨c1, c2, f1, f2, e, rfl, h1, h2⟩ := h
    rcases List.mem_append.1 hb with hb | hb
    · exact Mem.own_lt h1 b hb
    · exact Mem.own_lt h2 b hb

/-- The rows of n elements, one behind the other. -/
def cat {β : Type} (f : Nat → List β) (n : Nat) : List β := (List.range n).flatMap f
theorem cat_zero {β : Type} (f : Nat → List β) : cat f 0 = [] := rfl
theorem cat_succ {β : Type} (f : Nat → List β) (n : Nat) : cat f (n + 1) = cat f n ++ f n := by unfold cat; rw [List.range_succ, List.flatMap_append]; simp
theorem cat_len {β : Type} {f : Nat → List β} {s : Nat} : ∀ {n : Nat}, (∀ k, k < n → (f k).length = s) → (cat f n).length = n * s
  | 0, _ => by simp [cat_zero]
  | n + 1, h => by rw [cat_succ, List.length_append, cat_len fun k hk => h k (by omega), h n (by omega), Nat.succ_mul]
theorem cat_at {β : Type} {f : Nat → List β} {s : Nat} : ∀ {n : Nat}, (∀ k, k < n → (f k).length = s) → ∀ {k j : Nat}, k < n → j < s → (cat f n)[k * s + j]? = (f k)[j]?
  | 0, _, _, _, hk, _ => by omega
  | n + 1, h, k, j, hk, hj => by
    have hl := cat_len (n := n) fun k hk => h k (by omega)
    rw [cat_succ]
    by_cases e : k < n
    · have : k * s + s ≤ n * s := by rw [← Nat.succ_mul]; exact Nat.mul_le_mul_right _ e
      rw [List.getElem?_append_left (by omega)]
      exact cat_at (fun k hk => h k (by omega)) e hj
    · obtain rfl : k = n := by omega
      rw [List.getElem?_append_right (by omega), hl, Nat.add_sub_cancel_left]
theorem mem_cat {β : Type} {f : Nat → List β} {n : Nat} {x : β} : x ∈ cat f n ↔ ∃ k, k < n ∧ x ∈ f k := by simp [cat]
theorem cat_congr {β : Type} {f g : Nat → List β} {n : Nat} (h : ∀ k, k < n → f k = g k) : cat f n = cat g n := by
  induction n with
  | zero => rfl
  | succ n ih => rw [cat_succ, cat_succ, ih fun k hk => h k (by omega), h n (by omega)]

section
variable {α : Type} [Mem α]
def RdL (w : World) (B : Nat) (cs : List Value) (l : List α) : Prop :=
  ∃ A n c, cs = [.slice A n c] ∧ n ≤ maxLen ∧ l.length = n ∧ ∀ k, k < n → ∃ ad ecs, A = some ad ∧ ad.block < B ∧ (∀ j u, ecs[j]? = some u → w.cell? (ad.add (k * Mem.size α + j)) = some u) ∧ Mem.rd w B ecs (el l k)
def OwnL (w : World) (fp : List Nat) (cs : List Value) (l : List α) : Prop :=
  ∃ A n c, cs = [.slice A n c] ∧ n ≤ maxLen ∧ l.length = n ∧ ((n = 0 ∧ fp = []) ∨
    ∃ g t ecs fps, A = some ⟨g, 0, none⟩ ∧ w.ownsRow 0 t (Mem.size α) (.slice A n c) n (cat ecs n) ∧ fp = g :: cat fps n ∧ ∀ k, k < n → Mem.own w (fps k) (ecs k) (el l k))

theorem ownsRow_lt {w : World} {base size n c g : Nat} {t : TypeId} {xs : List Value} (h : w.ownsRow base t size (.slice (some ⟨g, 0, none⟩) n c) n xs) : g < w.heap.size := (h.lt g rfl).2
theorem ownsRow_heap {w w' : World} {base size n c g : Nat} {t : TypeId} {xs : List Value} (h : w.ownsRow base t size (.slice (some ⟨g, 0, none⟩) n c) n xs) (e : w'.heap[g]? = w.heap[g]?) : w'.ownsRow base t size (.slice (some ⟨g, 0, none⟩) n c) n xs := by
  refine ⟨h.1, ?_⟩
  rcases h.2 with ⟨h0, _⟩ | ⟨g', cap, cur, hv, hb, hg, r⟩
  · simp at h0
  · injection hv with h1 _ h3
    injection h1 with h1
    injection h1 with h1 _ _
    subst h1; subst h3
    exact .inr ⟨g, c, cur, rfl, hb, e.trans hg, r⟩

instance : Mem (List α) where
  size := 1
  rd := RdL
  own := OwnL
  rd_len h := by obtain ⟨A, n, c, rfl, _⟩ := h; rfl
  rd_keep h hk := by
    obtain ⟨A, n, c, e, hm, hl, h⟩ := h
    refine ⟨A, n, c, e, hm, hl, fun k hkn => ?_⟩
    obtain ⟨ad, ecs, hA, hb, hc, hr⟩ := h k hkn
    exact ⟨ad, ecs, hA, hb, fun j u hu => (hk _ (by rw [add_block]; exact hb)).trans (hc j u hu), Mem.rd_keep hr hk⟩
  rd_more h hB := by
    obtain ⟨A, n, c, e, hm, hl, h⟩ := h
    refine ⟨A, n, c, e, hm, hl, fun k hkn => ?_⟩
    obtain ⟨ad, ecs, hA, hb, hc, hr⟩ := h k hkn
    exact ⟨ad, ecs, hA, by omega, hc, Mem.rd_more hr hB⟩
  own_rd h := by
    obtain ⟨A, n, c, e, hm, hl, h⟩ := h
    refine ⟨A, n, c, e, hm, hl, fun k hkn => ?_⟩
    rcases h with ⟨h0, _⟩ | ⟨g, t, ecs, fps, rfl, ho, _, he⟩
    · omega
    have hlen : ∀ k, k < n → (ecs k).length = Mem.size α := fun k hk => Mem.rd_len (Mem.own_rd (he k hk))
    refine ⟨_, ecs k, rfl, ownsRow_lt ho, fun j u hu => ?_, Mem.own_rd (he k hkn)⟩
    have hj : j < Mem.size α := by rw [← hlen k hkn]; exact (List.getElem?_eq_some_iff.1 hu).1
    exact ho.cells (g := g) rfl _ _ ((cat_at hlen hkn hj).trans hu)
  own_keep h hk := by
    obtain ⟨A, n, c, e, hm, hl, h⟩ := h
    refine ⟨A, n, c, e, hm, hl, ?_⟩
    rcases h with h0 | ⟨g, t, ecs, fps, rfl, ho, rfl, he⟩
    · exact .inl h0
    · exact .inr ⟨g, t, ecs, fps, rfl, ownsRow_heap ho (hk g (by simp)), rfl, fun k hkn => Mem.own_keep (he k hkn) fun b hb => hk b (List.mem_cons_of_mem _ (mem_cat.2 ⟨k, hkn, hb⟩))⟩
  own_lt h b hb := by
    obtain ⟨A, n, c, e, hm, hl, h⟩ := h
    rcases h with ⟨_, rfl⟩ | ⟨g, t, ecs, fps, rfl, ho, rfl, he⟩
    · cases hb
    · rcases List.mem_cons.1 hb with rfl | hb
      · exact ownsRow_lt ho
      · obtain ⟨k, hk, hb⟩ := mem_cat.1 hb
        exact Mem.own_lt (he k hk) b hb
end

/-- Data that are their cells. -/
class Flat (α : Type) [Mem α] where
  enc : α → List Value
  enc_len : ∀ a, (enc a).length = Mem.size α
  rd_iff : ∀ {w : World} {B : Nat} {cs : List Value} {a : α}, Mem.rd w B cs a ↔ cs = enc a
  own_iff : ∀ {w : World} {fp : List Nat} {cs : List Value} {a : α}, Mem.own w fp cs a ↔ fp = [] ∧ cs = enc a
instance : Flat Int := ⟨fun a => [.int .i64 a], fun _ => rfl, Iff.rfl, Iff.rfl⟩
instance : Flat Tm := ⟨Tm.cs, fun _ => rfl, Iff.rfl, Iff.rfl⟩
theorem ints_cat (l : List Int) : ints l = cat (fun k => Flat.enc (el l k)) l.length := by
  refine List.ext_getElem? fun i => ?_
  by_cases h : i < l.length
  · have := cat_at (f := fun k => Flat.enc (el l k)) (s := 1) (n := l.length) (fun k _ => rfl) (k := i) (j := 0) h (by omega)
    rw [Nat.mul_one, Nat.add_zero] at this
    rw [this]
    simp [ints, List.getElem?_eq_getElem h, Flat.enc, el_lt h]
  · rw [List.getElem?_eq_none (by rw [len_ints]; omega), List.getElem?_eq_none (by rw [cat_len (s := 1) (fun k _ => rfl)]; omega)]
theorem flat_cat {α : Type} [Inhabited α] (f : α → List Value) : ∀ l : List α, l.flatMap f = cat (fun k => f (el l k)) l.length
  | [] => rfl
  | x :: l => by
    rw [List.flatMap_cons, flat_cat f l]
    unfold cat
    rw [List.length_cons, List.range_succ_eq_map, List.flatMap_cons, List.flatMap_map]
    rfl
theorem tms_cat (l : List Tm) : tms l = cat (fun k => Flat.enc (el l k)) l.length := flat_cat Tm.cs l

/-- The cells of a list of flat data. -/
def fl {α : Type} [Mem α] [Flat α] (l : List α) : List Value := cat (fun k => Flat.enc (el l k)) l.length
theorem fl_ints (l : List Int) : fl l = ints l := (ints_cat l).symm
theorem fl_tms (l : List Tm) : fl l = tms l := (tms_cat l).symm

section
variable {α : Type} [Mem α] [Flat α] {w : World} {B n c : Nat} {A : Option Addr} {l : List α}
theorem fl_len (l : List α) : (fl l).length = l.length * Mem.size α := cat_len fun _ _ => Flat.enc_len _
theorem rd_flat : Mem.rd w B [.slice A n c] l ↔ n ≤ maxLen ∧ l.length = n ∧ Rd w B (Mem.size α) A n (fl l) := by
  constructor
  · rintro ⟨A', n', c', e, hm, hl, h⟩
    injection e with e _
    injection e with e1 e2 e3
    subst e1; subst e2; subst e3
    refine ⟨hm, hl, by rw [fl_len, hl], fun hn => ?_⟩
    obtain ⟨ad, _, hA, hb, _⟩ := h 0 hn
    refine ⟨ad, hA, hb, fun j u hu => ?_⟩
    have hj : j < n * Mem.size α := by rw [← hl, ← fl_len]; exact (List.getElem?_eq_some_iff.1 hu).1
    have hs : 0 < Mem.size α := by
      rcases Nat.eq_zero_or_pos (Mem.size α) with h0 | h0
      · rw [h0] at hj; omega
      · exact h0
    have hk : j / Mem.size α < n := (Nat.div_lt_iff_lt_mul hs).2 hj
    have hr := Nat.mod_lt j hs
    have hd : j / Mem.size α * Mem.size α + j % Mem.size α = j := by rw [Nat.mul_comm]; exact Nat.div_add_mod _ _
    obtain ⟨ad', ecs, hA', _, hc, hd'⟩ := h _ hk
    rw [hA] at hA'; injection hA' with hA'; subst hA'
    have := Flat.rd_iff.1 hd'
    subst this
    have h2 := cat_at (f := fun k => Flat.enc (el l k)) (s := Mem.size α) (n := l.length) (fun _ _ => Flat.enc_len _) (k := j / Mem.size α) (j := j % Mem.size α) (by omega) hr
    rw [hd] at h2
    have h3 := hc (j % Mem.size α) u (h2.symm.trans hu)
    rwa [hd] at h3
  · rintro ⟨hm, hl, h1, h2⟩
    refine ⟨A, n, c, rfl, hm, hl, fun k hk => ?_⟩
    obtain ⟨ad, hA, hb, hc⟩ := h2 (by omega)
    refine ⟨ad, _, hA, hb, fun j u hu => ?_, Flat.rd_iff.2 rfl⟩
    have hj : j < Mem.size α := by have := (List.getElem?_eq_some_iff.1 hu).1; rwa [Flat.enc_len] at this
    exact hc _ _ ((cat_at (f := fun k => Flat.enc (el l k)) (n := l.length) (fun _ _ => Flat.enc_len _) (by omega) hj).trans hu)
/-- A row of the call's own, of flat data. -/
theorem own_flat {base : Nat} {t : TypeId} (h : w.ownsRow base t (Mem.size α) (.slice A n c) n (fl l)) (hl : l.length = n) (hm : n ≤ maxLen) :
    ∃ fp : List Nat, Mem.own w fp [.slice A n c] l ∧ fp.Nodup ∧ ∀ b ∈ fp, base ≤ b := by
  rcases h.2 with ⟨hv, h0⟩ | ⟨g, cap, cur, hv, hb, hg, hr⟩
  · exact ⟨[], ⟨A, n, c, rfl, hm, hl, .inl ⟨h0, rfl⟩⟩, List.nodup_nil, fun b hb => by cases hb⟩
  · have hA : A = some ⟨g, 0, none⟩ := by injection hv
    subst hA
    refine ⟨[g], ⟨_, n, c, rfl, hm, hl, .inr ⟨g, t, fun k => Flat.enc (el l k), fun _ => [], rfl, ?_, ?_, fun k _ => Flat.own_iff.2 ⟨rfl, rfl⟩⟩⟩, by simp, fun b h => by simp at h; omega⟩
    · rw [← hl] at h ⊢
      exact ⟨h.1, by rcases h.2 with h | ⟨g', r, s, a, _, b⟩; exact .inl h; exact .inr ⟨g', r, s, a, Nat.zero_le _, b⟩⟩
    · simp [cat]
end
/-- A slice of int reads as its list. -/
theorem rd_ints {w : World} {B n c : Nat} {A : Option Addr} {l : List Int} : Mem.rd w B [.slice A n c] l ↔ n ≤ maxLen ∧ Rd w B 1 A n (ints l) := by
  rw [rd_flat, fl_ints]
  exact ⟨fun h => ⟨h.1, h.2.2⟩, fun h => ⟨h.1, h.2.len, h.2⟩⟩
theorem rd_tms {w : World} {B n c : Nat} {A : Option Addr} {l : List Tm} : Mem.rd w B [.slice A n c] l ↔ n ≤ maxLen ∧ Rd w B 4 A n (tms l) := by
  rw [rd_flat, fl_tms]
  exact ⟨fun h => ⟨h.1, h.2.2⟩, fun h => ⟨h.1, h.2.tlen, h.2⟩⟩
theorem own_lower {w : World} {base base' size n : Nat} {e : TypeId} {v : Value} {xs : List Value} (h : w.ownsRow base e size v n xs) (hb : base' ≤ base) : w.ownsRow base' e size v n xs := by
  refine ⟨h.1, ?_⟩
  rcases h.2 with h | ⟨g, cap, cur, hv, hg, r⟩
  · exact .inl h
  · exact .inr ⟨g, cap, cur, hv, Nat.le_trans hb hg, r⟩

end Go.Proofs.Ythlkbkomecnbaaa
namespace Go.Proofs.Ythlkbkomecnbaaa
open Go.RowKit

/-- A variable. -/
structure Vr where
  low : Int
  high : Int
  first : Int
def Vr.cs (v : Vr) : List Value := [.int .i64 v.low, .int .i64 v.high, .int .i64 v.first]
def Vr.v (v : Vr) : Value := .agg #[.int .i64 v.low, .int .i64 v.high, .int .i64 v.first]
instance : Mem Vr where
  default := ⟨0, 0, 0⟩
  size := 3
  rd _ _ cs a := cs = a.cs
  own _ fp cs a := fp = [] ∧ cs = a.cs
  rd_len h := by subst h; rfl
  rd_keep h _ := h
  rd_more h _ := h
  own_rd h := h.2
  own_keep h _ := h
  own_lt h b hb := by rw [h.1] at hb; cases hb
instance : Flat Vr := ⟨Vr.cs, fun _ => rfl, Iff.rfl, Iff.rfl⟩

/-- A rule. -/
structure Rl where
  cond : List Tm
  sets : List Int
  terms : List (List Tm)
instance : Mem Rl where
  default := ⟨[], [], []⟩
  size := Mem.size (List Tm × List Int × List (List Tm))
  rd w B cs a := Mem.rd w B cs (a.cond, a.sets, a.terms)
  own w fp cs a := Mem.own w fp cs (a.cond, a.sets, a.terms)
  rd_len h := Mem.rd_len h
  rd_keep h k := Mem.rd_keep h k
  rd_more h k := Mem.rd_more h k
  own_rd h := Mem.own_rd h
  own_keep h k := Mem.own_keep h k
  own_lt h := Mem.own_lt h

/-- A system. -/
structure Sy where
  vars : List Vr
  rules : List Rl
instance : Mem Sy where
  default := ⟨[], []⟩
  size := Mem.size (List Vr × List Rl)
  rd w B cs a := Mem.rd w B cs (a.vars, a.rules)
  own w fp cs a := Mem.own w fp cs (a.vars, a.rules)
  rd_len h := Mem.rd_len h
  rd_keep h k := Mem.rd_keep h k
  rd_more h k := Mem.rd_more h k
  own_rd h := Mem.own_rd h
  own_keep h k := Mem.own_keep h k
  own_lt h := Mem.own_lt h

section
variable {w : World} {B n c : Nat} {A : Option Addr}
theorem pos1 (ad : Addr) (k s : Nat) {j : Nat} (hj : 0 < j) : (⟨(ad.add (k * s)).block, (ad.add (k * s)).off + j, none⟩ : Addr) = ad.add (k * s + j) := by rw [← add_add', add_pos _ hj]
theorem vr_at {l : List Vr} (h : Mem.rd w B [.slice A n c] l) {k : Nat} (hk : k < n) : ∃ ad, A = some ad ∧ ad.block < B ∧ w.cell? (ad.add (k * 3)) = some (.int .i64 (el l k).low) ∧
    w.cell? ⟨(ad.add (k * 3)).block, (ad.add (k * 3)).off + 1, none⟩ = some (.int .i64 (el l k).high) ∧ w.cell? ⟨(ad.add (k * 3)).block, (ad.add (k * 3)).off + 2, none⟩ = some (.int .i64 (el l k).first) := by
  obtain ⟨A', n', c', e, hm, hl, h⟩ := h
  injection e with e _
  injection e with e1 e2 e3
  subst e1; subst e2; subst e3
  obtain ⟨ad, ecs, hA, hb, hc, hr⟩ := h k hk
  cases (show ecs = (el l k).cs from hr)
  refine ⟨ad, hA, hb, ?_⟩
  rw [pos1 ad k 3 (j := 1) (by omega), pos1 ad k 3 (j := 2) (by omega)]
  exact ⟨hc 0 _ rfl, hc 1 _ rfl, hc 2 _ rfl⟩
theorem rd_len {α : Type} [Mem α] {l : List α} (h : Mem.rd w B [.slice A n c] l) : l.length = n := by
  obtain ⟨A', n', c', e, hm, hl, h⟩ := h
  injection e with e _
  injection e with e1 e2 e3
  omega
theorem rd_max {α : Type} [Mem α] {l : List α} (h : Mem.rd w B [.slice A n c] l) : n ≤ maxLen := by
  obtain ⟨A', n', c', e, hm, hl, h⟩ := h
  injection e with e _
  injection e with e1 e2 e3
  omega
/-- A slice of slices at a place. -/
theorem ll_at {α : Type} [Mem α] {l : List (List α)} (h : Mem.rd w B [.slice A n c] l) {k : Nat} (hk : k < n) : ∃ ad A1 n1 c1, A = some ad ∧ ad.block < B ∧ w.cell? (ad.add k) = some (.slice A1 n1 c1) ∧ Mem.rd w B [.slice A1 n1 c1] (el l k) := by
  obtain ⟨A', n', c', e, hm, hl, h⟩ := h
  injection e with e _
  injection e with e1 e2 e3
  subst e1; subst e2; subst e3
  obtain ⟨ad, ecs, hA, hb, hc, hr⟩ := h k hk
  have hr' := hr
  obtain ⟨A1, n1, c1, rfl, _⟩ := hr'
  have := hc 0 _ rfl
  rw [show Mem.size (List α) = 1 from rfl, Nat.mul_one, Nat.add_zero] at this
  exact ⟨ad, A1, n1, c1, hA, hb, this, hr⟩
/-- A rule at a place. -/
theorem rl_at {l : List Rl} (h : Mem.rd w B [.slice A n c] l) {k : Nat} (hk : k < n) : ∃ ad A1 n1 c1 A2 n2 c2 A3 n3 c3, A = some ad ∧ ad.block < B ∧ w.cell? (ad.add (k * 3)) = some (.slice A1 n1 c1) ∧
    w.cell? ⟨(ad.add (k * 3)).block, (ad.add (k * 3)).off + 1, none⟩ = some (.slice A2 n2 c2) ∧ w.cell? ⟨(ad.add (k * 3)).block, (ad.add (k * 3)).off + 2, none⟩ = some (.slice A3 n3 c3) ∧
    Mem.rd w B [.slice A1 n1 c1] (el l k).cond ∧ Mem.rd w B [.slice A2 n2 c2] (el l k).sets ∧ Mem.rd w B [.slice A3 n3 c3] (el l k).terms := by
  obtain ⟨A', n', c', e, hm, hl, h⟩ := h
  injection e with e _
  injection e with e1 e2 e3
  subst e1; subst e2; subst e3
  obtain ⟨ad, ecs, hA, hb, hc, hr⟩ := h k hk
  obtain ⟨x1, x2, rfl, h1, y1, y2, rfl, h2, h3⟩ := hr
  have g1 := h1; have g2 := h2; have g3 := h3
  obtain ⟨A1, n1, c1, rfl, _⟩ := h1
  obtain ⟨A2, n2, c2, rfl, _⟩ := h2
  obtain ⟨A3, n3, c3, rfl, _⟩ := h3
  refine ⟨ad, A1, n1, c1, A2, n2, c2, A3, n3, c3, hA, hb, ?_, ?_, ?_, g1, g2, g3⟩
  · exact hc 0 _ rfl
  · rw [pos1 ad k 3 (j := 1) (by omega)]; exact hc 1 _ rfl
  · rw [pos1 ad k 3 (j := 2) (by omega)]; exact hc 2 _ rfl
end
end Go.Proofs.Ythlkbkomecnbaaa
namespace Go.Proofs.Ythlkbkomecnbaaa
open Go.RowKit

/-- The cells of a copy, k numbers of which are made. -/
def copiedI (l : List Int) (n k : Nat) : List Value := ints (l.take k) ++ List.replicate (n - k) (.int .i64 0)
theorem copiedI_room {l : List Int} {n k : Nat} (h : k < n) : copiedI l n k = ints (l.take k) ++ (.int .i64 0 :: List.replicate (n - (k + 1)) (.int .i64 0)) := by
  unfold copiedI
  rw [show n - k = 1 + (n - (k + 1)) by omega, ← List.replicate_append_replicate]; rfl
theorem lenI_take {l : List Int} {n k : Nat} (hl : l.length = n) (h : k < n) : (ints (l.take k)).length = k := by rw [len_ints, List.length_take]; omega
theorem copiedI_at {l : List Int} {n k : Nat} (hl : l.length = n) (h : k < n) : (copiedI l n k)[k]? = some (.int .i64 0) := by
  rw [copiedI_room h, List.getElem?_append_right (by rw [lenI_take hl h]; omega), lenI_take hl h, Nat.sub_self]; rfl
theorem copiedI_succ {l : List Int} {n k : Nat} (hl : l.length = n) (h : k < n) : (copiedI l n k).set k (.int .i64 (ix l k)) = copiedI l n (k + 1) := by
  have e := lenI_take hl h
  rw [copiedI_room h, List.set_append_right _ _ (by omega), e, Nat.sub_self]
  show _ = ints (l.take (k + 1)) ++ List.replicate (n - (k + 1)) (.int .i64 0)
  rw [List.take_succ_eq_append_getElem (show k < l.length by omega), ix_lt (by omega)]
  simp only [ints, List.map_append, List.map_cons, List.map_nil, List.append_assoc, List.cons_append, List.nil_append, List.set_cons_zero]
theorem copiedI_all {l : List Int} {n : Nat} (hl : l.length = n) : copiedI l n n = ints l := by unfold copiedI; rw [Nat.sub_self, List.take_of_length_le (by omega)]; simp
theorem copiedI_none (l : List Int) (n : Nat) : (madeCells (Value.int .i64 0).cells (n * 1)).toList = copiedI l n 0 := by
  rw [Nat.mul_one]
  exact (toList_madeCells_one _ _).trans (by simp [copiedI, ints])

set_option maxHeartbeats 1000000 in
theorem toIntS_any (A : Option Addr) (n c : Nat) (l : List Int) (w : World) (h : Rd w w.heap.size 1 A n (ints l)) (hn : n ≤ 1048576) :
    Calls Try.prog 12 #[.slice A n c] w (GivesInts w l) := by
  go_enter Try.func12, Try.ntmps12
  go_wp2_with (first | (at_make; refine wpList_make_full _ rfl _ _ 22 rfl w.heap.size 3 intRow _ 1 Try.underlying22 int_row.1 int_row.2.1 int_row.2.2.1 _ _ _ _ n rfl rfl rfl rfl (by rw [int_row.2.2.2]; omega) (by unfold maxLen; omega) (Nat.le_refl _) ?_; intro w1 hown hg))
  have hbw := (Below.refl w.heap.size w).grown hg (Nat.le_refl _) (by simp)
  have hblk := (Blk.of_own hown).1
  rw [copiedI_none l n] at hblk
  clear hg hown
  go_loopg [4] n (fun m i wr => ∃ k : Nat, k + m = n ∧ i = .int .i64 k ∧ Blk wr w.heap.size 3 (copiedI l n k) ∧ Below w.heap.size w wr)
  case atStart => exact ⟨0, by omega, rfl, hblk, hbw⟩
  case round =>
    clear hblk hbw
    obtain ⟨k, hk, rfl, hblk, hb⟩ := hrel
    by_cases hlt : k < n
    · obtain ⟨ad, rfl, _, h0⟩ := (h.below hb).int hlt
      have hl := Lib.hid h.len
      have f0 := hblk.frozen k
      have c0 := (hblk.cell k).trans (copiedI_at hl.out hlt)
      go_wp2
      go_roundg (n - (k + 1))
      case measure => omega
      case rel =>
        refine ⟨k + 1, by omega, by go_num, ?_, hb.setCell (Nat.le_refl _) _⟩
        rw [← copiedI_succ hl.out hlt]
        exact hblk.set _ _
    · obtain rfl : k = n := by omega
      go_wp2
      go_ret
      refine ⟨_, rfl, ?_, hb⟩
      rw [copiedI_all h.len] at hblk
      rw [h.len]
      exact hblk.own (Nat.le_refl _) (by unfold maxLen; omega) (by rw [len_ints, h.len]; omega)
end Go.Proofs.Ythlkbkomecnbaaa
namespace Go.Proofs.Ythlkbkomecnbaaa
open Go.RowKit

theorem bcell {W w1 : World} (hb : Below W.heap.size W w1) : (∀ b o, b < W.heap.size → w1.cell? ⟨b, o, none⟩ = W.cell? ⟨b, o, none⟩) ∧ (∀ b o, b < W.heap.size → w1.frozen? ⟨b, o, none⟩ = W.frozen? ⟨b, o, none⟩) :=
  ⟨fun b o h => hb.cell (p := ⟨b, o, none⟩) h, fun b o h => hb.frozen (p := ⟨b, o, none⟩) h⟩

section
variable {α : Type} [Mem α]
/-- A slice of n elements, k of which are made. -/
def MadeL (w : World) (g : Nat) (t : TypeId) (z : List Value) (n k : Nat) (l : List α) : Prop :=
  ∃ ecs fps, Blk w g t (cat ecs k ++ cat (fun _ => z) (n - k)) ∧ (∀ i, i < k → Mem.own w (fps i) (ecs i) (el l i)) ∧ (cat fps k).Nodup ∧ ∀ b ∈ cat fps k, g < b
/-- The call gives a new slice that is its own. -/
def GivesL (w : World) (l : List α) (e : Ending) (w' : World) : Prop :=
  ∃ A n c fp, e = .returned (.slice A n c) ∧ Mem.own w' fp [.slice A n c] l ∧ fp.Nodup ∧ (∀ b ∈ fp, w.heap.size ≤ b) ∧ Below w.heap.size w w'

theorem cat_front {β : Type} (z : List β) (n : Nat) : cat (fun _ => z) (n + 1) = z ++ cat (fun _ => z) n := by
  unfold cat; rw [List.range_succ_eq_map, List.flatMap_cons, List.flatMap_map]
theorem made_cat (z : Array Value) (n : Nat) : (madeCells z (n * z.size)).toList = cat (fun _ => z.toList) n := by
  have hl : (cat (fun _ => z.toList) n).length = n * z.size := cat_len fun _ _ => by simp
  refine List.ext_getElem? fun i => ?_
  by_cases hi : i < n * z.size
  · have hs : 0 < z.size := by
      rcases Nat.eq_zero_or_pos z.size with h0 | h0
      · rw [h0] at hi; omega
      · exact h0
    have hk : i / z.size < n := (Nat.div_lt_iff_lt_mul hs).2 hi
    have hr := Nat.mod_lt i hs
    have hd : i / z.size * z.size + i % z.size = i := by rw [Nat.mul_comm]; exact Nat.div_add_mod _ _
    have h2 := cat_at (f := fun _ : Nat => z.toList) (s := z.size) (n := n) (fun _ _ => by simp) hk hr
    rw [hd] at h2
    rw [h2, Array.getElem?_toList]
    unfold madeCells
    rw [Array.getElem?_map, Array.getElem?_range, if_pos hi]
    simp [hr, Array.getElem!_eq_getD, Array.getD]
  · rw [List.getElem?_eq_none (by rw [Array.length_toList, size_madeCells]; omega), List.getElem?_eq_none (by omega)]
theorem set_one {X Y : List Value} {m : Nat} (h : X.length = m) (a a' : Value) : (X ++ ([a] ++ Y)).set m a' = X ++ ([a'] ++ Y) := by
  subst h; rw [List.set_append_right _ _ (Nat.le_refl _), Nat.sub_self]; rfl
theorem set_three {X Y : List Value} {m : Nat} (h : X.length = m) (a b c a' b' c' : Value) : (((X ++ ([a, b, c] ++ Y)).set m a').set (m + 1) b').set (m + 2) c' = X ++ ([a', b', c'] ++ Y) := by
  subst h
  rw [List.set_append_right _ _ (by omega), Nat.sub_self, List.set_append_right _ _ (by omega), show X.length + 1 - X.length = 1 by omega, List.set_append_right _ _ (by omega), show X.length + 2 - X.length = 2 by omega]
  rfl
theorem setCell_heap (w : World) (p : Addr) (u : Value) {b : Nat} (h : b ≠ p.block) : (w.setCell p u).heap[b]? = w.heap[b]? := by
  simp [World.setCell, Array.getElem?_modify]
  intro e; exact absurd e.symm h
/-- f, but x at k. -/
def upd {β : Type} (f : Nat → β) (k : Nat) (x : β) : Nat → β := fun i => if i = k then x else f i
theorem upd_at {β : Type} (f : Nat → β) (k : Nat) (x : β) : upd f k x k = x := by simp [upd]
theorem upd_ne {β : Type} (f : Nat → β) {k i : Nat} (x : β) (h : i < k) : upd f k x i = f i := by simp [upd, show i ≠ k by omega]
theorem cat_upd {β : Type} (f : Nat → List β) (k : Nat) (x : List β) : cat (upd f k x) (k + 1) = cat f k ++ x := by
  rw [cat_succ, upd_at, cat_congr fun i hi => upd_ne f x hi]

variable {w w2 w3 : World} {g n k : Nat} {t : TypeId} {z : List Value} {l : List α}
theorem MadeL.zero (h : Blk w g t (cat (fun _ => z) n)) : MadeL w g t z n 0 l :=
  ⟨fun _ => [], fun _ => [], by simpa [cat_zero] using h, fun i hi => absurd hi (by omega), by simp [cat], by simp [cat]⟩
/-- The room for the next element, and what stands behind it. -/
theorem MadeL.room (h : MadeL w g t z n k l) (hk : k < n) : ∃ X Y, Blk w g t (X ++ (z ++ Y)) ∧ X.length = k * Mem.size α ∧
    ∀ cs fp w2 w3, Below w.heap.size w w2 → Mem.own w2 fp cs (el l k) → fp.Nodup → (∀ b ∈ fp, w.heap.size ≤ b) → Blk w3 g t (X ++ (cs ++ Y)) → (∀ b, b ≠ g → w3.heap[b]? = w2.heap[b]?) → MadeL w3 g t z n (k + 1) l := by
  obtain ⟨ecs, fps, hb, ho, hn, hg⟩ := h
  rw [show n - k = (n - (k + 1)) + 1 by omega, cat_front] at hb
  refine ⟨cat ecs k, cat (fun _ => z) (n - (k + 1)), hb, cat_len fun i hi => Mem.rd_len (Mem.own_rd (ho i hi)), fun cs fp w2 w3 b2 o2 nd lo hb3 hkeep => ?_⟩
  refine ⟨upd ecs k cs, upd fps k fp, ?_, fun i hi => ?_, ?_, ?_⟩
  · rw [cat_upd, List.append_assoc]; exact hb3
  · by_cases e : i = k
    · subst e; rw [upd_at, upd_at]; exact Mem.own_keep o2 fun b hm => hkeep b (by have := lo b hm; have := hb.lt; omega)
    · rw [upd_ne _ _ (by omega), upd_ne _ _ (by omega)]
      have o1 := ho i (by omega)
      refine Mem.own_keep (Mem.own_below o1 b2) fun b hm => hkeep b ?_
      have := hg b (mem_cat.2 ⟨i, by omega, hm⟩); omega
  · rw [cat_upd, List.nodup_append]
    refine ⟨hn, nd, fun a ha b hb' e => ?_⟩
    subst e
    obtain ⟨i, hi, hm⟩ := mem_cat.1 ha
    have := Mem.own_lt (ho i hi) a hm
    have := lo a hb'
    omega
  · rw [cat_upd]
    intro b hm
    rcases List.mem_append.1 hm with hm | hm
    · exact hg b hm
    · have := lo b hm; have := hb.lt; omega
theorem MadeL.all (h : MadeL w g t z n n l) (hl : l.length = n) (hm : n ≤ maxLen) : ∃ fp, Mem.own w fp [.slice (some ⟨g, 0, none⟩) n n] l ∧ fp.Nodup ∧ ∀ b ∈ fp, g ≤ b := by
  obtain ⟨ecs, fps, hb, ho, hn, hg⟩ := h
  rw [Nat.sub_self, cat_zero, List.append_nil] at hb
  refine ⟨g :: cat fps n, ⟨_, n, n, rfl, hm, hl, .inr ⟨g, t, ecs, fps, rfl, hb.own (Nat.zero_le _) hm (cat_len fun i hi => Mem.rd_len (Mem.own_rd (ho i hi))), rfl, ho⟩⟩, List.nodup_cons.2 ⟨fun hm => by have := hg g hm; omega, hn⟩, fun b hm => ?_⟩
  rcases List.mem_cons.1 hm with rfl | hm
  · exact Nat.le_refl _
  · have := hg b hm; omega
end
end Go.Proofs.Ythlkbkomecnbaaa
namespace Go.Proofs.Ythlkbkomecnbaaa
open Go.RowKit

theorem vr_info : (Try.prog.info? 145).map (fun i => (i.zero, i.size, i.bytes)) = some (some (.agg #[.int .i64 0, .int .i64 0, .int .i64 0]), 3, 24) := by kernel_rfl
noncomputable def vrRow : TypeInfo := Classical.choose (info_parts vr_info) -- 145
theorem vr_row : Try.prog.info? 145 = some vrRow ∧ vrRow.zero = some (.agg #[.int .i64 0, .int .i64 0, .int .i64 0]) ∧ vrRow.size = 3 ∧ vrRow.bytes = 24 := Classical.choose_spec (info_parts vr_info)
theorem rl_info : (Try.prog.info? 150).map (fun i => (i.zero, i.size, i.bytes)) = some (some (.agg #[.slice none 0 0, .slice none 0 0, .slice none 0 0]), 3, 72) := by kernel_rfl
noncomputable def rlRow : TypeInfo := Classical.choose (info_parts rl_info) -- 150
theorem rl_row : Try.prog.info? 150 = some rlRow ∧ rlRow.zero = some (.agg #[.slice none 0 0, .slice none 0 0, .slice none 0 0]) ∧ rlRow.size = 3 ∧ rlRow.bytes = 72 := Classical.choose_spec (info_parts rl_info)
theorem tmS_info : (Try.prog.info? 60).map (fun i => (i.zero, i.size, i.bytes)) = some (some (.slice none 0 0), 1, 24) := by kernel_rfl
noncomputable def tmSRow : TypeInfo := Classical.choose (info_parts tmS_info) -- 60
theorem tmS_row : Try.prog.info? 60 = some tmSRow ∧ tmSRow.zero = some (.slice none 0 0) ∧ tmSRow.size = 1 ∧ tmSRow.bytes = 24 := Classical.choose_spec (info_parts tmS_info)

theorem toTermS_M (A : Option Addr) (n c : Nat) (l : List Tm) (w : World) (h : Mem.rd w w.heap.size [.slice A n c] l) (hn : n ≤ 1048576) :
    Calls Try.prog 38 #[.slice A n c] w (GivesL w l) := by
  refine (toTermS_any A n c l w (rd_tms.1 h).2 hn).mono ?_
  rintro e w' ⟨v, rfl, ho, hb⟩
  obtain ⟨A', c', rfl, _, _⟩ := own_form ho
  have hl : l.length ≤ maxLen := by rw [rd_len h]; unfold maxLen; omega
  rw [← fl_tms] at ho
  obtain ⟨fp, o, nd, lo⟩ := own_flat (α := Tm) ho rfl hl
  exact ⟨A', _, c', fp, rfl, o, nd, lo, hb⟩
theorem toIntS_M (A : Option Addr) (n c : Nat) (l : List Int) (w : World) (h : Mem.rd w w.heap.size [.slice A n c] l) (hn : n ≤ 1048576) :
    Calls Try.prog 12 #[.slice A n c] w (GivesL w l) := by
  refine (toIntS_any A n c l w (rd_ints.1 h).2 hn).mono ?_
  rintro e w' ⟨v, rfl, ho, hb⟩
  obtain ⟨A', c', rfl, _, _⟩ := own_form ho
  have hl : l.length ≤ maxLen := by rw [rd_len h]; unfold maxLen; omega
  rw [← fl_ints] at ho
  obtain ⟨fp, o, nd, lo⟩ := own_flat (α := Int) ho rfl hl
  exact ⟨A', _, c', fp, rfl, o, nd, lo, hb⟩

theorem toVar_any (t : Vr) (w : World) : Calls Try.prog 126 #[t.v] w fun e w' => e = .returned t.v ∧ Below w.heap.size w w' := by
  obtain ⟨a, b, c⟩ := t
  show Calls _ _ #[.agg #[.int .i64 a, .int .i64 b, .int .i64 c]] w _
  go_enter Try.func126, Try.ntmps126
  go_wp2
  exact bodyPost_ret (v := .agg #[.int .i64 a, .int .i64 b, .int .i64 c]) (by simp [results, Try.results126, go_sem]) rfl ⟨rfl, ((((Below.refl _ _).alloc (Nat.le_refl _) _).alloc (by simp) _).alloc (by simp; omega) _)⟩

set_option maxHeartbeats 1000000 in
theorem toVarS_any (A : Option Addr) (n c : Nat) (l : List Vr) (w : World) (h : Mem.rd w w.heap.size [.slice A n c] l) (hn : n ≤ 1048576) :
    Calls Try.prog 93 #[.slice A n c] w (GivesL w l) := by
  go_enter Try.func93, Try.ntmps93
  go_wp2_with (first | (at_make; refine wpList_make_full _ rfl _ _ 70 rfl w.heap.size 145 vrRow _ 3 Try.underlying70 vr_row.1 vr_row.2.1 vr_row.2.2.1 _ _ _ _ n rfl rfl rfl rfl (by rw [vr_row.2.2.2]; omega) (by unfold maxLen; omega) (Nat.le_refl _) ?_; intro w1 hown hg))
  have hbw := (Below.refl w.heap.size w).grown hg (Nat.le_refl _) (by simp)
  have hblk := (Blk.of_own hown).1
  have hblk : Blk w1 w.heap.size 145 (cat (fun _ => [.int .i64 0, .int .i64 0, .int .i64 0]) n) := made_cat #[.int .i64 0, .int .i64 0, .int .i64 0] n ▸ hblk
  have hmade := MadeL.zero (l := l) hblk
  clear hg hown hblk
  go_loopg [4] n (fun m i wr => ∃ k : Nat, k + m = n ∧ i = .int .i64 k ∧ MadeL wr w.heap.size 145 [.int .i64 0, .int .i64 0, .int .i64 0] n k l ∧ Below w.heap.size w wr)
  case atStart => exact ⟨0, by omega, rfl, hmade, hbw⟩
  case round =>
    clear hmade hbw
    obtain ⟨k, hk, rfl, hm, hb⟩ := hrel
    by_cases hlt : k < n
    · obtain ⟨ad, rfl, _, h0, h1, h2⟩ := vr_at (Mem.rd_below h hb) hlt
      obtain ⟨X, Y, hblk, hX, hstep⟩ := hm.room hlt
      have hX3 : X.length = k * 3 := hX
      have HX := Lib.hid hX3
      have HS := Lib.hid hstep
      clear hm hX hX3 hstep
      go_wp2_with (first | (go_at_call 126; refine (toVar_any (el l k) _).mono ?_; rintro e w2 ⟨rfl, hb2⟩; unfold Vr.v
                            have HK := Lib.hid (hblk.below hb2 hblk.lt)
                            have f0 := HK.out.frozen (k * 3)
                            have f1 := HK.out.frozen (k * 3 + 1)
                            have f2 := HK.out.frozen (k * 3 + 2)
                            have c0 : w2.cell? ⟨w.heap.size, k * 3, none⟩ = some (.int .i64 0) := (HK.out.cell (k * 3)).trans (by rw [List.getElem?_append_right (by rw [HX.out]; omega), HX.out]; simp)
                            have c1 : w2.cell? ⟨w.heap.size, k * 3 + 1, none⟩ = some (.int .i64 0) := (HK.out.cell (k * 3 + 1)).trans (by rw [List.getElem?_append_right (by rw [HX.out]; omega), HX.out]; simp)
                            have c2 : w2.cell? ⟨w.heap.size, k * 3 + 2, none⟩ = some (.int .i64 0) := (HK.out.cell (k * 3 + 2)).trans (by rw [List.getElem?_append_right (by rw [HX.out]; omega), HX.out]; simp)))
      go_roundg (n - (k + 1))
      case measure => omega
      case rel =>
        refine ⟨k + 1, by omega, by go_num, HS.out (el l k).cs [] w2 _ hb2 ⟨rfl, rfl⟩ (by simp) (by simp) ?_ ?_, ?_⟩
        · unfold Vr.cs
          rw [← set_three HX.out]
          exact ((HK.out.set _ _).set _ _).set _ _
        · intro b hb'
          rw [setCell_heap _ _ _ hb', setCell_heap _ _ _ hb', setCell_heap _ _ _ hb']
        · exact (((hb.trans (hb2.mono hb.size)).setCell (Nat.le_refl _) _).setCell (Nat.le_refl _) _).setCell (Nat.le_refl _) _
    · obtain rfl : k = n := by omega
      go_wp2
      go_ret
      obtain ⟨fp, o, nd, lo⟩ := hm.all (rd_len h) (rd_max h)
      exact ⟨_, _, _, fp, rfl, o, nd, lo, hb⟩

set_option maxHeartbeats 1000000 in
theorem toTermSS_any (A : Option Addr) (n c : Nat) (l : List (List Tm)) (w : World) (h : Mem.rd w w.heap.size [.slice A n c] l) (hn : n ≤ 1048576) (hs : ∀ k, k < n → (el l k).length ≤ 1048576) :
    Calls Try.prog 158 #[.slice A n c] w (GivesL w l) := by
  go_enter Try.func158, Try.ntmps158
  go_wp2_with (first | (at_make; refine wpList_make_full _ rfl _ _ 148 rfl w.heap.size 60 tmSRow _ 1 Try.underlying148 tmS_row.1 tmS_row.2.1 tmS_row.2.2.1 _ _ _ _ n rfl rfl rfl rfl (by rw [tmS_row.2.2.2]; omega) (by unfold maxLen; omega) (Nat.le_refl _) ?_; intro w1 hown hg))
  have hbw := (Below.refl w.heap.size w).grown hg (Nat.le_refl _) (by simp)
  have hblk := (Blk.of_own hown).1
  have hblk : Blk w1 w.heap.size 60 (cat (fun _ => [.slice none 0 0]) n) := made_cat #[.slice none 0 0] n ▸ hblk
  have hmade := MadeL.zero (l := l) hblk
  clear hg hown hblk
  go_loopg [4] n (fun m i wr => ∃ k : Nat, k + m = n ∧ i = .int .i64 k ∧ MadeL wr w.heap.size 60 [.slice none 0 0] n k l ∧ Below w.heap.size w wr)
  case atStart => exact ⟨0, by omega, rfl, hmade, hbw⟩
  case round =>
    clear hmade hbw
    obtain ⟨k, hk, rfl, hm, hb⟩ := hrel
    by_cases hlt : k < n
    · obtain ⟨ad, A1, n1, c1, rfl, _, h0, hr⟩ := ll_at (Mem.rd_below h hb) hlt
      have hn1 : n1 ≤ 1048576 := by rw [← rd_len hr]; exact hs k hlt
      have hr := Mem.rd_more hr hb.size
      obtain ⟨X, Y, hblk, hX, hstep⟩ := hm.room hlt
      have hX3 : X.length = k := hX.trans (Nat.mul_one k)
      have HX := Lib.hid hX3
      have HS := Lib.hid hstep
      clear hm hX hX3 hstep
      go_wp2_with (first | (go_at_call 38; refine (toTermS_M A1 n1 c1 (el l k) _ hr hn1).mono ?_; rintro e w2 ⟨A2, n2, c2, fp, rfl, o2, nd2, lo2, hb2⟩
                            have HK := Lib.hid (hblk.below hb2 hblk.lt)
                            have f0 := HK.out.frozen k
                            have c0 : w2.cell? ⟨w.heap.size, k, none⟩ = some (.slice none 0 0) := (HK.out.cell k).trans (by rw [List.getElem?_append_right (by rw [HX.out]; omega), HX.out]; simp)))
      go_roundg (n - (k + 1))
      case measure => omega
      case rel =>
        refine ⟨k + 1, by omega, by go_num, HS.out _ fp w2 _ hb2 o2 nd2 lo2 ?_ ?_, ?_⟩
        · rw [← set_one HX.out (.slice none 0 0)]
          exact HK.out.set _ _
        · intro b hb'
          rw [setCell_heap _ _ _ hb']
        · exact (hb.trans (hb2.mono hb.size)).setCell (Nat.le_refl _) _
    · obtain rfl : k = n := by omega
      go_wp2
      go_ret
      obtain ⟨fp, o, nd, lo⟩ := hm.all (rd_len h) (rd_max h)
      exact ⟨_, _, _, fp, rfl, o, nd, lo, hb⟩

/-- The call gives a new rule. -/
def GivesRl (w : World) (r : Rl) (e : Ending) (w' : World) : Prop :=
  ∃ A1 n1 c1 A2 n2 c2 A3 n3 c3 fp, e = .returned (.agg #[.slice A1 n1 c1, .slice A2 n2 c2, .slice A3 n3 c3]) ∧ Mem.own w' fp [.slice A1 n1 c1, .slice A2 n2 c2, .slice A3 n3 c3] r ∧ fp.Nodup ∧ (∀ b ∈ fp, w.heap.size ≤ b) ∧ Below w.heap.size w w'
/-- A rule that is not too large. -/
structure Rl.Fits (r : Rl) : Prop where
  cond : r.cond.length ≤ 1048576
  sets : r.sets.length ≤ 1048576
  terms : r.terms.length ≤ 1048576
  term : ∀ k, k < r.terms.length → (el r.terms k).length ≤ 1048576

theorem nodup_two {f1 f2 : List Nat} {m : Nat} (h1 : f1.Nodup) (h2 : f2.Nodup) (l1 : ∀ b ∈ f1, b < m) (l2 : ∀ b ∈ f2, m ≤ b) : (f1 ++ f2).Nodup :=
  List.nodup_append.2 ⟨h1, h2, fun a ha b hb e => by have := l1 a ha; have := l2 b hb; omega⟩

set_option maxHeartbeats 1000000 in
theorem toRule_any (r : Rl) (A1 : Option Addr) (n1 c1 : Nat) (A2 : Option Addr) (n2 c2 : Nat) (A3 : Option Addr) (n3 c3 : Nat) (w : World) (h1 : Mem.rd w w.heap.size [.slice A1 n1 c1] r.cond) (h2 : Mem.rd w w.heap.size [.slice A2 n2 c2] r.sets)
    (h3 : Mem.rd w w.heap.size [.slice A3 n3 c3] r.terms) (hf : r.Fits) : Calls Try.prog 127 #[.agg #[.slice A1 n1 c1, .slice A2 n2 c2, .slice A3 n3 c3]] w (GivesRl w r) := by
  have i1 : n1 ≤ 1048576 := by rw [← rd_len h1]; exact hf.cond
  have i2 : n2 ≤ 1048576 := by rw [← rd_len h2]; exact hf.sets
  have i3 : n3 ≤ 1048576 := by rw [← rd_len h3]; exact hf.terms
  have i4 := Lib.hid hf.term
  have i5 := Lib.hid (rd_len h3)
  clear hf
  go_enter Try.func127, Try.ntmps127
  go_wp2_with fail
  refine (toTermS_M A1 n1 c1 r.cond _ (Mem.rd_on_alloc (Mem.rd_on_alloc (Mem.rd_on_alloc h1 _) _) _) i1).mono ?_
  rintro e w2 ⟨B1, m1, d1, f1, rfl, o1, nd1, lo1, b1⟩
  obtain ⟨hc1, hf1⟩ := bcell b1
  have hz1 := b1.size
  have L1 : Below w.heap.size w w2 := (((below_alloc w _).alloc (by simp) _).alloc (by simp; omega) _).trans (b1.mono (by simp; omega))
  have g1 : ∀ b ∈ f1, b < w2.heap.size := Mem.own_lt o1
  simp only [World.size_alloc] at lo1 hz1
  have q1 : w.heap.size + 1 + 1 < w2.heap.size := by omega
  have p1 : w.heap.size + 1 < w2.heap.size := by omega
  have q1' : w.heap.size < w2.heap.size := by omega
  go_wp2_with fail
  have L2 := L1.setCell (p := ⟨w.heap.size + 1 + 1, 0, none⟩) (by simp; omega) (.slice B1 m1 d1)
  refine (toIntS_M A2 n2 c2 r.sets _ (Mem.rd_on h2 L2) i2).mono ?_
  rintro e w3 ⟨B2, m2, d2, f2, rfl, o2, nd2, lo2, b2⟩
  obtain ⟨hc2, hf2⟩ := bcell b2
  have hz2 := b2.size
  have g2 : ∀ b ∈ f2, b < w3.heap.size := Mem.own_lt o2
  simp only [World.size_setCell] at lo2 hz2
  have q2 : w.heap.size + 1 + 1 < w3.heap.size := by omega
  have p2 : w.heap.size + 1 < w3.heap.size := by omega
  have q2' : w.heap.size < w3.heap.size := by omega
  have L3 := L2.trans (b2.mono (by simp; omega))
  go_wp2_with fail
  have L4 := L3.setCell (p := ⟨w.heap.size + 1 + 1, 1, none⟩) (by simp; omega) (.slice B2 m2 d2)
  refine (toTermSS_any A3 n3 c3 r.terms _ (Mem.rd_on h3 L4) i3 (fun k hk => i4.out k (by rw [i5.out]; exact hk))).mono ?_
  rintro e w4 ⟨B3, m3, d3, f3, rfl, o3, nd3, lo3, b3⟩
  obtain ⟨hc3, hf3⟩ := bcell b3
  have hz3 := b3.size
  simp only [World.size_setCell] at lo3 hz3
  have q3 : w.heap.size + 1 + 1 < w4.heap.size := by omega
  have p3 : w.heap.size + 1 < w4.heap.size := by omega
  have L5 := L4.trans (b3.mono (by simp; omega))
  have k1 := Mem.own_below (Mem.own_keep o1 (w' := w2.setCell ⟨w.heap.size + 1 + 1, 0, none⟩ (.slice B1 m1 d1)) fun b hb => setCell_heap _ _ _ (by have := lo1 b hb; show b ≠ w.heap.size + 1 + 1; omega)) b2
  have k1 := Mem.own_below (Mem.own_keep k1 (w' := w3.setCell ⟨w.heap.size + 1 + 1, 1, none⟩ (.slice B2 m2 d2)) fun b hb => setCell_heap _ _ _ (by have := lo1 b hb; show b ≠ w.heap.size + 1 + 1; omega)) b3
  have k2 := Mem.own_below (Mem.own_keep o2 (w' := w3.setCell ⟨w.heap.size + 1 + 1, 1, none⟩ (.slice B2 m2 d2)) fun b hb => setCell_heap _ _ _ (by have := lo2 b hb; show b ≠ w.heap.size + 1 + 1; omega)) b3
  go_wp2_with fail
  have keep : ∀ b, w.heap.size + 1 + 1 < b → ((((w4.setCell ⟨w.heap.size + 1 + 1, 2, none⟩ (Value.slice B3 m3 d3)).setCell ⟨w.heap.size + 1, 0, none⟩ (Value.slice B1 m1 d1)).setCell ⟨w.heap.size + 1, 1, none⟩ (Value.slice B2 m2 d2)).setCell ⟨w.heap.size + 1, 2, none⟩ (Value.slice B3 m3 d3)).heap[b]? = w4.heap[b]? := by
    intro b hb
    rw [setCell_heap _ _ _ (show b ≠ w.heap.size + 1 by omega), setCell_heap _ _ _ (show b ≠ w.heap.size + 1 by omega), setCell_heap _ _ _ (show b ≠ w.heap.size + 1 by omega), setCell_heap _ _ _ (show b ≠ w.heap.size + 1 + 1 by omega)]
  refine bodyPost_ret (v := .agg #[.slice B1 m1 d1, .slice B2 m2 d2, .slice B3 m3 d3]) (by simp [results, Try.results127, go_sem, hc3, hc2, hc1, p1, p2]) rfl ⟨B1, m1, d1, B2, m2, d2, B3, m3, d3, f1 ++ (f2 ++ f3), rfl,
    ⟨[_], [_, _], f1, f2 ++ f3, rfl, rfl, Mem.own_keep k1 fun b hb => keep b (by have := lo1 b hb; omega), [_], [_], f2, f3, rfl, rfl, Mem.own_keep k2 fun b hb => keep b (by have := lo2 b hb; omega), Mem.own_keep o3 fun b hb => keep b (by have := lo3 b hb; omega)⟩, ?_, ?_, ?_⟩
  · exact nodup_two nd1 (nodup_two nd2 nd3 g2 lo3) g1 fun b hb => by
      rcases List.mem_append.1 hb with hb | hb
      · have := lo2 b hb; omega
      · have := lo3 b hb; omega
  · intro b hb
    rcases List.mem_append.1 hb with hb | hb
    · have := lo1 b hb; omega
    · rcases List.mem_append.1 hb with hb | hb
      · have := lo2 b hb; omega
      · have := lo3 b hb; omega
  · exact (((L5.setCell (p := ⟨w.heap.size + 1 + 1, 2, none⟩) (by simp; omega) _).setCell (by simp) _).setCell (by simp) _).setCell (by simp) _

set_option maxHeartbeats 1000000 in
theorem toRuleS_any (A : Option Addr) (n c : Nat) (l : List Rl) (w : World) (h : Mem.rd w w.heap.size [.slice A n c] l) (hn : n ≤ 1048576) (hs : ∀ k, k < n → (el l k).Fits) :
    Calls Try.prog 94 #[.slice A n c] w (GivesL w l) := by
  go_enter Try.func94, Try.ntmps94
  go_wp2_with (first | (at_make; refine wpList_make_full _ rfl _ _ 71 rfl w.heap.size 150 rlRow _ 3 Try.underlying71 rl_row.1 rl_row.2.1 rl_row.2.2.1 _ _ _ _ n rfl rfl rfl rfl (by rw [rl_row.2.2.2]; omega) (by unfold maxLen; omega) (Nat.le_refl _) ?_; intro w1 hown hg))
  have hbw := (Below.refl w.heap.size w).grown hg (Nat.le_refl _) (by simp)
  have hblk := (Blk.of_own hown).1
  have hblk : Blk w1 w.heap.size 150 (cat (fun _ => [.slice none 0 0, .slice none 0 0, .slice none 0 0]) n) := made_cat #[.slice none 0 0, .slice none 0 0, .slice none 0 0] n ▸ hblk
  have hmade := MadeL.zero (l := l) hblk
  clear hg hown hblk
  go_loopg [4] n (fun m i wr => ∃ k : Nat, k + m = n ∧ i = .int .i64 k ∧ MadeL wr w.heap.size 150 [.slice none 0 0, .slice none 0 0, .slice none 0 0] n k l ∧ Below w.heap.size w wr)
  case atStart => exact ⟨0, by omega, rfl, hmade, hbw⟩
  case round =>
    clear hmade hbw
    obtain ⟨k, hk, rfl, hm, hb⟩ := hrel
    by_cases hlt : k < n
    · obtain ⟨ad, A1, n1, c1, A2, n2, c2, A3, n3, c3, rfl, _, h0, h1, h2, r1, r2, r3⟩ := rl_at (Mem.rd_below h hb) hlt
      have r1 := Mem.rd_more r1 hb.size
      have r2 := Mem.rd_more r2 hb.size
      have r3 := Mem.rd_more r3 hb.size
      have hfit := hs k hlt
      obtain ⟨X, Y, hblk, hX, hstep⟩ := hm.room hlt
      have hX3 : X.length = k * 3 := hX
      have HX := Lib.hid hX3
      have HS := Lib.hid hstep
      clear hm hX hX3 hstep
      go_wp2_with (first | (go_at_call 127; refine (toRule_any (el l k) A1 n1 c1 A2 n2 c2 A3 n3 c3 _ r1 r2 r3 hfit).mono ?_; rintro e w2 ⟨B1, m1, d1, B2, m2, d2, B3, m3, d3, fp, rfl, o2, nd2, lo2, hb2⟩
                            have HK := Lib.hid (hblk.below hb2 hblk.lt)
                            have f0 := HK.out.frozen (k * 3)
                            have f1 := HK.out.frozen (k * 3 + 1)
                            have f2 := HK.out.frozen (k * 3 + 2)
                            have c0 : w2.cell? ⟨w.heap.size, k * 3, none⟩ = some (.slice none 0 0) := (HK.out.cell (k * 3)).trans (by rw [List.getElem?_append_right (by rw [HX.out]; omega), HX.out]; simp)
                            have c1 : w2.cell? ⟨w.heap.size, k * 3 + 1, none⟩ = some (.slice none 0 0) := (HK.out.cell (k * 3 + 1)).trans (by rw [List.getElem?_append_right (by rw [HX.out]; omega), HX.out]; simp)
                            have c2 : w2.cell? ⟨w.heap.size, k * 3 + 2, none⟩ = some (.slice none 0 0) := (HK.out.cell (k * 3 + 2)).trans (by rw [List.getElem?_append_right (by rw [HX.out]; omega), HX.out]; simp)))
      go_roundg (n - (k + 1))
      case measure => omega
      case rel =>
        refine ⟨k + 1, by omega, by go_num, HS.out _ fp w2 _ hb2 o2 nd2 lo2 ?_ ?_, ?_⟩
        · rw [← set_three HX.out (.slice none 0 0) (.slice none 0 0) (.slice none 0 0)]
          exact ((HK.out.set _ _).set _ _).set _ _
        · intro b hb'
          rw [setCell_heap _ _ _ hb', setCell_heap _ _ _ hb', setCell_heap _ _ _ hb']
        · exact (((hb.trans (hb2.mono hb.size)).setCell (Nat.le_refl _) _).setCell (Nat.le_refl _) _).setCell (Nat.le_refl _) _
    · obtain rfl : k = n := by omega
      go_wp2
      go_ret
      obtain ⟨fp, o, nd, lo⟩ := hm.all (rd_len h) (rd_max h)
      exact ⟨_, _, _, fp, rfl, o, nd, lo, hb⟩

/-- The call gives a new system. -/
def GivesSy (w : World) (s : Sy) (e : Ending) (w' : World) : Prop :=
  ∃ A1 n1 c1 A2 n2 c2 f1 f2, e = .returned (.agg #[.slice A1 n1 c1, .slice A2 n2 c2]) ∧ Mem.own w' f1 [.slice A1 n1 c1] s.vars ∧ Mem.own w' f2 [.slice A2 n2 c2] s.rules ∧ (f1 ++ f2).Nodup ∧ (∀ b ∈ f1 ++ f2, w.heap.size ≤ b) ∧ Below w.heap.size w w'
/-- A system that is not too large. -/
structure Sy.Fits (s : Sy) : Prop where
  vars : s.vars.length ≤ 1048576
  rules : s.rules.length ≤ 1048576
  rule : ∀ k, k < s.rules.length → (el s.rules k).Fits

set_option maxHeartbeats 1000000 in
theorem toSystem_any (s : Sy) (A1 : Option Addr) (n1 c1 : Nat) (A2 : Option Addr) (n2 c2 : Nat) (w : World) (h1 : Mem.rd w w.heap.size [.slice A1 n1 c1] s.vars) (h2 : Mem.rd w w.heap.size [.slice A2 n2 c2] s.rules) (hf : s.Fits) :
    Calls Try.prog 43 #[.agg #[.slice A1 n1 c1, .slice A2 n2 c2]] w (GivesSy w s) := by
  have i1 : n1 ≤ 1048576 := by rw [← rd_len h1]; exact hf.vars
  have i2 : n2 ≤ 1048576 := by rw [← rd_len h2]; exact hf.rules
  have i4 := Lib.hid hf.rule
  have i5 := Lib.hid (rd_len h2)
  clear hf
  go_enter Try.func43, Try.ntmps43
  go_wp2_with fail
  refine (toVarS_any A1 n1 c1 s.vars _ (Mem.rd_on_alloc (Mem.rd_on_alloc (Mem.rd_on_alloc h1 _) _) _) i1).mono ?_
  rintro e w2 ⟨B1, m1, d1, f1, rfl, o1, nd1, lo1, b1⟩
  obtain ⟨hc1, hf1⟩ := bcell b1
  have hz1 := b1.size
  have L1 : Below w.heap.size w w2 := (((below_alloc w _).alloc (by simp) _).alloc (by simp; omega) _).trans (b1.mono (by simp; omega))
  have g1 : ∀ b ∈ f1, b < w2.heap.size := Mem.own_lt o1
  simp only [World.size_alloc] at lo1 hz1
  have q1 : w.heap.size + 1 + 1 < w2.heap.size := by omega
  have p1 : w.heap.size + 1 < w2.heap.size := by omega
  have q1' : w.heap.size < w2.heap.size := by omega
  go_wp2_with fail
  have L2 := L1.setCell (p := ⟨w.heap.size + 1 + 1, 0, none⟩) (by simp; omega) (.slice B1 m1 d1)
  refine (toRuleS_any A2 n2 c2 s.rules _ (Mem.rd_on h2 L2) i2 (fun k hk => i4.out k (by rw [i5.out]; exact hk))).mono ?_
  rintro e w3 ⟨B2, m2, d2, f2, rfl, o2, nd2, lo2, b2⟩
  obtain ⟨hc2, hf2⟩ := bcell b2
  have hz2 := b2.size
  simp only [World.size_setCell] at lo2 hz2
  have q2 : w.heap.size + 1 + 1 < w3.heap.size := by omega
  have p2 : w.heap.size + 1 < w3.heap.size := by omega
  have L3 := L2.trans (b2.mono (by simp; omega))
  have k1 := Mem.own_below (Mem.own_keep o1 (w' := w2.setCell ⟨w.heap.size + 1 + 1, 0, none⟩ (.slice B1 m1 d1)) fun b hb => setCell_heap _ _ _ (by have := lo1 b hb; show b ≠ w.heap.size + 1 + 1; omega)) b2
  go_wp2_with fail
  have keep : ∀ b, w.heap.size + 1 + 1 < b → (((w3.setCell ⟨w.heap.size + 1 + 1, 1, none⟩ (Value.slice B2 m2 d2)).setCell ⟨w.heap.size + 1, 0, none⟩ (Value.slice B1 m1 d1)).setCell ⟨w.heap.size + 1, 1, none⟩ (Value.slice B2 m2 d2)).heap[b]? = w3.heap[b]? := by
    intro b hb
    rw [setCell_heap _ _ _ (show b ≠ w.heap.size + 1 by omega), setCell_heap _ _ _ (show b ≠ w.heap.size + 1 by omega), setCell_heap _ _ _ (show b ≠ w.heap.size + 1 + 1 by omega)]
  refine bodyPost_ret (v := .agg #[.slice B1 m1 d1, .slice B2 m2 d2]) (by simp [results, Try.results43, go_sem, hc2, hc1, p1]) rfl ⟨B1, m1, d1, B2, m2, d2, f1, f2, rfl,
    Mem.own_keep k1 fun b hb => keep b (by have := lo1 b hb; omega), Mem.own_keep o2 fun b hb => keep b (by have := lo2 b hb; omega), nodup_two nd1 nd2 g1 lo2, ?_, ?_⟩
  · intro b hb
    rcases List.mem_append.1 hb with hb | hb
    · have := lo1 b hb; omega
    · have := lo2 b hb; omega
  · exact ((L3.setCell (p := ⟨w.heap.size + 1 + 1, 1, none⟩) (by simp; omega) _).setCell (by simp) _).setCell (by simp) _
end Go.Proofs.Ythlkbkomecnbaaa
