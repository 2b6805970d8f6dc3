/- Diagrams that are made anew of the forks to which one comes (plain). -/
import Derived.Test.YtnhjcokmajejcaaDgP
import Derived.Test.YtnhjcokmajejcaaOr
namespace Go.Proofs.Ytnhjcokmajejcaa
open Go.RowKit
set_option maxRecDepth 100000

/-! ### Compacted -/
/-- What a place is called where the forks src have been put. -/
def pm (src : List Int) (y : Int) : Int := if y < 2 then y else 2 + ((src.idxOf y : Nat) : Int)
def inS (src : List Int) (y : Int) : Prop := y < 2 ∨ y ∈ src
theorem pm_app {src l : List Int} {y : Int} (h : inS src y) : pm (src ++ l) y = pm src y := by
  unfold pm
  by_cases q : y < 2
  · rw [if_pos q, if_pos q]
  · rw [if_neg q, if_neg q, List.idxOf_append, if_pos (h.resolve_left q)]
theorem inS_app {src l : List Int} {y : Int} (h : inS src y) : inS (src ++ l) y := h.imp id fun q => List.mem_append_left _ q
theorem pm_new {src : List Int} {y : Int} (h2 : 2 ≤ y) (h : y ∉ src) : pm (src ++ [y]) y = 2 + (src.length : Int) := by
  unfold pm
  rw [if_neg (by omega), List.idxOf_append, if_neg h]
  simp
theorem pm_at {src : List Int} (nd : src.Nodup) {i : Nat} (hi : i < src.length) (h2 : 2 ≤ ix src i) : pm src (ix src i) = 2 + (i : Int) := by
  unfold pm
  rw [if_neg (by omega), ix_lt hi]
  have := List.idxOf_lt_length_of_mem (List.getElem_mem hi)
  have e := List.getElem_idxOf this
  have := (List.getElem_inj nd).1 e
  omega
/-- Where a known place stands. -/
theorem inS_ix {src : List Int} {y : Int} (h : y ∈ src) : ∃ i, i < src.length ∧ ix src i = y ∧ src.idxOf y = i := by
  have := List.idxOf_lt_length_of_mem h
  exact ⟨src.idxOf y, this, by rw [ix_lt this]; exact List.getElem_idxOf this, rfl⟩
theorem pm_lt {src : List Int} {y : Int} (h : inS src y) (h0 : 0 ≤ y) : 0 ≤ pm src y ∧ pm src y < 2 + src.length := by
  unfold pm
  by_cases q : y < 2
  · rw [if_pos q]; omega
  · rw [if_neg q]
    have := List.idxOf_lt_length_of_mem (h.resolve_left q)
    omega
theorem pm_inj {src : List Int} {x y : Int} (hx : inS src x) (hy : inS src y) (e : pm src x = pm src y) (_x0 : 0 ≤ x) (_y0 : 0 ≤ y) : x = y := by
  unfold pm at e
  by_cases qx : x < 2
  · rw [if_pos qx] at e
    by_cases qy : y < 2
    · rw [if_pos qy] at e; exact e
    · rw [if_neg qy] at e; omega
  · rw [if_neg qx] at e
    by_cases qy : y < 2
    · rw [if_pos qy] at e; omega
    · rw [if_neg qy] at e
      obtain ⟨i, hi, ei, ii⟩ := inS_ix (hx.resolve_left qx)
      obtain ⟨j, hj, ej, jj⟩ := inS_ix (hy.resolve_left qy)
      have : i = j := by omega
      rw [← ei, ← ej, this]
/-- A diagram M is made of the forks src of d, in their order. -/
structure Src (d M : Dg) (src : List Int) : Prop where
  vars : M.vars = d.vars
  len : src.length = M.forks.length
  nd : src.Nodup
  inn : ∀ x ∈ src, 2 ≤ x ∧ x < 2 + d.forks.length
  kids : ∀ x ∈ src, inS src (fkA d x).lo ∧ inS src (fkA d x).hi
  fork : ∀ i, i < src.length → el M.forks i = ⟨(fkA d (ix src i)).v, pm src (fkA d (ix src i)).lo, pm src (fkA d (ix src i)).hi⟩
theorem src_few {d M : Dg} {src : List Int} (h : Src d M src) : src.length ≤ d.forks.length := by
  have := inj_len d.forks.length (src.map (· - 2)) (by
    rw [List.nodup_iff_pairwise_ne, List.pairwise_map]
    exact (List.nodup_iff_pairwise_ne.1 h.nd).imp fun {a b} q e => q (by omega)) fun x hx => by
      obtain ⟨y, hy, rfl⟩ := List.mem_map.1 hx
      have := h.inn y hy
      omega
  rwa [List.length_map] at this
theorem src_new {d M : Dg} {src : List Int} (h : Src d M src) {n : Int} (h2 : 2 ≤ n) (hn : n < 2 + d.forks.length) (hm : n ∉ src) : src.length < d.forks.length := by
  have := inj_len d.forks.length ((n :: src).map (· - 2)) (by
    rw [List.nodup_iff_pairwise_ne, List.pairwise_map]
    exact (List.nodup_iff_pairwise_ne.1 (List.nodup_cons.2 ⟨hm, h.nd⟩)).imp fun {a b} q e => q (by omega)) fun x hx => by
      obtain ⟨y, hy, rfl⟩ := List.mem_map.1 hx
      rcases List.mem_cons.1 hy with rfl | hy
      · omega
      · have := h.inn y hy
        omega
  rw [List.length_map, List.length_cons] at this
  omega
/-- The variable stays. -/
theorem src_var {d M : Dg} {src : List Int} (h : Src d M src) {y : Int} (hy : inS src y) : varP M (pm src y) = varP d y := by
  unfold pm
  by_cases q : y < 2
  · rw [if_pos q]
    unfold varP
    rw [if_pos q, if_pos q, h.vars]
  · rw [if_neg q]
    obtain ⟨i, hi, ei, ii⟩ := inS_ix (hy.resolve_left q)
    unfold varP
    rw [if_neg (by omega), if_neg q]
    unfold fkA
    rw [ii, show (2 + (i : Int) - 2).toNat = i by omega, h.fork i hi, ei]
    rfl
/-- The fork that a place becomes, where the two places behind it are known. -/
theorem src_find {d M : Dg} {src : List Int} (ok : d.Ok) (h : Src d M src) {n : Int} (h2 : 2 ≤ n) (hn : n < 2 + d.forks.length) (hl : inS src (fkA d n).lo) (hh : inS src (fkA d n).hi) {i : Nat} (hi : i < M.forks.length)
    (e : el M.forks i = ⟨(fkA d n).v, pm src (fkA d n).lo, pm src (fkA d n).hi⟩) : ix src i = n := by
  have hi' : i < src.length := by rw [h.len]; exact hi
  rw [h.fork i hi'] at e
  injection e with e1 e2 e3
  have hm : ix src i ∈ src := by rw [ix_lt hi']; exact List.getElem_mem hi'
  have hx := h.inn _ hm
  have hk := h.kids _ hm
  have F := ok.fit hx.1 hx.2
  have G := ok.fit h2 hn
  have q2 := pm_inj hk.1 hl e2 F.l0 G.l0
  have q3 := pm_inj hk.2 hh e3 F.h0 G.h0
  have eq : fkA d (ix src i) = fkA d n := fk_ext ⟨e1, q2, q3⟩
  unfold fkA at eq
  have key : ∀ a b : Nat, a < b → b < d.forks.length → el d.forks a = el d.forks b → False := fun a b hab hb q => ok.one a b hab hb q
  rcases Nat.lt_trichotomy (ix src i - 2).toNat (n - 2).toNat with q | q | q
  · exact (key _ _ q (by omega) eq).elim
  · omega
  · exact (key _ _ q (by omega) eq.symm).elim
/-- A fork is put, or is there. -/
theorem src_put {d M : Dg} {src : List Int} (ok : d.Ok) (mok : M.Ok) (h : Src d M src) {n : Int} (h2 : 2 ≤ n) (hn : n < 2 + d.forks.length) (hl : inS src (fkA d n).lo) (hh : inS src (fkA d n).hi) :
    ∃ l, Src d (adF M ⟨(fkA d n).v, pm src (fkA d n).lo, pm src (fkA d n).hi⟩).1 (src ++ l) ∧ (adF M ⟨(fkA d n).v, pm src (fkA d n).lo, pm src (fkA d n).hi⟩).2 = pm (src ++ l) n ∧ n ∈ src ++ l ∧
      Ext M (adF M ⟨(fkA d n).v, pm src (fkA d n).lo, pm src (fkA d n).hi⟩).1 ∧ (adF M ⟨(fkA d n).v, pm src (fkA d n).lo, pm src (fkA d n).hi⟩).1.Ok ∧ (n ∈ src → l = [] ∧ (adF M ⟨(fkA d n).v, pm src (fkA d n).lo, pm src (fkA d n).hi⟩).1 = M) ∧ (n ∉ src → l = [n]) ∧
      fitK M ⟨(fkA d n).v, pm src (fkA d n).lo, pm src (fkA d n).hi⟩ (M.forks.length + 1) := by
  have F := ok.fit h2 hn
  have l0 := F.l0
  have h0 := F.h0
  have pl := pm_lt hl l0
  have ph := pm_lt hh h0
  have len := h.len
  have fit : fitK M ⟨(fkA d n).v, pm src (fkA d n).lo, pm src (fkA d n).hi⟩ (M.forks.length + 1) := ⟨F.v0, by rw [h.vars]; exact F.v1, pl.1, by dsimp only; omega, ph.1, by dsimp only; omega,
    by dsimp only; rw [src_var h hl]; exact F.lv, by dsimp only; rw [src_var h hh]; exact F.hv⟩
  have ne : pm src (fkA d n).lo ≠ pm src (fkA d n).hi := fun e => ok.apart (n - 2).toNat (by omega) (pm_inj hl hh e l0 h0)
  have A := adF_ok mok fit
  unfold adF at A ⊢
  rw [if_neg (by dsimp only; omega), if_neg ne] at A ⊢
  cases q : fkB M.forks ⟨(fkA d n).v, pm src (fkA d n).lo, pm src (fkA d n).hi⟩ with
  | some i =>
    obtain ⟨hi, ei, _⟩ := fkTo_some q
    have en := src_find ok h h2 hn hl hh hi ei
    have hm : n ∈ src := by rw [← en, ix_lt (by omega)]; exact List.getElem_mem _
    dsimp only
    refine ⟨[], by rw [List.append_nil]; exact h, ?_, by rw [List.append_nil]; exact hm, Ext.refl M, mok, fun _ => ⟨rfl, rfl⟩, fun z => absurd hm z, fit⟩
    rw [List.append_nil, ← en, pm_at h.nd (by omega) (by rw [en]; exact h2)]
    omega
  | none =>
    have hm : n ∉ src := fun hm => by
      obtain ⟨i, hi, ei, _⟩ := inS_ix hm
      refine fkTo_not q i (by omega) ?_
      rw [h.fork i hi, ei]
    have few := src_new h h2 hn hm
    have := ok.few
    rw [q] at A
    dsimp only at A ⊢
    rw [if_neg (by omega)] at A ⊢
    have A := A (by dsimp only; omega)
    refine ⟨[n], ⟨h.vars, by simp [len], ?_, ?_, ?_, ?_⟩, by rw [pm_new h2 hm]; dsimp only; omega, by simp, A.1, A.2.1, fun z => absurd z hm, fun _ => rfl, fit⟩
    · rw [List.nodup_append]
      refine ⟨h.nd, by simp, fun a ha b hb e => ?_⟩
      rw [List.mem_singleton] at hb
      subst hb
      subst e
      exact hm ha
    · intro x hx
      rcases List.mem_append.1 hx with hx | hx
      · exact h.inn x hx
      · rw [List.mem_singleton] at hx; subst hx; exact ⟨h2, hn⟩
    · intro x hx
      rcases List.mem_append.1 hx with hx | hx
      · have := h.kids x hx
        exact ⟨inS_app this.1, inS_app this.2⟩
      · rw [List.mem_singleton] at hx; subst hx; exact ⟨inS_app hl, inS_app hh⟩
    · intro i hi
      rw [List.length_append, List.length_singleton] at hi
      dsimp only
      by_cases z : i < src.length
      · have hx : ix (src ++ [n]) i = ix src i := by unfold ix; rw [List.getElem?_append_left z]
        have hmx : ix src i ∈ src := by rw [ix_lt z]; exact List.getElem_mem z
        have hk := h.kids _ hmx
        rw [hx, el_left (by omega), h.fork i z, pm_app hk.1, pm_app hk.2]
      · obtain rfl : i = src.length := by omega
        have hx : ix (src ++ [n]) src.length = n := by unfold ix; simp
        rw [hx, pm_app hl, pm_app hh, len, el_last]
/-- What a place of a diagram becomes in another one. -/
def inF : Nat → Dg → Dg → Int → Dg × Int
  | 0, _, M, _ => (M, -1)
  | k + 1, d, M, n => if n < 2 then (M, n) else
    adF (inF k d (inF k d M (fkA d n).lo).1 (fkA d n).hi).1 ⟨(fkA d n).v, (inF k d M (fkA d n).lo).2, (inF k d (inF k d M (fkA d n).lo).1 (fkA d n).hi).2⟩
theorem inF_const {k : Nat} {d M : Dg} {n : Int} (h : n < 2) : inF (k + 1) d M n = (M, n) := by unfold inF; rw [if_pos h]
theorem inF_two {k : Nat} {d M : Dg} {n : Int} (h : ¬ n < 2) : inF (k + 1) d M n = adF (inF k d (inF k d M (fkA d n).lo).1 (fkA d n).hi).1 ⟨(fkA d n).v, (inF k d M (fkA d n).lo).2, (inF k d (inF k d M (fkA d n).lo).1 (fkA d n).hi).2⟩ := by
  conv => lhs; unfold inF
  rw [if_neg h]
theorem inF_ok {d : Dg} (ok : d.Ok) : ∀ (k : Nat) (M : Dg) (src : List Int) (n : Int), isP d n = true → d.vars - varP d n < k → M.Ok → Src d M src →
    ∃ l, Src d (inF k d M n).1 (src ++ l) ∧ (inF k d M n).2 = pm (src ++ l) n ∧ inS (src ++ l) n ∧ Ext M (inF k d M n).1 ∧ (inF k d M n).1.Ok ∧ (inS src n → l = [] ∧ (inF k d M n).1 = M)
  | 0, M, src, n, p, hk, _, _ => by have := (ok.var p).2; omega
  | k + 1, M, src, n, p, hk, mok, S => by
    by_cases h : n < 2
    · rw [inF_const h]
      exact ⟨[], by rw [List.append_nil]; exact S, by rw [List.append_nil]; unfold pm; rw [if_pos h], .inl h, Ext.refl M, mok, fun _ => ⟨rfl, rfl⟩⟩
    · rw [inF_two h]
      have hp := isP_iff.1 p
      have F := ok.fit (n := n) (by omega) hp.2
      have ev : varP d n = (fkA d n).v := by unfold varP; rw [if_neg h]
      have lv := F.lv
      have hv := F.hv
      obtain ⟨l1, S1, e1, i1, E1, k1, z1⟩ := inF_ok ok k M src (fkA d n).lo (F.low (by omega)) (by omega) mok S
      obtain ⟨l2, S2, e2, i2, E2, k2, z2⟩ := inF_ok ok k (inF k d M (fkA d n).lo).1 (src ++ l1) (fkA d n).hi (F.high (by omega)) (by omega) k1 S1
      obtain ⟨l3, S3, e3, i3, E3, k3, z3, _, _⟩ := src_put ok k2 S2 (n := n) (by omega) hp.2 (inS_app i1) i2
      rw [← e2, pm_app i1, ← e1] at S3 e3 E3 k3 z3
      refine ⟨l1 ++ (l2 ++ l3), by rw [← List.append_assoc, ← List.append_assoc]; exact S3, by rw [← List.append_assoc, ← List.append_assoc]; exact e3, .inr (by rw [← List.append_assoc, ← List.append_assoc]; exact i3), (E1.trans E2).trans E3, k3, fun hS => ?_⟩
      have hm := hS.resolve_left h
      have hkid := S.kids n hm
      obtain ⟨rfl, m1⟩ := z1 hkid.1
      obtain ⟨rfl, m2⟩ := z2 (inS_app hkid.2)
      obtain ⟨rfl, m3⟩ := z3 (List.mem_append_left _ (List.mem_append_left _ hm))
      exact ⟨rfl, by rw [m3, m2, m1]⟩
theorem src_nil (d : Dg) : Src d ⟨d.vars, []⟩ [] := ⟨rfl, rfl, List.nodup_nil, by simp, by simp, by simp⟩
end Go.Proofs.Ytnhjcokmajejcaa
