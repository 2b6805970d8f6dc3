/- Diagrams of rows of values: there is always room for them (plain). -/
import Derived.Test.YtnhjcokmajejcaaDoorDgP
namespace Go.Proofs.YtnhjcokmajejcaaDoor
open Go.RowKit
set_option maxRecDepth 100000

/-- The diagram of rows of values: so many variables are left, from v on. -/
def roF : Nat → Dg → Int → List Int → Dg × Int
  | 0, M, _, L => (M, ix L 0)
  | k + 1, M, v, L => adF (roF k (roF k M (v + 1) (L.take (2 ^ k))).1 (v + 1) (L.drop (2 ^ k))).1 ⟨v, (roF k M (v + 1) (L.take (2 ^ k))).2, (roF k (roF k M (v + 1) (L.take (2 ^ k))).1 (v + 1) (L.drop (2 ^ k))).2⟩
theorem roF_zero (M : Dg) (v : Int) (L : List Int) : roF 0 M v L = (M, ix L 0) := rfl
theorem roF_succ (k : Nat) (M : Dg) (v : Int) (L : List Int) : roF (k + 1) M v L = adF (roF k (roF k M (v + 1) (L.take (2 ^ k))).1 (v + 1) (L.drop (2 ^ k))).1 ⟨v, (roF k M (v + 1) (L.take (2 ^ k))).2, (roF k (roF k M (v + 1) (L.take (2 ^ k))).1 (v + 1) (L.drop (2 ^ k))).2⟩ := rfl
/-- How many forks have a variable ahead of the last two. -/
def upc (d : Dg) : Nat := d.forks.countP fun f => decide (f.v + 2 < d.vars)

theorem sub_len {α : Type} [DecidableEq α] : ∀ (l m : List α), l.Nodup → (∀ x ∈ l, x ∈ m) → l.length ≤ m.length
  | [], m, _, _ => Nat.zero_le _
  | x :: l, m, hd, h => by
    obtain ⟨hx, hd'⟩ := List.nodup_cons.1 hd
    have := sub_len l (m.erase x) hd' fun y hy => (List.mem_erase_of_ne (fun e => hx (by rw [← e]; exact hy))).2 (h y (List.mem_cons_of_mem _ hy))
    have hm := h x (by simp)
    rw [List.length_erase_of_mem hm] at this
    have := List.length_pos_of_mem hm
    rw [List.length_cons]
    omega
/-- The indices of the forks of a variable so far from the end. -/
def atV (d : Dg) (j : Int) : List Nat := (List.range d.forks.length).filter fun i => decide ((el d.forks i).v + j = d.vars)
theorem mem_atV {d : Dg} {j : Int} {i : Nat} : i ∈ atV d j ↔ i < d.forks.length ∧ (el d.forks i).v + j = d.vars := by unfold atV; rw [List.mem_filter, List.mem_range, decide_eq_true_iff]
theorem atV_nd (d : Dg) (j : Int) : (atV d j).Nodup := (List.nodup_range).filter _
theorem pairs_len (P : List Int) : (P.flatMap fun x => P.map fun y => (x, y)).length = P.length * P.length := by
  rw [List.length_flatMap]
  have : ∀ Q : List Int, (Q.map fun x => (P.map fun y => (x, y)).length).sum = Q.length * P.length := by
    intro Q
    induction Q with
    | nil => simp
    | cons x Q ih => rw [List.map_cons, List.sum_cons, ih, List.length_map, List.length_cons, Nat.add_mul, Nat.one_mul, Nat.add_comm]
  exact this P
theorem atV_few {d : Dg} (h : d.Ok) (j : Int) (P : List Int) (hp : ∀ i ∈ atV d j, (el d.forks i).lo ∈ P ∧ (el d.forks i).hi ∈ P) : (atV d j).length ≤ P.length * P.length := by
  have nd : ((atV d j).map fun i => ((el d.forks i).lo, (el d.forks i).hi)).Nodup := by
    rw [List.nodup_iff_pairwise_ne, List.pairwise_map]
    refine List.Pairwise.imp_of_mem (R := fun a b => a ≠ b) ?_ (List.nodup_iff_pairwise_ne.1 (atV_nd d j))
    intro a b ha hb hne e
    have pa := mem_atV.1 ha
    have pb := mem_atV.1 hb
    injection e with e1 e2
    have ev : (el d.forks a).v = (el d.forks b).v := by omega
    rcases Nat.lt_or_gt_of_ne hne with q | q
    · exact h.one a b q pb.1 (fk_ext ⟨ev, e1, e2⟩)
    · exact h.one b a q pa.1 (fk_ext ⟨ev.symm, e1.symm, e2.symm⟩)
  have := sub_len _ (P.flatMap fun x => P.map fun y => (x, y)) nd (by
    intro x hx
    obtain ⟨i, hi, rfl⟩ := List.mem_map.1 hx
    obtain ⟨q1, q2⟩ := hp i hi
    exact List.mem_flatMap.2 ⟨_, q1, List.mem_map.2 ⟨_, q2, rfl⟩⟩)
  rwa [List.length_map, pairs_len] at this
theorem atV_kid {d : Dg} (h : d.Ok) {i : Nat} (hi : i < d.forks.length) : (0 ≤ (el d.forks i).lo ∧ (el d.forks i).lo < 2 + d.forks.length ∧ (el d.forks i).v < varP d (el d.forks i).lo) ∧ (0 ≤ (el d.forks i).hi ∧ (el d.forks i).hi < 2 + d.forks.length ∧ (el d.forks i).v < varP d (el d.forks i).hi) := by
  have F := h.fork i hi
  have := F.l1
  have := F.h1
  exact ⟨⟨F.l0, by omega, F.lv⟩, ⟨F.h0, by omega, F.hv⟩⟩
theorem atV_one {d : Dg} (h : d.Ok) : (atV d 1).length ≤ 4 := by
  refine atV_few h 1 [0, 1] fun i hi => ?_
  have p := mem_atV.1 hi
  obtain ⟨⟨a0, a1, a2⟩, ⟨b0, b1, b2⟩⟩ := atV_kid h p.1
  have key : ∀ n : Int, 0 ≤ n → n < 2 + d.forks.length → (el d.forks i).v < varP d n → n ∈ [(0 : Int), 1] := by
    intro n n0 n1 n2
    by_cases q : n < 2
    · have : n = 0 ∨ n = 1 := by omega
      simpa using this
    · have := varP_lt h (isP_iff.2 ⟨n0, n1⟩) (by omega)
      omega
  exact ⟨key _ a0 a1 a2, key _ b0 b1 b2⟩
theorem atV_two {d : Dg} (h : d.Ok) : (atV d 2).length ≤ 36 := by
  have one := atV_one h
  have := atV_few h 2 (0 :: 1 :: (atV d 1).map fun (i : Nat) => (i : Int) + 2) fun i hi => by
    have p := mem_atV.1 hi
    obtain ⟨⟨a0, a1, a2⟩, ⟨b0, b1, b2⟩⟩ := atV_kid h p.1
    have key : ∀ n : Int, 0 ≤ n → n < 2 + d.forks.length → (el d.forks i).v < varP d n → n ∈ (0 :: 1 :: (atV d 1).map fun (i : Nat) => (i : Int) + 2) := by
      intro n n0 n1 n2
      by_cases q : n < 2
      · have : n = 0 ∨ n = 1 := by omega
        rcases this with rfl | rfl <;> simp
      · have := varP_lt h (isP_iff.2 ⟨n0, n1⟩) (by omega)
        refine List.mem_cons_of_mem _ (List.mem_cons_of_mem _ (List.mem_map.2 ⟨(n - 2).toNat, mem_atV.2 ⟨by omega, ?_⟩, by omega⟩))
        have e : varP d n = (el d.forks (n - 2).toNat).v := if_neg q
        omega
    exact ⟨key _ a0 a1 a2, key _ b0 b1 b2⟩
  rw [List.length_cons, List.length_cons, List.length_map] at this
  have q : (atV d 1).length + 1 + 1 ≤ 6 := by omega
  exact Nat.le_trans this (Nat.mul_le_mul q q)
theorem map_el {α : Type} [Inhabited α] (l : List α) : (List.range l.length).map (el l) = l := by
  refine List.ext_getElem (by simp) fun i h1 h2 => ?_
  rw [List.getElem_map, List.getElem_range, el_lt h2]
theorem few_room {d : Dg} (h : d.Ok) : d.forks.length ≤ upc d + 40 := by
  have e := List.length_eq_countP_add_countP (fun f : Fk => decide (f.v + 2 < d.vars)) (l := d.forks)
  have one := atV_one h
  have two := atV_two h
  have : d.forks.countP (fun f : Fk => ¬ (decide (f.v + 2 < d.vars)) = true) ≤ ((atV d 1) ++ (atV d 2)).length := by
    conv => lhs; rw [← map_el d.forks]
    rw [List.countP_map, List.countP_eq_length_filter]
    refine sub_len _ _ ((List.nodup_range).filter _) fun i hi => ?_
    rw [List.mem_filter, List.mem_range] at hi
    obtain ⟨h1, h2⟩ := hi
    have h3 : ¬ (el d.forks i).v + 2 < d.vars := by simpa using h2
    have := (h.fork i h1).v1
    rw [List.mem_append, mem_atV, mem_atV]
    omega
  rw [List.length_append] at this
  unfold upc
  omega
theorem upc_le {d : Dg} (f : Fk) : upc d ≤ upc (adF d f).1 ∧ upc (adF d f).1 ≤ upc d + if f.v + 2 < d.vars then 1 else 0 := by
  have key : upc ⟨d.vars, d.forks ++ [f]⟩ = upc d + if f.v + 2 < d.vars then 1 else 0 := by
    unfold upc
    rw [List.countP_append, List.countP_cons, List.countP_nil]
    simp
  unfold adF
  split
  · exact ⟨Nat.le_refl _, Nat.le_add_right _ _⟩
  split
  · exact ⟨Nat.le_refl _, Nat.le_add_right _ _⟩
  split
  · exact ⟨Nat.le_refl _, Nat.le_add_right _ _⟩
  split
  · exact ⟨Nat.le_refl _, Nat.le_add_right _ _⟩
  · rw [key]; exact ⟨Nat.le_add_right _ _, Nat.le_refl _⟩
theorem adF_room {d : Dg} {f : Fk} (l0 : 0 ≤ f.lo) (h0 : 0 ≤ f.hi) (hl : d.forks.length < 2000) : 0 ≤ (adF d f).2 := by
  unfold adF
  rw [if_neg (by omega)]
  split
  · exact l0
  split
  · dsimp only; omega
  · rw [if_neg (by omega)]
    dsimp only; omega
/-- So many forks are made at most ahead of the last two variables. -/
def ro2 : Nat → Nat
  | 0 => 0
  | k + 1 => 2 * ro2 k + if 2 ≤ k then 1 else 0
theorem ro2_mono {j : Nat} : ∀ {k : Nat}, j ≤ k → ro2 j ≤ ro2 k
  | 0, h => by obtain rfl : j = 0 := by omega
               exact Nat.le_refl _
  | k + 1, h => by
    by_cases e : j = k + 1
    · rw [e]; exact Nat.le_refl _
    · exact Nat.le_trans (ro2_mono (k := k) (by omega)) (by show ro2 k ≤ 2 * ro2 k + _; omega)
theorem ro2_12 : ro2 12 = 1023 := by decide
/-- What is made of rows is a diagram and a place of it. -/
theorem roF_ok : ∀ (k : Nat) (M : Dg) (v : Int) (L : List Int), M.Ok → 0 ≤ v → v + k = M.vars → L.length = 2 ^ k → (∀ x ∈ L, x = 0 ∨ x = 1) → upc M + ro2 k ≤ 1900 →
    Ext M (roF k M v L).1 ∧ (roF k M v L).1.Ok ∧ isP (roF k M v L).1 (roF k M v L).2 = true ∧ v ≤ varP (roF k M v L).1 (roF k M v L).2 ∧ upc (roF k M v L).1 ≤ upc M + ro2 k
  | 0, M, v, L, ok, v0, hv, hL, hb, _ => by
    rw [roF_zero]
    have : 0 < L.length := by rw [hL]; decide
    have m : ix L 0 ∈ L := by
      show (L[0]?.getD 0) ∈ L
      rw [List.getElem?_eq_getElem this]
      exact List.getElem_mem _
    have b := hb _ m
    refine ⟨Ext.refl M, ok, isP_iff.2 (by dsimp only; omega), ?_, Nat.le_add_right _ _⟩
    show v ≤ varP M (ix L 0)
    unfold varP
    rw [if_pos (by omega)]
    omega
  | k + 1, M, v, L, ok, v0, hv, hL, hb, hu => by
    have e2 : (2 : Nat) ^ (k + 1) = 2 ^ k + 2 ^ k := by rw [Nat.pow_succ]; omega
    have er : ro2 (k + 1) = 2 * ro2 k + if 2 ≤ k then 1 else 0 := rfl
    obtain ⟨E0, K0, P0, V0, U0⟩ := roF_ok k M (v + 1) (L.take (2 ^ k)) ok (by omega) (by omega) (by rw [List.length_take]; omega) (fun x hx => hb x (List.mem_of_mem_take hx)) (by rw [er] at hu; omega)
    obtain ⟨E1, K1, P1, V1, U1⟩ := roF_ok k (roF k M (v + 1) (L.take (2 ^ k))).1 (v + 1) (L.drop (2 ^ k)) K0 (by omega) (by rw [E0.vars]; omega) (by rw [List.length_drop]; omega) (fun x hx => hb x (List.mem_of_mem_drop hx)) (by rw [er] at hu; omega)
    have p0 := isP_iff.1 (E1.isP P0)
    have q1 := isP_iff.1 P1
    have ex := E0.trans E1
    have F : fitK (roF k (roF k M (v + 1) (L.take (2 ^ k))).1 (v + 1) (L.drop (2 ^ k))).1 ⟨v, (roF k M (v + 1) (L.take (2 ^ k))).2, (roF k (roF k M (v + 1) (L.take (2 ^ k))).1 (v + 1) (L.drop (2 ^ k))).2⟩ ((roF k (roF k M (v + 1) (L.take (2 ^ k))).1 (v + 1) (L.drop (2 ^ k))).1.forks.length + 1) :=
      ⟨v0, by rw [ex.vars]; show v < M.vars; omega, p0.1, by dsimp only; omega, q1.1, by dsimp only; omega, by dsimp only; rw [E1.varP (isP_iff.1 P0).2]; omega, by dsimp only; omega⟩
    have few := few_room K1
    have hr := adF_room (d := (roF k (roF k M (v + 1) (L.take (2 ^ k))).1 (v + 1) (L.drop (2 ^ k))).1) (f := ⟨v, (roF k M (v + 1) (L.take (2 ^ k))).2, (roF k (roF k M (v + 1) (L.take (2 ^ k))).1 (v + 1) (L.drop (2 ^ k))).2⟩) p0.1 q1.1 (by rw [er] at hu; omega)
    have A := adF_ok K1 F hr
    have U := (upc_le (d := (roF k (roF k M (v + 1) (L.take (2 ^ k))).1 (v + 1) (L.drop (2 ^ k))).1) ⟨v, (roF k M (v + 1) (L.take (2 ^ k))).2, (roF k (roF k M (v + 1) (L.take (2 ^ k))).1 (v + 1) (L.drop (2 ^ k))).2⟩).2
    rw [ex.vars] at U
    have ei : (if (⟨v, (roF k M (v + 1) (L.take (2 ^ k))).2, (roF k (roF k M (v + 1) (L.take (2 ^ k))).1 (v + 1) (L.drop (2 ^ k))).2⟩ : Fk).v + 2 < M.vars then 1 else 0) ≤ (if 2 ≤ k then 1 else 0) := by
      dsimp only
      split
      · rw [if_pos (by omega)]; exact Nat.le_refl _
      · exact Nat.zero_le _
    rw [roF_succ]
    exact ⟨ex.trans A.1, A.2.1, A.2.2.1, A.2.2.2, by rw [er]; omega⟩
/-- Rows of which none is true make nothing. -/
theorem roF_none : ∀ (k : Nat) (M : Dg) (v : Int) (L : List Int), L.length = 2 ^ k → (∀ x ∈ L, x = 0) → roF k M v L = (M, 0)
  | 0, M, v, L, hL, h => by
    have : 0 < L.length := by rw [hL]; decide
    have m : ix L 0 ∈ L := by
      show (L[0]?.getD 0) ∈ L
      rw [List.getElem?_eq_getElem this]
      exact List.getElem_mem _
    rw [roF_zero, h _ m]
  | k + 1, M, v, L, hL, h => by
    have e2 : (2 : Nat) ^ (k + 1) = 2 ^ k + 2 ^ k := by rw [Nat.pow_succ]; omega
    rw [roF_succ, roF_none k M (v + 1) (L.take (2 ^ k)) (by rw [List.length_take]; omega) (fun x hx => h x (List.mem_of_mem_take hx))]
    rw [roF_none k M (v + 1) (L.drop (2 ^ k)) (by rw [List.length_drop]; omega) (fun x hx => h x (List.mem_of_mem_drop hx))]
    rfl
theorem upc_empty (v : Int) : upc ⟨v, []⟩ = 0 := rfl
end Go.Proofs.YtnhjcokmajejcaaDoor
