/- Closed, of both. -/
import Derived.Test.YtfgjogmgcamfdaaGreatDoorCl
import Derived.Test.YtfgjogmgcamfdaaGreatDoorNnS
import Derived.Deep.RegionHeld3
namespace Go.Proofs.YtfgjogmgcamfdaaGreatDoor
open Go.RowKit

theorem pick_iff {P : Nat → Bool} {x : Int} : ∀ {m : Nat}, x ∈ pick P m ↔ ∃ n : Nat, n < m ∧ P n = true ∧ x = n
  | 0 => by simp [pick]
  | m + 1 => by
    show x ∈ pick P m ++ _ ↔ _
    rw [List.mem_append, pick_iff]
    constructor
    · rintro (⟨n, a, b, c⟩ | h)
      · exact ⟨n, by omega, b, c⟩
      · by_cases p : P m = true
        · rw [if_pos p, List.mem_singleton] at h
          exact ⟨m, by omega, p, h⟩
        · rw [if_neg p] at h; simp at h
    · rintro ⟨n, a, b, c⟩
      by_cases e : n = m
      · subst e; right; rw [if_pos b, c, List.mem_singleton]
      · exact .inl ⟨n, by omega, b, c⟩
theorem pick_mem {P : Nat → Bool} {x m : Nat} : (x : Int) ∈ pick P m ↔ x < m ∧ P x = true := by
  rw [pick_iff]
  constructor
  · rintro ⟨n, a, b, c⟩
    obtain rfl : x = n := by omega
    exact ⟨a, b⟩
  · rintro ⟨a, b⟩
    exact ⟨x, a, b, rfl⟩
theorem pick_zero {P : Nat → Bool} {m : Nat} : (pick P m).length = 0 ↔ ∀ x, x < m → P x = false := by
  rw [List.length_eq_zero_iff, List.eq_nil_iff_forall_not_mem]
  constructor
  · intro h x hx
    cases p : P x
    · rfl
    · exact absurd (pick_mem.2 ⟨hx, p⟩) (h x)
  · intro h x hx
    obtain ⟨n, a, b, _⟩ := pick_iff.1 hx
    rw [h n a] at b; cases b
theorem memP_iff {l : List Int} {x : Nat} : memP l x = true ↔ (x : Int) ∈ l := by unfold memP; rw [decide_eq_true_eq]
theorem ix_app_lt {l m : List Int} {k : Nat} (h : k < l.length) : ix (l ++ m) k = ix l k := by unfold ix; rw [List.getElem?_append_left h]
theorem ix_app_at {l : List Int} {x : Int} : ix (l ++ [x]) l.length = x := by unfold ix; simp
theorem lo_app {l m : List Int} : ∀ {k : Nat}, k ≤ l.length → lo (l ++ m) k = lo l k
  | 0, _ => rfl
  | k + 1, h => by show ix _ k + 1 = ix _ k + 1; rw [ix_app_lt (by omega)]
theorem sets_snoc {l : List Int} {x z : Int} (h : setsB l z = true) (h1 : ∀ y ∈ l, y < x) (h2 : 0 ≤ x) (h3 : x < z) : setsB (l ++ [x]) z = true := by
  unfold setsB at h ⊢
  rw [List.length_append, allTo_true]
  intro k hk
  simp at hk
  by_cases e : k < l.length
  · have := allTo_true.1 h k e
    unfold ascOk at this ⊢
    rw [ix_app_lt e, lo_app (by omega)]; exact this
  · obtain rfl : k = l.length := by omega
    unfold ascOk
    rw [ix_app_at, lo_app (Nat.le_refl _), decide_eq_true h3, Bool.and_true, decide_eq_true_eq]
    cases q : l.length with
    | zero => exact h2
    | succ j =>
      show ix l j + 1 ≤ x
      have hj : j < l.length := by omega
      have := h1 (ix l j) (by rw [ix_lt hj]; exact List.getElem_mem hj)
      omega
theorem sets_pick (P : Nat → Bool) {z : Int} : ∀ {m : Nat}, (m : Int) ≤ z → setsB (pick P m) z = true
  | 0, _ => rfl
  | m + 1, h => by
    have ih := sets_pick P (z := z) (m := m) (by omega)
    show setsB (pick P m ++ _) z = true
    by_cases p : P m = true
    · rw [if_pos p]
      refine sets_snoc ih (fun y hy => ?_) (by omega) (by omega)
      obtain ⟨n, a, _, c⟩ := pick_iff.1 hy
      omega
    · rw [if_neg p, List.append_nil]; exact ih
theorem sets_wide {l : List Int} {y z : Int} (h : setsB l y = true) (hz : y ≤ z) : setsB l z = true := by
  unfold setsB at h ⊢
  rw [allTo_true] at h ⊢
  intro k hk
  have := h k hk
  unfold ascOk at this ⊢
  rw [Bool.and_eq_true, decide_eq_true_eq, decide_eq_true_eq] at this ⊢
  omega
theorem nextNum_sets (s : Sy) (l : List Int) : setsB (nextNumB s l) 400 = true := by
  unfold nextNumB
  cases h : setB s l
  · rfl
  · unfold setB at h
    rw [Bool.and_eq_true] at h
    have := sizeB_bd h.1
    exact sets_pick _ (by omega)
theorem unF_iff {s : Sy} {l : List Int} {x : Nat} (hl : ∀ k, k < l.length → 0 ≤ ix l k) : unF s l l.length x = true ↔ x = firstN s ∨ ∃ n : Nat, (n : Int) ∈ l ∧ nxP s (stL s.vars n) s.rules.length x = true := by
  show (oneP (firstN s) x || unP s l l.length x) = true ↔ _
  rw [Bool.or_eq_true, oneP_iff, unP_iff]
  refine or_congr Iff.rfl ⟨?_, ?_⟩
  · rintro ⟨i, a, b⟩
    have := hl i a
    have e : ((ix l i).toNat : Int) = ix l i := by omega
    exact ⟨(ix l i).toNat, by rw [e, ix_lt a]; exact List.getElem_mem a, by rw [e]; exact b⟩
  · rintro ⟨n, a, b⟩
    obtain ⟨i, hi, e⟩ := mem_ix.1 (memP_iff.2 a)
    exact ⟨i, hi, by rw [e]; exact b⟩
/-- Whether a set is closed. -/
def closedB (s : Sy) (l : List Int) : Bool := setB s l && (decide ((firstN s : Int) ∈ l) && decide ((mixL gWithout (nextNumB s l) l).length = 0))
theorem pick_range {P : Nat → Bool} {m : Nat} : ∀ k, k < (pick P m).length → 0 ≤ ix (pick P m) k ∧ ix (pick P m) k < m ∧ P (ix (pick P m) k).toNat = true := fun k hk => by
  obtain ⟨n, a, b, c⟩ := pick_iff.1 (by rw [ix_lt hk]; exact List.getElem_mem hk : ix (pick P m) k ∈ pick P m)
  rw [c]
  exact ⟨by omega, by omega, by simpa using b⟩
theorem closed_eq {s : Sy} {l l' : List Int} (h : setB s l = true) (hl : l' = pick (memP l) 448) : emptyB (gWithout (unF s l' l'.length) (memP l)) = closedB s l := by
  have h' := h
  unfold setB at h'
  rw [Bool.and_eq_true] at h'
  have ok := sysOk_of h'.1
  have bd := sizeB_bd h'.1
  have fe := firstN_eq ok
  have hm : ∀ x : Nat, (x : Int) ∈ l' ↔ (x : Int) ∈ l := fun x => by
    rw [hl, pick_mem, memP_iff]
    refine ⟨fun a => a.2, fun a => ⟨?_, a⟩⟩
    obtain ⟨i, hi, e⟩ := mem_ix.1 (memP_iff.2 a)
    have := sets_range h'.2 i hi
    omega
  have hl0 : ∀ k, k < l'.length → 0 ≤ ix l' k := fun k hk => by rw [hl] at hk ⊢; exact (pick_range k hk).1
  unfold closedB
  rw [h, Bool.true_and]
  apply bool_iff
  rw [empty_iff, Bool.and_eq_true, decide_eq_true_eq, decide_eq_true_eq]
  unfold mixL
  rw [nextNum_sets, sets_wide h'.2 bd.2, Bool.and_true, if_pos rfl, pick_zero]
  have hn : ∀ x, memP (nextNumB s l) x = true ↔ ∃ n : Nat, (n : Int) ∈ l ∧ nxP s (stL s.vars n) s.rules.length x = true := fun x => by
    rw [memP_iff]
    unfold nextNumB
    rw [h, if_pos rfl, pick_mem]
    unfold behP
    rw [some_iff]
    constructor
    · rintro ⟨_, n, _, b⟩
      rw [Bool.and_eq_true, memP_iff] at b
      exact ⟨n, b.1, b.2⟩
    · rintro ⟨n, a, b⟩
      have := nxP_lt ok b
      obtain ⟨i, hi, e⟩ := mem_ix.1 (memP_iff.2 a)
      have := sets_range h'.2 i hi
      exact ⟨by omega, n, by omega, by rw [Bool.and_eq_true, memP_iff]; exact ⟨a, b⟩⟩
  have hg : ∀ (A B : Nat → Bool) x, gWithout A B x = false ↔ (A x = true → B x = true) := fun A B x => by
    unfold gWithout
    cases A x <;> cases B x <;> simp
  simp only [hg, unF_iff hl0, hn, hm]
  constructor
  · intro H
    exact ⟨memP_iff.1 (H (firstN s) (by omega) (.inl rfl)), fun x hx a => H x hx (.inr a)⟩
  · rintro ⟨H1, H2⟩ x hx (rfl | a)
    · exact memP_iff.2 H1
    · exact H2 x hx a

set_option maxRecDepth 100000 in
set_option maxHeartbeats 4000000 in
theorem closed_impl (s : Sy) (l : List Int) (A1 : Option Addr) (n1 c1 : Nat) (A2 : Option Addr) (n2 c2 : Nat) (A3 : Option Addr) (n3 c3 : Nat) (w : World) (h1 : Mem.rd w w.heap.size [.slice A1 n1 c1] s.vars) (h2 : Mem.rd w w.heap.size [.slice A2 n2 c2] s.rules) (h3 : Mem.rd w w.heap.size [.slice A3 n3 c3] l) (hT : DoorAt w) :
    Calls Tryz.prog 55 #[.agg #[.slice A1 n1 c1, .slice A2 n2 c2], .slice A3 n3 c3] w (GivesBool w (closedB s l)) := by
  have BX := Lib.hid (sy_box (w := w) (v1 := .slice A1 n1 c1) (v2 := .slice A2 n2 c2))
  obtain ⟨B0, x0, x1⟩ := BX.out _ (Below.refl _ _)
  have SK := Lib.hid (setValid_impl s l A1 n1 c1 A2 n2 c2 A3 n3 c3 (w.alloc (.cells #[.slice A1 n1 c1, .slice A2 n2 c2] 32)).drew (Mem.rd_on h1 ⟨B0.os, B0.tape, B0.output, B0.size, B0.block⟩) (Mem.rd_on h2 ⟨B0.os, B0.tape, B0.output, B0.size, B0.block⟩) (Mem.rd_on h3 ⟨B0.os, B0.tape, B0.output, B0.size, B0.block⟩))
  clear B0
  cases hz : setB s l
  · have E : Hid (closedB s l = false) := Lib.hid (by unfold closedB; rw [hz]; rfl)
    have HZ := Lib.hid hz; clear hz
    rw [E.out]
    go_enter Tryz.func55, Tryz.ntmps55
    go_wp2
    refine wp_region_held_drew (S := (fun w' => w'.cell? ⟨w.heap.size, 0, none⟩ = some (.slice A1 n1 c1) ∧ w'.cell? ⟨w.heap.size, 1, none⟩ = some (.slice A2 n2 c2))) (by kernel_rfl) ?_ (fun hHeld => ?_)
    · (try dsimp only); exact ⟨x0, x1⟩
    refine wpAnyH_take (i := 0) (v := ?av0) rfl (by kernel_rfl) (by kernel_rfl) (by kernel_rfl) (fun _ _ _ h => h) (Or.inl ⟨by kernel_rfl, ?ah0⟩) (by assumption) ?ar0
    case ah0 => ((intro w hSw; (try dsimp only at hSw); go_simp) <;> with_reducible rfl)
    (try simp only [List.getElem_toArray, List.getElem_cons_zero]); (try simp only [Act.put]); (try simp only [List.setIfInBounds_toArray]); (try simp only [List.set_cons_succ]); (try simp only [List.set_cons_zero])
    refine wpAnyH_take (i := 1) (v := ?av1) rfl (by kernel_rfl) (by kernel_rfl) (by kernel_rfl) (fun _ _ _ h => h) (Or.inl ⟨by kernel_rfl, ?ah1⟩) (by assumption) ?ar1
    case ah1 => ((intro w hSw; (try dsimp only at hSw); go_simp) <;> with_reducible rfl)
    (try simp only [List.getElem_toArray, List.getElem_cons_zero, List.getElem_cons_succ]); (try simp only [Act.put]); (try simp only [List.setIfInBounds_toArray]); (try simp only [List.set_cons_succ]); (try simp only [List.set_cons_zero])
    refine wpAnyH_ready (rs := [2]) (by kernel_rfl) (by simp) ?_
    refine AllReadyH.cons (o := _) rfl (fun K hK => ?_) AllReadyH.nil
    go_simp
    refine (SK.out).mono ?_
    rintro e w2 ⟨rfl, b2⟩
    rw [HZ.out]
    have b2 : Below (w.alloc (.cells #[.slice A1 n1 c1, .slice A2 n2 c2] 32)).heap.size (w.alloc (.cells #[.slice A1 n1 c1, .slice A2 n2 c2] 32)) w2 := ⟨b2.os, b2.tape, b2.output, b2.size, b2.block⟩
    obtain ⟨B2, x0, x1⟩ := BX.out _ b2
    refine hK.out _ _ ?_ (fun hHeld => ?_)
    · (try dsimp only); exact ⟨x0, x1⟩
    clear hK K
    (try simp only [List.getElem_toArray, List.getElem_cons_zero, List.getElem_cons_succ]); (try simp only [Act.put]); (try simp only [List.setIfInBounds_toArray]); (try simp only [List.set_cons_succ]); (try simp only [List.set_cons_zero])
    refine wpAnyH_take (i := 3) (v := ?av3) rfl (by kernel_rfl) (by kernel_rfl) (by kernel_rfl) (fun _ _ _ h => h) (Or.inl ⟨by kernel_rfl, ?ah3⟩) (by assumption) ?ar3
    case ah3 => ((intro w hSw; (try dsimp only at hSw); go_simp) <;> with_reducible rfl)
    (try simp only [List.getElem_toArray, List.getElem_cons_zero, List.getElem_cons_succ]); (try simp only [Act.put]); (try simp only [List.setIfInBounds_toArray]); (try simp only [List.set_cons_succ]); (try simp only [List.set_cons_zero])
    refine wpAnyH_take (i := 4) (v := undef) rfl (by kernel_rfl) (by kernel_rfl) (by kernel_rfl) (fun _ _ _ h => h) (Or.inr ⟨by kernel_rfl, rfl⟩) (by assumption) ?_
    (try simp only [List.getElem_toArray, List.getElem_cons_zero, List.getElem_cons_succ]); (try simp only [Act.put]); (try simp only [List.setIfInBounds_toArray]); (try simp only [List.set_cons_succ]); (try simp only [List.set_cons_zero])
    refine wpAnyH_take (i := 5) (v := undef) rfl (by kernel_rfl) (by kernel_rfl) (by kernel_rfl) (fun _ _ _ h => h) (Or.inr ⟨by kernel_rfl, rfl⟩) (by assumption) ?_
    (try simp only [List.getElem_toArray, List.getElem_cons_zero, List.getElem_cons_succ]); (try simp only [Act.put]); (try simp only [List.setIfInBounds_toArray]); (try simp only [List.set_cons_succ]); (try simp only [List.set_cons_zero])
    refine wpAnyH_take (i := 6) (v := undef) rfl (by kernel_rfl) (by kernel_rfl) (by kernel_rfl) (fun _ _ _ h => h) (Or.inr ⟨by kernel_rfl, rfl⟩) (by assumption) ?_
    (try simp only [List.getElem_toArray, List.getElem_cons_zero, List.getElem_cons_succ]); (try simp only [Act.put]); (try simp only [List.setIfInBounds_toArray]); (try simp only [List.set_cons_succ]); (try simp only [List.set_cons_zero])
    refine wpAnyH_take (i := 7) (v := undef) rfl (by kernel_rfl) (by kernel_rfl) (by kernel_rfl) (fun _ _ _ h => h) (Or.inr ⟨by kernel_rfl, rfl⟩) (by assumption) ?_
    (try simp only [List.getElem_toArray, List.getElem_cons_zero, List.getElem_cons_succ]); (try simp only [Act.put]); (try simp only [List.setIfInBounds_toArray]); (try simp only [List.set_cons_succ]); (try simp only [List.set_cons_zero])
    refine wpAnyH_take (i := 8) (v := ?av8) rfl (by kernel_rfl) (by kernel_rfl) (by kernel_rfl) (fun _ _ _ h => h) (Or.inl ⟨by kernel_rfl, ?ah8⟩) (by assumption) ?ar8
    case ah8 => ((intro w hSw; (try dsimp only at hSw); go_simp) <;> with_reducible rfl)
    (try simp only [List.getElem_toArray, List.getElem_cons_zero, List.getElem_cons_succ]); (try simp only [Act.put]); (try simp only [List.setIfInBounds_toArray]); (try simp only [List.set_cons_succ]); (try simp only [List.set_cons_zero])
    refine wpAnyH_take (i := 9) (v := ?av9) rfl (by kernel_rfl) (by kernel_rfl) (by kernel_rfl) (fun _ _ _ h => h) (Or.inl ⟨by kernel_rfl, ?ah9⟩) (by assumption) ?ar9
    case ah9 => ((intro w hSw; (try dsimp only at hSw); go_simp) <;> with_reducible rfl)
    (try simp only [List.getElem_toArray, List.getElem_cons_zero, List.getElem_cons_succ]); (try simp only [Act.put]); (try simp only [List.setIfInBounds_toArray]); (try simp only [List.set_cons_succ]); (try simp only [List.set_cons_zero])
    refine wpAnyH_done (by kernel_rfl) ?_ _
    go_wp2
    go_ret
    exact ⟨rfl, B2⟩
  · have hz' := hz
    unfold setB at hz'
    rw [Bool.and_eq_true] at hz'
    have bd := sizeB_bd hz'.1
    have E : Hid (emptyB (gWithout (unF s (pick (memP l) 448) (pick (memP l) 448).length) (memP l)) = closedB s l) := Lib.hid (closed_eq hz rfl)
    have SO := Lib.hid (fun W (B : Below w.heap.size w W) => setOf_any l A3 n3 c3 W (Mem.rd_on h3 B) fun k hk => by have := sets_range hz'.2 k hk; omega)
    have IC := Lib.hid (fun W (B : Below w.heap.size w W) => isClosed_any s (memP l) (pick (memP l) 448) A1 n1 c1 A2 n2 c2 W (Mem.rd_on h1 B) (Mem.rd_on h2 B) hz'.1 rfl (fun k hk => by
      obtain ⟨a, _, c⟩ := pick_range k hk
      obtain ⟨i, hi, e⟩ := mem_ix.1 c
      have := sets_range hz'.2 i hi
      omega) (hT.on B))
    rw [E.out] at IC
    have HZ := Lib.hid hz; clear hz hz' bd hT
    clear E
    generalize closedB s l = F at *
    unfold wsV at SO IC
    go_enter Tryz.func55, Tryz.ntmps55
    go_wp2
    refine wp_region_held_drew (S := (fun w' => w'.cell? ⟨w.heap.size, 0, none⟩ = some (.slice A1 n1 c1) ∧ w'.cell? ⟨w.heap.size, 1, none⟩ = some (.slice A2 n2 c2))) (by kernel_rfl) ?_ (fun hHeld => ?_)
    · (try dsimp only); exact ⟨x0, x1⟩
    refine wpAnyH_take (i := 0) (v := ?bv0) rfl (by kernel_rfl) (by kernel_rfl) (by kernel_rfl) (fun _ _ _ h => h) (Or.inl ⟨by kernel_rfl, ?bh0⟩) (by assumption) ?br0
    case bh0 => ((intro w hSw; (try dsimp only at hSw); go_simp) <;> with_reducible rfl)
    (try simp only [List.getElem_toArray, List.getElem_cons_zero]); (try simp only [Act.put]); (try simp only [List.setIfInBounds_toArray]); (try simp only [List.set_cons_succ]); (try simp only [List.set_cons_zero])
    refine wpAnyH_take (i := 1) (v := ?bv1) rfl (by kernel_rfl) (by kernel_rfl) (by kernel_rfl) (fun _ _ _ h => h) (Or.inl ⟨by kernel_rfl, ?bh1⟩) (by assumption) ?br1
    case bh1 => ((intro w hSw; (try dsimp only at hSw); go_simp) <;> with_reducible rfl)
    (try simp only [List.getElem_toArray, List.getElem_cons_zero, List.getElem_cons_succ]); (try simp only [Act.put]); (try simp only [List.setIfInBounds_toArray]); (try simp only [List.set_cons_succ]); (try simp only [List.set_cons_zero])
    refine wpAnyH_ready (rs := [2]) (by kernel_rfl) (by simp) ?_
    refine AllReadyH.cons (o := _) rfl (fun K hK => ?_) AllReadyH.nil
    go_simp
    refine (SK.out).mono ?_
    rintro e w2 ⟨rfl, b2⟩
    rw [HZ.out]
    have b2 : Below (w.alloc (.cells #[.slice A1 n1 c1, .slice A2 n2 c2] 32)).heap.size (w.alloc (.cells #[.slice A1 n1 c1, .slice A2 n2 c2] 32)) w2 := ⟨b2.os, b2.tape, b2.output, b2.size, b2.block⟩
    obtain ⟨B2, x0, x1⟩ := BX.out _ b2
    have SOK := Lib.hid (SO.out w2 B2)
    refine hK.out _ _ ?_ (fun hHeld => ?_)
    · (try dsimp only); exact ⟨x0, x1⟩
    clear hK K
    (try simp only [List.getElem_toArray, List.getElem_cons_zero, List.getElem_cons_succ]); (try simp only [Act.put]); (try simp only [List.setIfInBounds_toArray]); (try simp only [List.set_cons_succ]); (try simp only [List.set_cons_zero])
    refine wpAnyH_take (i := 3) (v := ?bv3) rfl (by kernel_rfl) (by kernel_rfl) (by kernel_rfl) (fun _ _ _ h => h) (Or.inl ⟨by kernel_rfl, ?bh3⟩) (by assumption) ?br3
    case bh3 => ((intro w hSw; (try dsimp only at hSw); go_simp) <;> with_reducible rfl)
    (try simp only [List.getElem_toArray, List.getElem_cons_zero, List.getElem_cons_succ]); (try simp only [Act.put]); (try simp only [List.setIfInBounds_toArray]); (try simp only [List.set_cons_succ]); (try simp only [List.set_cons_zero])
    refine wpAnyH_take (i := 4) (v := ?bv4) rfl (by kernel_rfl) (by kernel_rfl) (by kernel_rfl) (fun _ _ _ h => h) (Or.inl ⟨by kernel_rfl, ?bh4⟩) (by assumption) ?br4
    case bh4 => ((intro w hSw; (try dsimp only at hSw); go_simp) <;> with_reducible rfl)
    (try simp only [List.getElem_toArray, List.getElem_cons_zero, List.getElem_cons_succ]); (try simp only [Act.put]); (try simp only [List.setIfInBounds_toArray]); (try simp only [List.set_cons_succ]); (try simp only [List.set_cons_zero])
    refine wpAnyH_take (i := 5) (v := ?bv5) rfl (by kernel_rfl) (by kernel_rfl) (by kernel_rfl) (fun _ _ _ h => h) (Or.inl ⟨by kernel_rfl, ?bh5⟩) (by assumption) ?br5
    case bh5 => ((intro w hSw; (try dsimp only at hSw); go_simp) <;> with_reducible rfl)
    (try simp only [List.getElem_toArray, List.getElem_cons_zero, List.getElem_cons_succ]); (try simp only [Act.put]); (try simp only [List.setIfInBounds_toArray]); (try simp only [List.set_cons_succ]); (try simp only [List.set_cons_zero])
    refine wpAnyH_ready (rs := [6]) (by kernel_rfl) (by simp) ?_
    refine AllReadyH.cons (o := _) rfl (fun K hK => ?_) AllReadyH.nil
    go_simp
    refine (SOK.out).mono ?_
    rintro e w3 ⟨rfl, b3⟩
    have b3 := b2.trans (b3.mono b2.size)
    obtain ⟨B3, x0, x1⟩ := BX.out _ b3
    have ICK := Lib.hid (IC.out w3 B3)
    refine hK.out _ _ ?_ (fun hHeld => ?_)
    · (try dsimp only); exact ⟨x0, x1⟩
    clear hK K
    (try simp only [List.getElem_toArray, List.getElem_cons_zero, List.getElem_cons_succ]); (try simp only [Act.put]); (try simp only [List.setIfInBounds_toArray]); (try simp only [List.set_cons_succ]); (try simp only [List.set_cons_zero])
    refine wpAnyH_ready (rs := [7]) (by kernel_rfl) (by simp) ?_
    refine AllReadyH.cons (o := _) rfl (fun K hK => ?_) AllReadyH.nil
    go_simp
    refine (ICK.out).mono ?_
    rintro e w4 ⟨rfl, b4⟩
    have b4 := b3.trans (b4.mono b3.size)
    obtain ⟨B4, x0, x1⟩ := BX.out _ b4
    refine hK.out _ _ ?_ (fun hHeld => ?_)
    · (try dsimp only); exact ⟨x0, x1⟩
    clear hK K
    (try simp only [List.getElem_toArray, List.getElem_cons_zero, List.getElem_cons_succ]); (try simp only [Act.put]); (try simp only [List.setIfInBounds_toArray]); (try simp only [List.set_cons_succ]); (try simp only [List.set_cons_zero])
    refine wpAnyH_take (i := 8) (v := ?bv8) rfl (by kernel_rfl) (by kernel_rfl) (by kernel_rfl) (fun _ _ _ h => h) (Or.inl ⟨by kernel_rfl, ?bh8⟩) (by assumption) ?br8
    case bh8 => ((intro w hSw; (try dsimp only at hSw); go_simp) <;> with_reducible rfl)
    (try simp only [List.getElem_toArray, List.getElem_cons_zero, List.getElem_cons_succ]); (try simp only [Act.put]); (try simp only [List.setIfInBounds_toArray]); (try simp only [List.set_cons_succ]); (try simp only [List.set_cons_zero])
    refine wpAnyH_take (i := 9) (v := ?bv9) rfl (by kernel_rfl) (by kernel_rfl) (by kernel_rfl) (fun _ _ _ h => h) (Or.inl ⟨by kernel_rfl, ?bh9⟩) (by assumption) ?br9
    case bh9 => ((intro w hSw; (try dsimp only at hSw); go_simp) <;> with_reducible rfl)
    (try simp only [List.getElem_toArray, List.getElem_cons_zero, List.getElem_cons_succ]); (try simp only [Act.put]); (try simp only [List.setIfInBounds_toArray]); (try simp only [List.set_cons_succ]); (try simp only [List.set_cons_zero])
    refine wpAnyH_done (by kernel_rfl) ?_ _
    go_wp2
    go_ret
    exact ⟨by simp, B4⟩

set_option maxRecDepth 100000 in
set_option maxHeartbeats 4000000 in
theorem closed_spec (s : Sy) (l : List Int) (A1 : Option Addr) (n1 c1 : Nat) (A2 : Option Addr) (n2 c2 : Nat) (A3 : Option Addr) (n3 c3 : Nat) (w : World) (h1 : Mem.rd w w.heap.size [.slice A1 n1 c1] s.vars) (h2 : Mem.rd w w.heap.size [.slice A2 n2 c2] s.rules) (h3 : Mem.rd w w.heap.size [.slice A3 n3 c3] l) :
    Calls Tryz.prog 54 #[.agg #[.slice A1 n1 c1, .slice A2 n2 c2], .slice A3 n3 c3] w (GivesBool w (closedB s l)) := by
  have BX := Lib.hid (sy_box (w := w) (v1 := .slice A1 n1 c1) (v2 := .slice A2 n2 c2))
  obtain ⟨B0, x0, x1⟩ := BX.out _ (Below.refl _ _)
  have SK := Lib.hid (setValid_spec s l A1 n1 c1 A2 n2 c2 A3 n3 c3 (w.alloc (.cells #[.slice A1 n1 c1, .slice A2 n2 c2] 32)).drew (Mem.rd_on h1 ⟨B0.os, B0.tape, B0.output, B0.size, B0.block⟩) (Mem.rd_on h2 ⟨B0.os, B0.tape, B0.output, B0.size, B0.block⟩) (Mem.rd_on h3 ⟨B0.os, B0.tape, B0.output, B0.size, B0.block⟩))
  clear B0
  cases hz : setB s l
  · have E : Hid (closedB s l = false) := Lib.hid (by unfold closedB; rw [hz]; rfl)
    have HZ := Lib.hid hz; clear hz
    rw [E.out]
    go_enter Tryz.func54, Tryz.ntmps54
    go_wp2
    refine wp_region_held_drew (S := (fun w' => w'.cell? ⟨w.heap.size, 0, none⟩ = some (.slice A1 n1 c1) ∧ w'.cell? ⟨w.heap.size, 1, none⟩ = some (.slice A2 n2 c2))) (by kernel_rfl) ?_ (fun hHeld => ?_)
    · (try dsimp only); exact ⟨x0, x1⟩
    refine wpAnyH_take (i := 0) (v := ?cv0) rfl (by kernel_rfl) (by kernel_rfl) (by kernel_rfl) (fun _ _ _ h => h) (Or.inl ⟨by kernel_rfl, ?ch0⟩) (by assumption) ?cr0
    case ch0 => ((intro w hSw; (try dsimp only at hSw); go_simp) <;> with_reducible rfl)
    (try simp only [List.getElem_toArray, List.getElem_cons_zero]); (try simp only [Act.put]); (try simp only [List.setIfInBounds_toArray]); (try simp only [List.set_cons_succ]); (try simp only [List.set_cons_zero])
    refine wpAnyH_take (i := 1) (v := ?cv1) rfl (by kernel_rfl) (by kernel_rfl) (by kernel_rfl) (fun _ _ _ h => h) (Or.inl ⟨by kernel_rfl, ?ch1⟩) (by assumption) ?cr1
    case ch1 => ((intro w hSw; (try dsimp only at hSw); go_simp) <;> with_reducible rfl)
    (try simp only [List.getElem_toArray, List.getElem_cons_zero, List.getElem_cons_succ]); (try simp only [Act.put]); (try simp only [List.setIfInBounds_toArray]); (try simp only [List.set_cons_succ]); (try simp only [List.set_cons_zero])
    refine wpAnyH_ready (rs := [2]) (by kernel_rfl) (by simp) ?_
    refine AllReadyH.cons (o := _) rfl (fun K hK => ?_) AllReadyH.nil
    go_simp
    refine (SK.out).mono ?_
    rintro e w2 ⟨rfl, b2⟩
    rw [HZ.out]
    have b2 : Below (w.alloc (.cells #[.slice A1 n1 c1, .slice A2 n2 c2] 32)).heap.size (w.alloc (.cells #[.slice A1 n1 c1, .slice A2 n2 c2] 32)) w2 := ⟨b2.os, b2.tape, b2.output, b2.size, b2.block⟩
    obtain ⟨B2, x0, x1⟩ := BX.out _ b2
    refine hK.out _ _ ?_ (fun hHeld => ?_)
    · (try dsimp only); exact ⟨x0, x1⟩
    clear hK K
    (try simp only [List.getElem_toArray, List.getElem_cons_zero, List.getElem_cons_succ]); (try simp only [Act.put]); (try simp only [List.setIfInBounds_toArray]); (try simp only [List.set_cons_succ]); (try simp only [List.set_cons_zero])
    refine wpAnyH_take (i := 3) (v := ?cv3) rfl (by kernel_rfl) (by kernel_rfl) (by kernel_rfl) (fun _ _ _ h => h) (Or.inl ⟨by kernel_rfl, ?ch3⟩) (by assumption) ?cr3
    case ch3 => ((intro w hSw; (try dsimp only at hSw); go_simp) <;> with_reducible rfl)
    (try simp only [List.getElem_toArray, List.getElem_cons_zero, List.getElem_cons_succ]); (try simp only [Act.put]); (try simp only [List.setIfInBounds_toArray]); (try simp only [List.set_cons_succ]); (try simp only [List.set_cons_zero])
    refine wpAnyH_take (i := 4) (v := undef) rfl (by kernel_rfl) (by kernel_rfl) (by kernel_rfl) (fun _ _ _ h => h) (Or.inr ⟨by kernel_rfl, rfl⟩) (by assumption) ?_
    (try simp only [List.getElem_toArray, List.getElem_cons_zero, List.getElem_cons_succ]); (try simp only [Act.put]); (try simp only [List.setIfInBounds_toArray]); (try simp only [List.set_cons_succ]); (try simp only [List.set_cons_zero])
    refine wpAnyH_take (i := 5) (v := undef) rfl (by kernel_rfl) (by kernel_rfl) (by kernel_rfl) (fun _ _ _ h => h) (Or.inr ⟨by kernel_rfl, rfl⟩) (by assumption) ?_
    (try simp only [List.getElem_toArray, List.getElem_cons_zero, List.getElem_cons_succ]); (try simp only [Act.put]); (try simp only [List.setIfInBounds_toArray]); (try simp only [List.set_cons_succ]); (try simp only [List.set_cons_zero])
    refine wpAnyH_take (i := 6) (v := undef) rfl (by kernel_rfl) (by kernel_rfl) (by kernel_rfl) (fun _ _ _ h => h) (Or.inr ⟨by kernel_rfl, rfl⟩) (by assumption) ?_
    (try simp only [List.getElem_toArray, List.getElem_cons_zero, List.getElem_cons_succ]); (try simp only [Act.put]); (try simp only [List.setIfInBounds_toArray]); (try simp only [List.set_cons_succ]); (try simp only [List.set_cons_zero])
    refine wpAnyH_take (i := 7) (v := undef) rfl (by kernel_rfl) (by kernel_rfl) (by kernel_rfl) (fun _ _ _ h => h) (Or.inr ⟨by kernel_rfl, rfl⟩) (by assumption) ?_
    (try simp only [List.getElem_toArray, List.getElem_cons_zero, List.getElem_cons_succ]); (try simp only [Act.put]); (try simp only [List.setIfInBounds_toArray]); (try simp only [List.set_cons_succ]); (try simp only [List.set_cons_zero])
    refine wpAnyH_take (i := 8) (v := undef) rfl (by kernel_rfl) (by kernel_rfl) (by kernel_rfl) (fun _ _ _ h => h) (Or.inr ⟨by kernel_rfl, rfl⟩) (by assumption) ?_
    (try simp only [List.getElem_toArray, List.getElem_cons_zero, List.getElem_cons_succ]); (try simp only [Act.put]); (try simp only [List.setIfInBounds_toArray]); (try simp only [List.set_cons_succ]); (try simp only [List.set_cons_zero])
    refine wpAnyH_take (i := 9) (v := undef) rfl (by kernel_rfl) (by kernel_rfl) (by kernel_rfl) (fun _ _ _ h => h) (Or.inr ⟨by kernel_rfl, rfl⟩) (by assumption) ?_
    (try simp only [List.getElem_toArray, List.getElem_cons_zero, List.getElem_cons_succ]); (try simp only [Act.put]); (try simp only [List.setIfInBounds_toArray]); (try simp only [List.set_cons_succ]); (try simp only [List.set_cons_zero])
    refine wpAnyH_take (i := 10) (v := ?cv10) rfl (by kernel_rfl) (by kernel_rfl) (by kernel_rfl) (fun _ _ _ h => h) (Or.inl ⟨by kernel_rfl, ?ch10⟩) (by assumption) ?cr10
    case ch10 => ((intro w hSw; (try dsimp only at hSw); go_simp) <;> with_reducible rfl)
    (try simp only [List.getElem_toArray, List.getElem_cons_zero, List.getElem_cons_succ]); (try simp only [Act.put]); (try simp only [List.setIfInBounds_toArray]); (try simp only [List.set_cons_succ]); (try simp only [List.set_cons_zero])
    refine wpAnyH_take (i := 11) (v := ?cv11) rfl (by kernel_rfl) (by kernel_rfl) (by kernel_rfl) (fun _ _ _ h => h) (Or.inl ⟨by kernel_rfl, ?ch11⟩) (by assumption) ?cr11
    case ch11 => ((intro w hSw; (try dsimp only at hSw); go_simp) <;> with_reducible rfl)
    (try simp only [List.getElem_toArray, List.getElem_cons_zero, List.getElem_cons_succ]); (try simp only [Act.put]); (try simp only [List.setIfInBounds_toArray]); (try simp only [List.set_cons_succ]); (try simp only [List.set_cons_zero])
    refine wpAnyH_take (i := 12) (v := undef) rfl (by kernel_rfl) (by kernel_rfl) (by kernel_rfl) (fun _ _ _ h => h) (Or.inr ⟨by kernel_rfl, rfl⟩) (by assumption) ?_
    (try simp only [List.getElem_toArray, List.getElem_cons_zero, List.getElem_cons_succ]); (try simp only [Act.put]); (try simp only [List.setIfInBounds_toArray]); (try simp only [List.set_cons_succ]); (try simp only [List.set_cons_zero])
    refine wpAnyH_take (i := 13) (v := undef) rfl (by kernel_rfl) (by kernel_rfl) (by kernel_rfl) (fun _ _ _ h => h) (Or.inr ⟨by kernel_rfl, rfl⟩) (by assumption) ?_
    (try simp only [List.getElem_toArray, List.getElem_cons_zero, List.getElem_cons_succ]); (try simp only [Act.put]); (try simp only [List.setIfInBounds_toArray]); (try simp only [List.set_cons_succ]); (try simp only [List.set_cons_zero])
    refine wpAnyH_take (i := 14) (v := undef) rfl (by kernel_rfl) (by kernel_rfl) (by kernel_rfl) (fun _ _ _ h => h) (Or.inr ⟨by kernel_rfl, rfl⟩) (by assumption) ?_
    (try simp only [List.getElem_toArray, List.getElem_cons_zero, List.getElem_cons_succ]); (try simp only [Act.put]); (try simp only [List.setIfInBounds_toArray]); (try simp only [List.set_cons_succ]); (try simp only [List.set_cons_zero])
    refine wpAnyH_take (i := 15) (v := undef) rfl (by kernel_rfl) (by kernel_rfl) (by kernel_rfl) (fun _ _ _ h => h) (Or.inr ⟨by kernel_rfl, rfl⟩) (by assumption) ?_
    (try simp only [List.getElem_toArray, List.getElem_cons_zero, List.getElem_cons_succ]); (try simp only [Act.put]); (try simp only [List.setIfInBounds_toArray]); (try simp only [List.set_cons_succ]); (try simp only [List.set_cons_zero])
    refine wpAnyH_take (i := 16) (v := undef) rfl (by kernel_rfl) (by kernel_rfl) (by kernel_rfl) (fun _ _ _ h => h) (Or.inr ⟨by kernel_rfl, rfl⟩) (by assumption) ?_
    (try simp only [List.getElem_toArray, List.getElem_cons_zero, List.getElem_cons_succ]); (try simp only [Act.put]); (try simp only [List.setIfInBounds_toArray]); (try simp only [List.set_cons_succ]); (try simp only [List.set_cons_zero])
    refine wpAnyH_take (i := 17) (v := undef) rfl (by kernel_rfl) (by kernel_rfl) (by kernel_rfl) (fun _ _ _ h => h) (Or.inr ⟨by kernel_rfl, rfl⟩) (by assumption) ?_
    (try simp only [List.getElem_toArray, List.getElem_cons_zero, List.getElem_cons_succ]); (try simp only [Act.put]); (try simp only [List.setIfInBounds_toArray]); (try simp only [List.set_cons_succ]); (try simp only [List.set_cons_zero])
    refine wpAnyH_take (i := 18) (v := undef) rfl (by kernel_rfl) (by kernel_rfl) (by kernel_rfl) (fun _ _ _ h => h) (Or.inr ⟨by kernel_rfl, rfl⟩) (by assumption) ?_
    (try simp only [List.getElem_toArray, List.getElem_cons_zero, List.getElem_cons_succ]); (try simp only [Act.put]); (try simp only [List.setIfInBounds_toArray]); (try simp only [List.set_cons_succ]); (try simp only [List.set_cons_zero])
    refine wpAnyH_take (i := 19) (v := ?cv19) rfl (by kernel_rfl) (by kernel_rfl) (by kernel_rfl) (fun _ _ _ h => h) (Or.inl ⟨by kernel_rfl, ?ch19⟩) (by assumption) ?cr19
    case ch19 => ((intro w hSw; (try dsimp only at hSw); go_simp) <;> with_reducible rfl)
    (try simp only [List.getElem_toArray, List.getElem_cons_zero, List.getElem_cons_succ]); (try simp only [Act.put]); (try simp only [List.setIfInBounds_toArray]); (try simp only [List.set_cons_succ]); (try simp only [List.set_cons_zero])
    refine wpAnyH_take (i := 20) (v := ?cv20) rfl (by kernel_rfl) (by kernel_rfl) (by kernel_rfl) (fun _ _ _ h => h) (Or.inl ⟨by kernel_rfl, ?ch20⟩) (by assumption) ?cr20
    case ch20 => ((intro w hSw; (try dsimp only at hSw); go_simp) <;> with_reducible rfl)
    (try simp only [List.getElem_toArray, List.getElem_cons_zero, List.getElem_cons_succ]); (try simp only [Act.put]); (try simp only [List.setIfInBounds_toArray]); (try simp only [List.set_cons_succ]); (try simp only [List.set_cons_zero])
    refine wpAnyH_done (by kernel_rfl) ?_ _
    go_wp2
    go_ret
    exact ⟨rfl, B2⟩
  · have hz' := hz
    unfold setB at hz'
    rw [Bool.and_eq_true] at hz'
    have ok := sysOk_of hz'.1
    have FC := Lib.hid (fun W (B : Below w.heap.size w W) => first_spec s A1 n1 c1 A2 n2 c2 W (Mem.rd_on h1 B) (Mem.rd_on h2 B))
    have hFB : firstB s = firsts s.vars := by unfold firstB; rw [hz'.1]; rfl
    rw [hFB] at FC
    have FL : Hid ((firsts s.vars).length = n1) := Lib.hid ((firsts_len _).trans (rd_len h1))
    have H5 := Lib.hid (show 1 ≤ n1 ∧ n1 ≤ 5 by have := rd_len h1; have := ok.lo; have := ok.hi; omega)
    have NC := Lib.hid (fun W A n c (B : Below w.heap.size w W) (h : Mem.rd W W.heap.size [.slice A n c] (firsts s.vars)) => l4Number_any s (firsts s.vars) A1 n1 c1 A2 n2 c2 A n c W (Mem.rd_on h1 B) h ok (firsts_has ok))
    rw [(firstN_eq ok).1] at NC
    have M3 := Lib.hid (show n3 ≤ 1048576 by have := setsB_long hz'.2; have := sizeB_bd hz'.1; have := rd_len h3; omega)
    have LC := Lib.hid (fun W (B : Below w.heap.size w W) => l2Has_any A3 n3 c3 l (firstN s) W (rd_ints.1 (Mem.rd_on h3 B)).2 M3.out)
    cases hh : decide ((firstN s : Int) ∈ l)
    · have E : Hid (closedB s l = false) := Lib.hid (by unfold closedB; rw [hh]; simp)
      have HZ := Lib.hid hz; have HH := Lib.hid hh; clear hz hz' hh ok hFB
      rw [E.out]
      go_enter Tryz.func54, Tryz.ntmps54
      go_wp2
      refine wp_region_held_drew (S := (fun w' => w'.cell? ⟨w.heap.size, 0, none⟩ = some (.slice A1 n1 c1) ∧ w'.cell? ⟨w.heap.size, 1, none⟩ = some (.slice A2 n2 c2))) (by kernel_rfl) ?_ (fun hHeld => ?_)
      · (try dsimp only); exact ⟨x0, x1⟩
      refine wpAnyH_take (i := 0) (v := ?dv0) rfl (by kernel_rfl) (by kernel_rfl) (by kernel_rfl) (fun _ _ _ h => h) (Or.inl ⟨by kernel_rfl, ?dh0⟩) (by assumption) ?dr0
      case dh0 => ((intro w hSw; (try dsimp only at hSw); go_simp) <;> with_reducible rfl)
      (try simp only [List.getElem_toArray, List.getElem_cons_zero]); (try simp only [Act.put]); (try simp only [List.setIfInBounds_toArray]); (try simp only [List.set_cons_succ]); (try simp only [List.set_cons_zero])
      refine wpAnyH_take (i := 1) (v := ?dv1) rfl (by kernel_rfl) (by kernel_rfl) (by kernel_rfl) (fun _ _ _ h => h) (Or.inl ⟨by kernel_rfl, ?dh1⟩) (by assumption) ?dr1
      case dh1 => ((intro w hSw; (try dsimp only at hSw); go_simp) <;> with_reducible rfl)
      (try simp only [List.getElem_toArray, List.getElem_cons_zero, List.getElem_cons_succ]); (try simp only [Act.put]); (try simp only [List.setIfInBounds_toArray]); (try simp only [List.set_cons_succ]); (try simp only [List.set_cons_zero])
      refine wpAnyH_ready (rs := [2]) (by kernel_rfl) (by simp) ?_
      refine AllReadyH.cons (o := _) rfl (fun K hK => ?_) AllReadyH.nil
      go_simp
      refine (SK.out).mono ?_
      rintro e w2 ⟨rfl, b2⟩
      rw [HZ.out]
      have b2 : Below (w.alloc (.cells #[.slice A1 n1 c1, .slice A2 n2 c2] 32)).heap.size (w.alloc (.cells #[.slice A1 n1 c1, .slice A2 n2 c2] 32)) w2 := ⟨b2.os, b2.tape, b2.output, b2.size, b2.block⟩
      obtain ⟨B2, x0, x1⟩ := BX.out _ b2
      have FK := Lib.hid (FC.out w2 B2)
      refine hK.out _ _ ?_ (fun hHeld => ?_)
      · (try dsimp only); exact ⟨x0, x1⟩
      clear hK K
      (try simp only [List.getElem_toArray, List.getElem_cons_zero, List.getElem_cons_succ]); (try simp only [Act.put]); (try simp only [List.setIfInBounds_toArray]); (try simp only [List.set_cons_succ]); (try simp only [List.set_cons_zero])
      refine wpAnyH_take (i := 3) (v := ?dv3) rfl (by kernel_rfl) (by kernel_rfl) (by kernel_rfl) (fun _ _ _ h => h) (Or.inl ⟨by kernel_rfl, ?dh3⟩) (by assumption) ?dr3
      case dh3 => ((intro w hSw; (try dsimp only at hSw); go_simp) <;> with_reducible rfl)
      (try simp only [List.getElem_toArray, List.getElem_cons_zero, List.getElem_cons_succ]); (try simp only [Act.put]); (try simp only [List.setIfInBounds_toArray]); (try simp only [List.set_cons_succ]); (try simp only [List.set_cons_zero])
      refine wpAnyH_take (i := 4) (v := ?dv4) rfl (by kernel_rfl) (by kernel_rfl) (by kernel_rfl) (fun _ _ _ h => h) (Or.inl ⟨by kernel_rfl, ?dh4⟩) (by assumption) ?dr4
      case dh4 => ((intro w hSw; (try dsimp only at hSw); go_simp) <;> with_reducible rfl)
      (try simp only [List.getElem_toArray, List.getElem_cons_zero, List.getElem_cons_succ]); (try simp only [Act.put]); (try simp only [List.setIfInBounds_toArray]); (try simp only [List.set_cons_succ]); (try simp only [List.set_cons_zero])
      refine wpAnyH_take (i := 5) (v := ?dv5) rfl (by kernel_rfl) (by kernel_rfl) (by kernel_rfl) (fun _ _ _ h => h) (Or.inl ⟨by kernel_rfl, ?dh5⟩) (by assumption) ?dr5
      case dh5 => ((intro w hSw; (try dsimp only at hSw); go_simp) <;> with_reducible rfl)
      (try simp only [List.getElem_toArray, List.getElem_cons_zero, List.getElem_cons_succ]); (try simp only [Act.put]); (try simp only [List.setIfInBounds_toArray]); (try simp only [List.set_cons_succ]); (try simp only [List.set_cons_zero])
      refine wpAnyH_take (i := 6) (v := ?dv6) rfl (by kernel_rfl) (by kernel_rfl) (by kernel_rfl) (fun _ _ _ h => h) (Or.inl ⟨by kernel_rfl, ?dh6⟩) (by assumption) ?dr6
      case dh6 => ((intro w hSw; (try dsimp only at hSw); go_simp) <;> with_reducible rfl)
      (try simp only [List.getElem_toArray, List.getElem_cons_zero, List.getElem_cons_succ]); (try simp only [Act.put]); (try simp only [List.setIfInBounds_toArray]); (try simp only [List.set_cons_succ]); (try simp only [List.set_cons_zero])
      refine wpAnyH_ready (rs := [7]) (by kernel_rfl) (by simp) ?_
      refine AllReadyH.cons (o := _) rfl (fun K hK => ?_) AllReadyH.nil
      go_simp
      refine (FK.out).mono ?_
      rintro e w3 ⟨v3, rfl, o3, b3⟩
      rw [FL.out] at o3
      obtain ⟨A4, c4, rfl, _, _⟩ := own_form o3
      obtain ⟨f4, om4, _, _⟩ := mem_ints (l := firsts s.vars) (by rw [FL.out]; exact o3) (by rw [FL.out]; have := H5.out; unfold maxLen; omega)
      rw [FL.out] at om4
      have b3 := b2.trans (b3.mono b2.size)
      obtain ⟨B3, x0, x1⟩ := BX.out _ b3
      have NK := Lib.hid (NC.out w3 A4 n1 c4 B3 (Mem.own_rd om4))
      clear om4 o3
      refine hK.out _ _ ?_ (fun hHeld => ?_)
      · (try dsimp only); exact ⟨x0, x1⟩
      clear hK K
      (try simp only [List.getElem_toArray, List.getElem_cons_zero, List.getElem_cons_succ]); (try simp only [Act.put]); (try simp only [List.setIfInBounds_toArray]); (try simp only [List.set_cons_succ]); (try simp only [List.set_cons_zero])
      refine wpAnyH_ready (rs := [8]) (by kernel_rfl) (by simp) ?_
      refine AllReadyH.cons (o := _) rfl (fun K hK => ?_) AllReadyH.nil
      go_simp
      refine (NK.out).mono ?_
      rintro e w4 ⟨rfl, b4⟩
      have b4 := b3.trans (b4.mono b3.size)
      obtain ⟨B4, x0, x1⟩ := BX.out _ b4
      have LK := Lib.hid (LC.out w4 B4)
      refine hK.out _ _ ?_ (fun hHeld => ?_)
      · (try dsimp only); exact ⟨x0, x1⟩
      clear hK K
      (try simp only [List.getElem_toArray, List.getElem_cons_zero, List.getElem_cons_succ]); (try simp only [Act.put]); (try simp only [List.setIfInBounds_toArray]); (try simp only [List.set_cons_succ]); (try simp only [List.set_cons_zero])
      refine wpAnyH_ready (rs := [9]) (by kernel_rfl) (by simp) ?_
      refine AllReadyH.cons (o := _) rfl (fun K hK => ?_) AllReadyH.nil
      go_simp
      refine (LK.out).mono ?_
      rintro e w5 ⟨rfl, rfl⟩
      rw [HH.out]
      refine hK.out _ _ ?_ (fun hHeld => ?_)
      · (try dsimp only); exact ⟨x0, x1⟩
      clear hK K
      (try simp only [List.getElem_toArray, List.getElem_cons_zero, List.getElem_cons_succ]); (try simp only [Act.put]); (try simp only [List.setIfInBounds_toArray]); (try simp only [List.set_cons_succ]); (try simp only [List.set_cons_zero])
      refine wpAnyH_take (i := 10) (v := ?dv10) rfl (by kernel_rfl) (by kernel_rfl) (by kernel_rfl) (fun _ _ _ h => h) (Or.inl ⟨by kernel_rfl, ?dh10⟩) (by assumption) ?dr10
      case dh10 => ((intro w hSw; (try dsimp only at hSw); go_simp) <;> with_reducible rfl)
      (try simp only [List.getElem_toArray, List.getElem_cons_zero, List.getElem_cons_succ]); (try simp only [Act.put]); (try simp only [List.setIfInBounds_toArray]); (try simp only [List.set_cons_succ]); (try simp only [List.set_cons_zero])
      refine wpAnyH_take (i := 11) (v := ?dv11) rfl (by kernel_rfl) (by kernel_rfl) (by kernel_rfl) (fun _ _ _ h => h) (Or.inl ⟨by kernel_rfl, ?dh11⟩) (by assumption) ?dr11
      case dh11 => ((intro w hSw; (try dsimp only at hSw); go_simp) <;> with_reducible rfl)
      (try simp only [List.getElem_toArray, List.getElem_cons_zero, List.getElem_cons_succ]); (try simp only [Act.put]); (try simp only [List.setIfInBounds_toArray]); (try simp only [List.set_cons_succ]); (try simp only [List.set_cons_zero])
      refine wpAnyH_take (i := 12) (v := undef) rfl (by kernel_rfl) (by kernel_rfl) (by kernel_rfl) (fun _ _ _ h => h) (Or.inr ⟨by kernel_rfl, rfl⟩) (by assumption) ?_
      (try simp only [List.getElem_toArray, List.getElem_cons_zero, List.getElem_cons_succ]); (try simp only [Act.put]); (try simp only [List.setIfInBounds_toArray]); (try simp only [List.set_cons_succ]); (try simp only [List.set_cons_zero])
      refine wpAnyH_take (i := 13) (v := undef) rfl (by kernel_rfl) (by kernel_rfl) (by kernel_rfl) (fun _ _ _ h => h) (Or.inr ⟨by kernel_rfl, rfl⟩) (by assumption) ?_
      (try simp only [List.getElem_toArray, List.getElem_cons_zero, List.getElem_cons_succ]); (try simp only [Act.put]); (try simp only [List.setIfInBounds_toArray]); (try simp only [List.set_cons_succ]); (try simp only [List.set_cons_zero])
      refine wpAnyH_take (i := 14) (v := undef) rfl (by kernel_rfl) (by kernel_rfl) (by kernel_rfl) (fun _ _ _ h => h) (Or.inr ⟨by kernel_rfl, rfl⟩) (by assumption) ?_
      (try simp only [List.getElem_toArray, List.getElem_cons_zero, List.getElem_cons_succ]); (try simp only [Act.put]); (try simp only [List.setIfInBounds_toArray]); (try simp only [List.set_cons_succ]); (try simp only [List.set_cons_zero])
      refine wpAnyH_take (i := 15) (v := undef) rfl (by kernel_rfl) (by kernel_rfl) (by kernel_rfl) (fun _ _ _ h => h) (Or.inr ⟨by kernel_rfl, rfl⟩) (by assumption) ?_
      (try simp only [List.getElem_toArray, List.getElem_cons_zero, List.getElem_cons_succ]); (try simp only [Act.put]); (try simp only [List.setIfInBounds_toArray]); (try simp only [List.set_cons_succ]); (try simp only [List.set_cons_zero])
      refine wpAnyH_take (i := 16) (v := undef) rfl (by kernel_rfl) (by kernel_rfl) (by kernel_rfl) (fun _ _ _ h => h) (Or.inr ⟨by kernel_rfl, rfl⟩) (by assumption) ?_
      (try simp only [List.getElem_toArray, List.getElem_cons_zero, List.getElem_cons_succ]); (try simp only [Act.put]); (try simp only [List.setIfInBounds_toArray]); (try simp only [List.set_cons_succ]); (try simp only [List.set_cons_zero])
      refine wpAnyH_take (i := 17) (v := undef) rfl (by kernel_rfl) (by kernel_rfl) (by kernel_rfl) (fun _ _ _ h => h) (Or.inr ⟨by kernel_rfl, rfl⟩) (by assumption) ?_
      (try simp only [List.getElem_toArray, List.getElem_cons_zero, List.getElem_cons_succ]); (try simp only [Act.put]); (try simp only [List.setIfInBounds_toArray]); (try simp only [List.set_cons_succ]); (try simp only [List.set_cons_zero])
      refine wpAnyH_take (i := 18) (v := undef) rfl (by kernel_rfl) (by kernel_rfl) (by kernel_rfl) (fun _ _ _ h => h) (Or.inr ⟨by kernel_rfl, rfl⟩) (by assumption) ?_
      (try simp only [List.getElem_toArray, List.getElem_cons_zero, List.getElem_cons_succ]); (try simp only [Act.put]); (try simp only [List.setIfInBounds_toArray]); (try simp only [List.set_cons_succ]); (try simp only [List.set_cons_zero])
      refine wpAnyH_take (i := 19) (v := ?dv19) rfl (by kernel_rfl) (by kernel_rfl) (by kernel_rfl) (fun _ _ _ h => h) (Or.inl ⟨by kernel_rfl, ?dh19⟩) (by assumption) ?dr19
      case dh19 => ((intro w hSw; (try dsimp only at hSw); go_simp) <;> with_reducible rfl)
      (try simp only [List.getElem_toArray, List.getElem_cons_zero, List.getElem_cons_succ]); (try simp only [Act.put]); (try simp only [List.setIfInBounds_toArray]); (try simp only [List.set_cons_succ]); (try simp only [List.set_cons_zero])
      refine wpAnyH_take (i := 20) (v := ?dv20) rfl (by kernel_rfl) (by kernel_rfl) (by kernel_rfl) (fun _ _ _ h => h) (Or.inl ⟨by kernel_rfl, ?dh20⟩) (by assumption) ?dr20
      case dh20 => ((intro w hSw; (try dsimp only at hSw); go_simp) <;> with_reducible rfl)
      (try simp only [List.getElem_toArray, List.getElem_cons_zero, List.getElem_cons_succ]); (try simp only [Act.put]); (try simp only [List.setIfInBounds_toArray]); (try simp only [List.set_cons_succ]); (try simp only [List.set_cons_zero])
      refine wpAnyH_done (by kernel_rfl) ?_ _
      go_wp2
      go_ret
      exact ⟨rfl, B4⟩
    · have E : Hid (closedB s l = decide ((mixL gWithout (nextNumB s l) l).length = 0)) := Lib.hid (by unfold closedB; rw [hz, hh]; rfl)
      have QC := Lib.hid (fun W (B : Below w.heap.size w W) => nextNumbers_spec s l A1 n1 c1 A2 n2 c2 A3 n3 c3 W (Mem.rd_on h1 B) (Mem.rd_on h2 B) (Mem.rd_on h3 B))
      have XC := Lib.hid (fun W A n c (B : Below w.heap.size w W) (h : Mem.rd W W.heap.size [.slice A n c] (nextNumB s l)) => setWithout_spec (nextNumB s l) l A n c A3 n3 c3 W h (Mem.rd_on h3 B))
      have HZ := Lib.hid hz; have HH := Lib.hid hh; clear hz hz' hh ok hFB
      rw [E.out]
      generalize mixL gWithout (nextNumB s l) l = G at *
      go_enter Tryz.func54, Tryz.ntmps54
      go_wp2
      refine wp_region_held_drew (S := (fun w' => w'.cell? ⟨w.heap.size, 0, none⟩ = some (.slice A1 n1 c1) ∧ w'.cell? ⟨w.heap.size, 1, none⟩ = some (.slice A2 n2 c2))) (by kernel_rfl) ?_ (fun hHeld => ?_)
      · (try dsimp only); exact ⟨x0, x1⟩
      refine wpAnyH_take (i := 0) (v := ?ev0) rfl (by kernel_rfl) (by kernel_rfl) (by kernel_rfl) (fun _ _ _ h => h) (Or.inl ⟨by kernel_rfl, ?eh0⟩) (by assumption) ?er0
      case eh0 => ((intro w hSw; (try dsimp only at hSw); go_simp) <;> with_reducible rfl)
      (try simp only [List.getElem_toArray, List.getElem_cons_zero]); (try simp only [Act.put]); (try simp only [List.setIfInBounds_toArray]); (try simp only [List.set_cons_succ]); (try simp only [List.set_cons_zero])
      refine wpAnyH_take (i := 1) (v := ?ev1) rfl (by kernel_rfl) (by kernel_rfl) (by kernel_rfl) (fun _ _ _ h => h) (Or.inl ⟨by kernel_rfl, ?eh1⟩) (by assumption) ?er1
      case eh1 => ((intro w hSw; (try dsimp only at hSw); go_simp) <;> with_reducible rfl)
      (try simp only [List.getElem_toArray, List.getElem_cons_zero, List.getElem_cons_succ]); (try simp only [Act.put]); (try simp only [List.setIfInBounds_toArray]); (try simp only [List.set_cons_succ]); (try simp only [List.set_cons_zero])
      refine wpAnyH_ready (rs := [2]) (by kernel_rfl) (by simp) ?_
      refine AllReadyH.cons (o := _) rfl (fun K hK => ?_) AllReadyH.nil
      go_simp
      refine (SK.out).mono ?_
      rintro e w2 ⟨rfl, b2⟩
      rw [HZ.out]
      have b2 : Below (w.alloc (.cells #[.slice A1 n1 c1, .slice A2 n2 c2] 32)).heap.size (w.alloc (.cells #[.slice A1 n1 c1, .slice A2 n2 c2] 32)) w2 := ⟨b2.os, b2.tape, b2.output, b2.size, b2.block⟩
      obtain ⟨B2, x0, x1⟩ := BX.out _ b2
      have FK := Lib.hid (FC.out w2 B2)
      refine hK.out _ _ ?_ (fun hHeld => ?_)
      · (try dsimp only); exact ⟨x0, x1⟩
      clear hK K
      (try simp only [List.getElem_toArray, List.getElem_cons_zero, List.getElem_cons_succ]); (try simp only [Act.put]); (try simp only [List.setIfInBounds_toArray]); (try simp only [List.set_cons_succ]); (try simp only [List.set_cons_zero])
      refine wpAnyH_take (i := 3) (v := ?ev3) rfl (by kernel_rfl) (by kernel_rfl) (by kernel_rfl) (fun _ _ _ h => h) (Or.inl ⟨by kernel_rfl, ?eh3⟩) (by assumption) ?er3
      case eh3 => ((intro w hSw; (try dsimp only at hSw); go_simp) <;> with_reducible rfl)
      (try simp only [List.getElem_toArray, List.getElem_cons_zero, List.getElem_cons_succ]); (try simp only [Act.put]); (try simp only [List.setIfInBounds_toArray]); (try simp only [List.set_cons_succ]); (try simp only [List.set_cons_zero])
      refine wpAnyH_take (i := 4) (v := ?ev4) rfl (by kernel_rfl) (by kernel_rfl) (by kernel_rfl) (fun _ _ _ h => h) (Or.inl ⟨by kernel_rfl, ?eh4⟩) (by assumption) ?er4
      case eh4 => ((intro w hSw; (try dsimp only at hSw); go_simp) <;> with_reducible rfl)
      (try simp only [List.getElem_toArray, List.getElem_cons_zero, List.getElem_cons_succ]); (try simp only [Act.put]); (try simp only [List.setIfInBounds_toArray]); (try simp only [List.set_cons_succ]); (try simp only [List.set_cons_zero])
      refine wpAnyH_take (i := 5) (v := ?ev5) rfl (by kernel_rfl) (by kernel_rfl) (by kernel_rfl) (fun _ _ _ h => h) (Or.inl ⟨by kernel_rfl, ?eh5⟩) (by assumption) ?er5
      case eh5 => ((intro w hSw; (try dsimp only at hSw); go_simp) <;> with_reducible rfl)
      (try simp only [List.getElem_toArray, List.getElem_cons_zero, List.getElem_cons_succ]); (try simp only [Act.put]); (try simp only [List.setIfInBounds_toArray]); (try simp only [List.set_cons_succ]); (try simp only [List.set_cons_zero])
      refine wpAnyH_take (i := 6) (v := ?ev6) rfl (by kernel_rfl) (by kernel_rfl) (by kernel_rfl) (fun _ _ _ h => h) (Or.inl ⟨by kernel_rfl, ?eh6⟩) (by assumption) ?er6
      case eh6 => ((intro w hSw; (try dsimp only at hSw); go_simp) <;> with_reducible rfl)
      (try simp only [List.getElem_toArray, List.getElem_cons_zero, List.getElem_cons_succ]); (try simp only [Act.put]); (try simp only [List.setIfInBounds_toArray]); (try simp only [List.set_cons_succ]); (try simp only [List.set_cons_zero])
      refine wpAnyH_ready (rs := [7]) (by kernel_rfl) (by simp) ?_
      refine AllReadyH.cons (o := _) rfl (fun K hK => ?_) AllReadyH.nil
      go_simp
      refine (FK.out).mono ?_
      rintro e w3 ⟨v3, rfl, o3, b3⟩
      rw [FL.out] at o3
      obtain ⟨A4, c4, rfl, _, _⟩ := own_form o3
      obtain ⟨f4, om4, _, _⟩ := mem_ints (l := firsts s.vars) (by rw [FL.out]; exact o3) (by rw [FL.out]; have := H5.out; unfold maxLen; omega)
      rw [FL.out] at om4
      have b3 := b2.trans (b3.mono b2.size)
      obtain ⟨B3, x0, x1⟩ := BX.out _ b3
      have NK := Lib.hid (NC.out w3 A4 n1 c4 B3 (Mem.own_rd om4))
      clear om4 o3
      refine hK.out _ _ ?_ (fun hHeld => ?_)
      · (try dsimp only); exact ⟨x0, x1⟩
      clear hK K
      (try simp only [List.getElem_toArray, List.getElem_cons_zero, List.getElem_cons_succ]); (try simp only [Act.put]); (try simp only [List.setIfInBounds_toArray]); (try simp only [List.set_cons_succ]); (try simp only [List.set_cons_zero])
      refine wpAnyH_ready (rs := [8]) (by kernel_rfl) (by simp) ?_
      refine AllReadyH.cons (o := _) rfl (fun K hK => ?_) AllReadyH.nil
      go_simp
      refine (NK.out).mono ?_
      rintro e w4 ⟨rfl, b4⟩
      have b4 := b3.trans (b4.mono b3.size)
      obtain ⟨B4, x0, x1⟩ := BX.out _ b4
      have LK := Lib.hid (LC.out w4 B4)
      refine hK.out _ _ ?_ (fun hHeld => ?_)
      · (try dsimp only); exact ⟨x0, x1⟩
      clear hK K
      (try simp only [List.getElem_toArray, List.getElem_cons_zero, List.getElem_cons_succ]); (try simp only [Act.put]); (try simp only [List.setIfInBounds_toArray]); (try simp only [List.set_cons_succ]); (try simp only [List.set_cons_zero])
      refine wpAnyH_ready (rs := [9]) (by kernel_rfl) (by simp) ?_
      refine AllReadyH.cons (o := _) rfl (fun K hK => ?_) AllReadyH.nil
      go_simp
      refine (LK.out).mono ?_
      rintro e w5 ⟨rfl, rfl⟩
      rw [HH.out]
      refine hK.out _ _ ?_ (fun hHeld => ?_)
      · (try dsimp only); exact ⟨x0, x1⟩
      clear hK K
      (try simp only [List.getElem_toArray, List.getElem_cons_zero, List.getElem_cons_succ]); (try simp only [Act.put]); (try simp only [List.setIfInBounds_toArray]); (try simp only [List.set_cons_succ]); (try simp only [List.set_cons_zero])
      refine wpAnyH_take (i := 10) (v := ?ev10) rfl (by kernel_rfl) (by kernel_rfl) (by kernel_rfl) (fun _ _ _ h => h) (Or.inl ⟨by kernel_rfl, ?eh10⟩) (by assumption) ?er10
      case eh10 => ((intro w hSw; (try dsimp only at hSw); go_simp) <;> with_reducible rfl)
      (try simp only [List.getElem_toArray, List.getElem_cons_zero, List.getElem_cons_succ]); (try simp only [Act.put]); (try simp only [List.setIfInBounds_toArray]); (try simp only [List.set_cons_succ]); (try simp only [List.set_cons_zero])
      refine wpAnyH_take (i := 11) (v := ?ev11) rfl (by kernel_rfl) (by kernel_rfl) (by kernel_rfl) (fun _ _ _ h => h) (Or.inl ⟨by kernel_rfl, ?eh11⟩) (by assumption) ?er11
      case eh11 => ((intro w hSw; (try dsimp only at hSw); go_simp) <;> with_reducible rfl)
      (try simp only [List.getElem_toArray, List.getElem_cons_zero, List.getElem_cons_succ]); (try simp only [Act.put]); (try simp only [List.setIfInBounds_toArray]); (try simp only [List.set_cons_succ]); (try simp only [List.set_cons_zero])
      refine wpAnyH_take (i := 12) (v := ?ev12) rfl (by kernel_rfl) (by kernel_rfl) (by kernel_rfl) (fun _ _ _ h => h) (Or.inl ⟨by kernel_rfl, ?eh12⟩) (by assumption) ?er12
      case eh12 => ((intro w hSw; (try dsimp only at hSw); go_simp) <;> with_reducible rfl)
      (try simp only [List.getElem_toArray, List.getElem_cons_zero, List.getElem_cons_succ]); (try simp only [Act.put]); (try simp only [List.setIfInBounds_toArray]); (try simp only [List.set_cons_succ]); (try simp only [List.set_cons_zero])
      refine wpAnyH_take (i := 13) (v := ?ev13) rfl (by kernel_rfl) (by kernel_rfl) (by kernel_rfl) (fun _ _ _ h => h) (Or.inl ⟨by kernel_rfl, ?eh13⟩) (by assumption) ?er13
      case eh13 => ((intro w hSw; (try dsimp only at hSw); go_simp) <;> with_reducible rfl)
      (try simp only [List.getElem_toArray, List.getElem_cons_zero, List.getElem_cons_succ]); (try simp only [Act.put]); (try simp only [List.setIfInBounds_toArray]); (try simp only [List.set_cons_succ]); (try simp only [List.set_cons_zero])
      refine wpAnyH_take (i := 15) (v := ?ev15) rfl (by kernel_rfl) (by kernel_rfl) (by kernel_rfl) (fun _ _ _ h => h) (Or.inl ⟨by kernel_rfl, ?eh15⟩) (by assumption) ?er15
      case eh15 => ((intro w hSw; (try dsimp only at hSw); go_simp) <;> with_reducible rfl)
      (try simp only [List.getElem_toArray, List.getElem_cons_zero, List.getElem_cons_succ]); (try simp only [Act.put]); (try simp only [List.setIfInBounds_toArray]); (try simp only [List.set_cons_succ]); (try simp only [List.set_cons_zero])
      refine wpAnyH_ready (rs := [14]) (by kernel_rfl) (by simp) ?_
      refine AllReadyH.cons (o := _) rfl (fun K hK => ?_) AllReadyH.nil
      go_simp
      refine (QC.out _ B4).mono ?_
      rintro e w6 ⟨A6, n6, c6, f6, rfl, o6, _, _, b6⟩
      have L6 := (rd_len (Mem.own_rd o6)).symm
      have b6 := b4.trans (b6.mono b4.size)
      obtain ⟨B6, x0, x1⟩ := BX.out _ b6
      have XK := Lib.hid (XC.out w6 A6 n6 c6 B6 (Mem.own_rd o6))
      clear o6 L6
      refine hK.out _ _ ?_ (fun hHeld => ?_)
      · (try dsimp only); exact ⟨x0, x1⟩
      clear hK K
      (try simp only [List.getElem_toArray, List.getElem_cons_zero, List.getElem_cons_succ]); (try simp only [Act.put]); (try simp only [List.setIfInBounds_toArray]); (try simp only [List.set_cons_succ]); (try simp only [List.set_cons_zero])
      refine wpAnyH_ready (rs := [16]) (by kernel_rfl) (by simp) ?_
      refine AllReadyH.cons (o := _) rfl (fun K hK => ?_) AllReadyH.nil
      go_simp
      refine (XK.out).mono ?_
      rintro e w7 ⟨A7, n7, c7, f7, rfl, o7, _, _, b7⟩
      have L7 := Lib.hid (rd_len (Mem.own_rd o7)).symm
      have b7 := b6.trans (b7.mono b6.size)
      obtain ⟨B7, x0, x1⟩ := BX.out _ b7
      clear o7
      refine hK.out _ _ ?_ (fun hHeld => ?_)
      · (try dsimp only); exact ⟨x0, x1⟩
      clear hK K
      (try simp only [List.getElem_toArray, List.getElem_cons_zero, List.getElem_cons_succ]); (try simp only [Act.put]); (try simp only [List.setIfInBounds_toArray]); (try simp only [List.set_cons_succ]); (try simp only [List.set_cons_zero])
      refine wpAnyH_take (i := 17) (v := ?ev17) rfl (by kernel_rfl) (by kernel_rfl) (by kernel_rfl) (fun _ _ _ h => h) (Or.inl ⟨by kernel_rfl, ?eh17⟩) (by assumption) ?er17
      case eh17 => ((intro w hSw; (try dsimp only at hSw); go_simp) <;> with_reducible rfl)
      (try simp only [List.getElem_toArray, List.getElem_cons_zero, List.getElem_cons_succ]); (try simp only [Act.put]); (try simp only [List.setIfInBounds_toArray]); (try simp only [List.set_cons_succ]); (try simp only [List.set_cons_zero])
      refine wpAnyH_take (i := 18) (v := ?ev18) rfl (by kernel_rfl) (by kernel_rfl) (by kernel_rfl) (fun _ _ _ h => h) (Or.inl ⟨by kernel_rfl, ?eh18⟩) (by assumption) ?er18
      case eh18 => ((intro w hSw; (try dsimp only at hSw); go_simp) <;> with_reducible rfl)
      (try simp only [List.getElem_toArray, List.getElem_cons_zero, List.getElem_cons_succ]); (try simp only [Act.put]); (try simp only [List.setIfInBounds_toArray]); (try simp only [List.set_cons_succ]); (try simp only [List.set_cons_zero])
      refine wpAnyH_take (i := 19) (v := ?ev19) rfl (by kernel_rfl) (by kernel_rfl) (by kernel_rfl) (fun _ _ _ h => h) (Or.inl ⟨by kernel_rfl, ?eh19⟩) (by assumption) ?er19
      case eh19 => ((intro w hSw; (try dsimp only at hSw); go_simp) <;> with_reducible rfl)
      (try simp only [List.getElem_toArray, List.getElem_cons_zero, List.getElem_cons_succ]); (try simp only [Act.put]); (try simp only [List.setIfInBounds_toArray]); (try simp only [List.set_cons_succ]); (try simp only [List.set_cons_zero])
      refine wpAnyH_take (i := 20) (v := ?ev20) rfl (by kernel_rfl) (by kernel_rfl) (by kernel_rfl) (fun _ _ _ h => h) (Or.inl ⟨by kernel_rfl, ?eh20⟩) (by assumption) ?er20
      case eh20 => ((intro w hSw; (try dsimp only at hSw); go_simp) <;> with_reducible rfl)
      (try simp only [List.getElem_toArray, List.getElem_cons_zero, List.getElem_cons_succ]); (try simp only [Act.put]); (try simp only [List.setIfInBounds_toArray]); (try simp only [List.set_cons_succ]); (try simp only [List.set_cons_zero])
      refine wpAnyH_done (by kernel_rfl) ?_ _
      go_wp2
      go_ret
      exact ⟨by rw [← L7.out]; simp; exact int_beq n7, B7⟩
end Go.Proofs.YtfgjogmgcamfdaaGreatDoor
