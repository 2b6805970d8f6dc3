/- SameEdges, in the program. -/
import Derived.Test.YtnhjcokmajejcaaDoorSaP
import Derived.Test.YtnhjcokmajejcaaDoorTrI
import Derived.Test.YtnhjcokmajejcaaDoorCiV
import Derived.BigQuiet
import Derived.Deep.RegionHeld3
import Derived.Deep.CutRange
namespace Go.Proofs.YtnhjcokmajejcaaDoor
open Go.RowKit
set_option maxRecDepth 100000

theorem add_blk (g k : Nat) : (⟨g, 0, none⟩ : Addr).add k = ⟨g, k, none⟩ := by
  unfold Addr.add
  by_cases q : k = 0
  · subst q; simp
  · simp [q]
theorem el_ext {l m : List Nat} {n : Nat} (hl : l.length = n) (hm : m.length = n) : l = m ↔ ∀ k, k < n → el l k = el m k := by
  constructor
  · rintro rfl k _; rfl
  · intro h
    refine List.ext_getElem (by omega) fun k h1 h2 => ?_
    have := h k (by omega)
    rwa [el_lt h1, el_lt h2] at this
set_option maxHeartbeats 4000000 in
theorem equal_us (l m : List Nat) (n g c g' c' : Nat) (w : World) (h1 : Rd w w.heap.size 1 (some ⟨g, 0, none⟩) n (us l)) (h2 : Rd w w.heap.size 1 (some ⟨g', 0, none⟩) n (us m)) (hn : n ≤ 1000000) :
    Calls Tryd.prog 35 #[.slice (some ⟨g, 0, none⟩) n c, .slice (some ⟨g', 0, none⟩) n c'] w (fun e w' => e = .returned (.bool (decide (l = m))) ∧ Below w.heap.size w w') := by
  have hl : l.length = n := by have := h1.1; rw [us_len] at this; omega
  have hm : m.length = n := by have := h2.1; rw [us_len] at this; omega
  have EX := Lib.hid (el_ext hl hm)
  have C1 := Lib.hid (fun W (B : Below w.heap.size w W) k (hk : k < n) => show W.cell? ⟨g, k, none⟩ = some (.int .u64 (el l k : Nat)) from by
    obtain ⟨ad, e, hb, hc⟩ := us_read h1 hk
    injection e with e
    subst e
    rw [add_blk] at hc
    exact cell_below B (p := ⟨_, k, none⟩) hb hc)
  have C2 := Lib.hid (fun W (B : Below w.heap.size w W) k (hk : k < n) => show W.cell? ⟨g', k, none⟩ = some (.int .u64 (el m k : Nat)) from by
    obtain ⟨ad, e, hb, hc⟩ := us_read h2 hk
    injection e with e
    subst e
    rw [add_blk] at hc
    exact cell_below B (p := ⟨_, k, none⟩) hb hc)
  have e0 : ((n : Int) != (n : Int)) = false := by simp
  clear h1 h2 hl hm
  go_enter Tryd.func35, Tryd.ntmps35
  go_wp2
  go_loopg [5, 13] n (fun r i5 i wr => ∃ k : Nat, k + r = n ∧ i = .int .i64 k ∧ Hid (∀ j, j < k → el l j = el m j) ∧ Below w.heap.size w wr)
  case atStart => exact ⟨0, by omega, rfl, Lib.hid (fun j hj => absurd hj (by omega)), Below.refl _ _⟩
  case round =>
    obtain ⟨k, hk, rfl, ha, hb⟩ := hrel
    by_cases hlt : k < n
    · have kn : (k : Int) < n := by omega
      have d1 := C1.out wr hb k hlt
      have d2 := C2.out wr hb k hlt
      have HF : Hid (el l k ≠ el m k → decide (l = m) = false) := Lib.hid (fun q => decide_eq_false fun e => q ((EX.out.1 e) k hlt))
      have HS : Hid (el l k = el m k → ∀ j, j < k + 1 → el l j = el m j) := Lib.hid (fun q j hj => by
        by_cases e : j = k
        · subst e; exact q
        · exact ha.out j (by omega))
      have NE : ∀ x y : Nat, x ≠ y → ((x : Int) != (y : Int)) = true := fun x y h => by simp; omega
      generalize el l k = x at *
      generalize el m k = y at *
      by_cases z : x = y
      · subst z
        have hs := Lib.hid (HS.out rfl)
        have z0 : ((x : Int) != (x : Int)) = false := by simp
        clear NE HF
        go_wp2
        go_region
        all_goals
          go_wp2
          go_roundg (n - (k + 1))
          case measure => omega
          case rel => exact ⟨k + 1, by omega, by go_num, hs, hb.drew⟩
      · have hf := Lib.hid (HF.out z)
        have z0 : ((x : Int) != (y : Int)) = true := NE x y z
        clear NE HF z
        go_wp2
        go_region
        all_goals
          go_wp2
          go_ret
          exact ⟨(congrArg (fun b => Ending.returned (.bool b)) hf.out).symm, hb.drew⟩
    · obtain rfl : k = n := by omega
      have E : Hid (decide (l = m) = true) := Lib.hid (decide_eq_true (EX.out.2 ha.out))
      go_wp2
      go_ret
      exact ⟨(congrArg (fun b => Ending.returned (.bool b)) E.out).symm, hb⟩

set_option maxHeartbeats 4000000 in
theorem sameE_impl (s : Ci) (a b : Int) (A : Option Addr) (n c : Nat) (w : World) (h1 : Mem.rd w w.heap.size [.slice A n c] s.gates) (hT : DoorAt w) :
    Calls Tryd.prog 10 #[.agg #[.int .i64 s.ins, .slice A n c], .int .i64 a, .int .i64 b] w (GivesBool w (sameEB s a b)) := by
  obtain rfl : s.gates.length = n := rd_len h1
  have BX := Lib.hid (ci_box (w := w) (v1 := .int .i64 s.ins) (v2 := .slice A s.gates.length c) (t := 29))
  have HE := Lib.hid (fun W (B : Below w.heap.size w W) => hasEdges_any s A s.gates.length c (some ⟨W.heap.size, 0, none⟩) 2 2 [a, b] (W.alloc (.cells #[.int .i64 a, .int .i64 b] 3)) (Mem.rd_on_alloc (Mem.rd_on h1 B) _) (rd_new2 W a b))
  have HE0 := HE.out _ (below_alloc w (.cells #[.int .i64 s.ins, .slice A s.gates.length c] 29))
  simp only [World.size_alloc] at HE0
  have eE : (ckB s && areE s [a, b]) = (ckB s && (isE s a && isE s b)) := by simp [areE]
  rw [eE] at HE0
  cases k1 : (ckB s && (isE s a && isE s b))
  · rw [k1] at HE0
    have hf : Hid (sameEB s a b = false) := Lib.hid (by
      unfold sameEB
      cases q0 : ckB s
      · rfl
      · cases q1 : isE s a
        · rfl
        · cases q2 : isE s b
          · rfl
          · rw [q0, q1, q2] at k1; cases k1)
    generalize sameEB s a b = z at *
    obtain ⟨m, gs⟩ := s
    dsimp only at *
    clear k1 h1 hT HE eE
    go_enter Tryd.func10, Tryd.ntmps10
    go_wp2_with fail
    refine HE0.mono ?_
    rintro e w1 ⟨rfl, b1'⟩
    go_wp2
    go_ret
    exact ⟨(congrArg (fun b => Ending.returned (.bool b)) hf.out).symm, below_call (below_call b1')⟩
  · rw [k1] at HE0
    rw [Bool.and_eq_true, Bool.and_eq_true] at k1
    obtain ⟨k1, qa, qb⟩ := k1
    have ok := ckB_iff.1 k1
    have lo := ok.lo
    have hi := ok.hi
    obtain ⟨N, hN⟩ : ∃ N : Nat, s.ins = N := ⟨s.ins.toNat, by omega⟩
    have eN : s.ins.toNat = N := by omega
    have N12 : N ≤ 12 := by omega
    obtain ⟨a0, a1⟩ := isE_iff.1 qa
    obtain ⟨b0, b1⟩ := isE_iff.1 qb
    have E : Hid (sameEB s a b = decide (trL (Tc s a) N = trL (Tc s b) N)) := Lib.hid (by
      rw [trL_sameB]
      unfold sameEB
      rw [k1, qa, qb, eN]; rfl)
    have TA := Lib.hid (fun W (B : Below w.heap.size w W) => truths_any s ok a a0 a1 A c N hN W (Mem.rd_on h1 B) (hT.on B))
    have TB := Lib.hid (fun W (B : Below w.heap.size w W) => truths_any s ok b b0 b1 A c N hN W (Mem.rd_on h1 B) (hT.on B))
    have LA := trL_len (Tc s a) N
    have LB := trL_len (Tc s b) N
    have K64 : blkN N ≤ 1000000 := by
      have := blk_pow N12
      unfold blkN
      omega
    rw [hN] at BX HE0 TA TB ⊢
    obtain ⟨la, ela⟩ : ∃ la, la = trL (Tc s a) N := ⟨_, rfl⟩
    obtain ⟨lb, elb⟩ : ∃ lb, lb = trL (Tc s b) N := ⟨_, rfl⟩
    obtain ⟨K, eK⟩ : ∃ K, K = blkN N := ⟨_, rfl⟩
    rw [← ela] at E TA LA
    rw [← elb] at E TB LB
    rw [← eK] at LA LB K64
    clear ela elb eK
    have EQ := Lib.hid (fun (g4 c4 g5 c5 : Nat) (W : World) h2 h3 => equal_us la lb K g4 c4 g5 c5 W h2 h3 K64)
    have La := Lib.hid LA
    have Lb := Lib.hid LB
    clear h1 k1 qa qb ok lo hi hN eN a0 a1 b0 b1 hT HE eE K64 N12 LA LB
    go_enter Tryd.func10, Tryd.ntmps10
    go_wp2_with fail
    refine HE0.mono ?_
    rintro e w1 ⟨rfl, b1'⟩
    obtain ⟨B1, x0, x1⟩ := BX.out _ (below_call b1')
    have l0 : w.heap.size < w1.heap.size := by have := b1'.size; (try simp only [World.size_alloc] at this); omega
    have HB1 := Lib.hid B1
    have BW0 : Below w1.heap.size w1 w1.drew := (Below.refl _ _).drew
    have TA1 := Lib.hid (fun W (B : Below w1.heap.size w1 W) => TA.out W (B1.trans (B.mono B1.size)))
    have TB1 := Lib.hid (fun W (B : Below w1.heap.size w1 W) => TB.out W (B1.trans (B.mono B1.size)))
    clear B1 b1' HE0 TA TB
    go_upto_region 3 with fail
    refine wp_region_held_drew (S := (fun w' => w'.cell? ⟨w.heap.size, 0, none⟩ = some (.int .i64 N) ∧ w'.cell? ⟨w.heap.size, 1, none⟩ = some (.slice A s.gates.length c))) (by kernel_rfl) ?_ (fun hHeld => ?_)
    · (try dsimp only); exact ⟨x0, x1⟩
    refine wpAnyH_take (i := 0) (v := ?v0) rfl (by kernel_rfl) (by kernel_rfl) (by kernel_rfl) (fun _ _ _ h => h) (Or.inl ⟨by kernel_rfl, ?h0⟩) (by assumption) ?r0
    case h0 => ((intro w hSw; (try dsimp only at hSw); go_simp) <;> with_reducible rfl)
    (try simp only [List.getElem_toArray, List.getElem_cons_zero]); (try simp only [Act.put]); (try simp only [List.setIfInBounds_toArray]); (try simp only [List.set_cons_succ]); (try simp only [List.set_cons_zero])
    refine wpAnyH_take (i := 1) (v := ?v1) rfl (by kernel_rfl) (by kernel_rfl) (by kernel_rfl) (fun _ _ _ h => h) (Or.inl ⟨by kernel_rfl, ?h1⟩) (by assumption) ?r1
    case h1 => ((intro w hSw; (try dsimp only at hSw); go_simp) <;> with_reducible rfl)
    (try simp only [List.getElem_toArray, List.getElem_cons_zero, List.getElem_cons_succ]); (try simp only [Act.put]); (try simp only [List.setIfInBounds_toArray]); (try simp only [List.set_cons_succ]); (try simp only [List.set_cons_zero])
    refine wpAnyH_take (i := 3) (v := ?v3) rfl (by kernel_rfl) (by kernel_rfl) (by kernel_rfl) (fun _ _ _ h => h) (Or.inl ⟨by kernel_rfl, ?h3⟩) (by assumption) ?r3
    case h3 => ((intro w hSw; (try dsimp only at hSw); go_simp) <;> with_reducible rfl)
    (try simp only [List.getElem_toArray, List.getElem_cons_zero, List.getElem_cons_succ]); (try simp only [Act.put]); (try simp only [List.setIfInBounds_toArray]); (try simp only [List.set_cons_succ]); (try simp only [List.set_cons_zero])
    refine wpAnyH_take (i := 4) (v := ?v4) rfl (by kernel_rfl) (by kernel_rfl) (by kernel_rfl) (fun _ _ _ h => h) (Or.inl ⟨by kernel_rfl, ?h4⟩) (by assumption) ?r4
    case h4 => ((intro w hSw; (try dsimp only at hSw); go_simp) <;> with_reducible rfl)
    (try simp only [List.getElem_toArray, List.getElem_cons_zero, List.getElem_cons_succ]); (try simp only [Act.put]); (try simp only [List.setIfInBounds_toArray]); (try simp only [List.set_cons_succ]); (try simp only [List.set_cons_zero])
    refine wpAnyH_ready (rs := [2]) (by kernel_rfl) (by simp) ?_
    refine AllReadyH.cons (o := _) rfl (fun K hK => ?_) AllReadyH.nil
    go_simp
    refine (TA1.out w1.drew BW0).mono ?_
    rintro e w4 ⟨g4, c4, rfl, o4, b4'⟩
    have b4 : Below w1.heap.size w1 w4 := ⟨b4'.os, b4'.tape, b4'.output, b4'.size, b4'.block⟩
    have x0 := cell_below b4 (p := ⟨w.heap.size, 0, none⟩) l0 x0
    have x1 := cell_below b4 (p := ⟨w.heap.size, 1, none⟩) l0 x1
    have TB4 := Lib.hid (TB1.out w4 b4)
    have l4 := Nat.lt_of_lt_of_le l0 b4.size
    rw [La.out] at o4
    simp only [La.out]
    refine hK.out _ _ ?_ (fun hHeld => ?_)
    · (try dsimp only); exact ⟨x0, x1⟩
    clear hK K
    (try simp only [List.getElem_toArray, List.getElem_cons_zero, List.getElem_cons_succ]); (try simp only [Act.put]); (try simp only [List.setIfInBounds_toArray]); (try simp only [List.set_cons_succ]); (try simp only [List.set_cons_zero])
    refine wpAnyH_ready (rs := [5]) (by kernel_rfl) (by simp) ?_
    refine AllReadyH.cons (o := _) rfl (fun K hK => ?_) AllReadyH.nil
    go_simp
    refine (TB4.out).mono ?_
    rintro e w5 ⟨g5, c5, rfl, o5, b5⟩
    have x0 := cell_below b5 (p := ⟨w.heap.size, 0, none⟩) l4 x0
    have x1 := cell_below b5 (p := ⟨w.heap.size, 1, none⟩) l4 x1
    rw [Lb.out] at o5
    simp only [Lb.out]
    have EQ5 := Lib.hid (EQ.out g4 c4 g5 c5 w5 (Rd.of_own (own_below o4 b5)) (Rd.of_own o5))
    have l5 := Nat.lt_of_lt_of_le l4 b5.size
    have b45 := b4.trans (b5.mono b4.size)
    refine hK.out _ _ ?_ (fun hHeld => ?_)
    · (try dsimp only); exact ⟨x0, x1⟩
    clear hK K
    (try simp only [List.getElem_toArray, List.getElem_cons_zero, List.getElem_cons_succ]); (try simp only [Act.put]); (try simp only [List.setIfInBounds_toArray]); (try simp only [List.set_cons_succ]); (try simp only [List.set_cons_zero])
    refine wpAnyH_ready (rs := [6]) (by kernel_rfl) (by simp) ?_
    refine AllReadyH.cons (o := _) rfl (fun K hK => ?_) AllReadyH.nil
    go_simp
    refine (EQ5.out).mono ?_
    rintro e w6 ⟨rfl, b6⟩
    have x0 := cell_below b6 (p := ⟨w.heap.size, 0, none⟩) l5 x0
    have x1 := cell_below b6 (p := ⟨w.heap.size, 1, none⟩) l5 x1
    have HB9 := Lib.hid (HB1.out.trans ((b45.trans (b6.mono b45.size)).mono HB1.out.size))
    refine hK.out _ _ ?_ (fun hHeld => ?_)
    · (try dsimp only); exact ⟨x0, x1⟩
    clear hK K
    (try simp only [List.getElem_toArray, List.getElem_cons_zero, List.getElem_cons_succ]); (try simp only [Act.put]); (try simp only [List.setIfInBounds_toArray]); (try simp only [List.set_cons_succ]); (try simp only [List.set_cons_zero])
    refine wpAnyH_take (i := 7) (v := ?v7) rfl (by kernel_rfl) (by kernel_rfl) (by kernel_rfl) (fun _ _ _ h => h) (Or.inl ⟨by kernel_rfl, ?h7⟩) (by assumption) ?r7
    case h7 => ((intro w hSw; (try dsimp only at hSw); go_simp) <;> with_reducible rfl)
    (try simp only [List.getElem_toArray, List.getElem_cons_zero, List.getElem_cons_succ]); (try simp only [Act.put]); (try simp only [List.setIfInBounds_toArray]); (try simp only [List.set_cons_succ]); (try simp only [List.set_cons_zero])
    refine wpAnyH_done (by kernel_rfl) ?_ _
    go_wp2
    go_ret
    exact ⟨(congrArg (fun b => Ending.returned (.bool b)) E.out).symm, HB9.out⟩
end Go.Proofs.YtnhjcokmajejcaaDoor
