/- TraceOf of the model. -/
import Derived.Test.YtdecjkfokilgoaaOfP
import Derived.Test.YtdecjkfokilgoaaAtS
import Derived.Deep.RegionHeld3
import Derived.Deep.RegionLaw
namespace Go.Proofs.Ytdecjkfokilgoaa
open Go.RowKit

set_option maxRecDepth 100000 in
set_option maxHeartbeats 16000000 in
theorem traceOf_spec (s : Sy) (L : List (List Int)) (A1 : Option Addr) (n1 c1 : Nat) (A2 : Option Addr) (n2 c2 : Nat) (A3 : Option Addr) (n3 c3 : Nat) (w : World) (h1 : Mem.rd w w.heap.size [.slice A1 n1 c1] s.vars) (h2 : Mem.rd w w.heap.size [.slice A2 n2 c2] s.rules) (h3 : Mem.rd w w.heap.size [.slice A3 n3 c3] L) :
    Calls Try.prog 19 #[.agg #[.slice A1 n1 c1, .slice A2 n2 c2], .slice A3 n3 c3] w (GivesTrB w (ofS s L) (ofRs s L) (ofB s L)) := by
  have BX := Lib.hid (fun W hW => repW_box (w := w) (v1 := .slice A1 n1 c1) (v2 := .slice A2 n2 c2) (W := W) hW)
  have bW := repW_below w (.slice A1 n1 c1) (.slice A2 n2 c2)
  have bD : Below w.heap.size w (repW w (.slice A1 n1 c1) (.slice A2 n2 c2)).drew := ⟨bW.os, bW.tape, bW.output, bW.size, bW.block⟩
  have SV := Lib.hid (sysValid_spec s A1 n1 c1 A2 n2 c2 (repW w (.slice A1 n1 c1) (.slice A2 n2 c2)).drew (Mem.rd_on h1 bD) (Mem.rd_on h2 bD))
  obtain ⟨_, ⟨x0, x1⟩, _, _⟩ := BX.out _ (Below.refl _ _)
  have L3 := rd_len h3
  have m3 := rd_max h3
  unfold maxLen at m3
  obtain ⟨F, hF⟩ : ∃ F, F = ofS s L := ⟨_, rfl⟩
  obtain ⟨G, hG⟩ : ∃ G, G = ofRs s L := ⟨_, rfl⟩
  obtain ⟨N, hN⟩ : ∃ N, N = ofB s L := ⟨_, rfl⟩
  rw [← hF, ← hG, ← hN]
  have NO := Lib.hid (fun (h : ofB s L = false) => (⟨hF.trans (of_no h).1, hG.trans (of_no h).2, hN.trans h⟩ : F = [] ∧ G = [] ∧ N = false))
  cases hz : sysB s
  · have E : Hid (F = [] ∧ G = [] ∧ N = false) := Lib.hid (NO.out (by unfold ofB; rw [hz]; rfl))
    have HZ := Lib.hid hz; clear hz hF hG hN NO
    unfold repW at SV x0 x1
    go_enter Try.func19, Try.ntmps19
    go_wp2
    refine wp_region_held_drew (S := (fun w' => w'.cell? ⟨w.heap.size, 0, none⟩ = some (.slice A1 n1 c1) ∧ w'.cell? ⟨w.heap.size, 1, none⟩ = some (.slice A2 n2 c2))) (by kernel_rfl) ?_ (fun hHeld => ?_)
    · (try dsimp only); exact ⟨x0, x1⟩
    refine wpAnyH_take (i := 0) (v := ?av0) rfl (by kernel_rfl) (by kernel_rfl) (by kernel_rfl) (fun _ _ _ h => h) (Or.inl ⟨by kernel_rfl, ?ah0⟩) (by assumption) ?ar0
    case ah0 => ((intro w hSw; (try dsimp only at hSw); go_simp) <;> with_reducible rfl)
    (try simp only [List.getElem_toArray, List.getElem_cons_zero]); (try simp only [Act.put]); (try simp only [List.setIfInBounds_toArray]); (try simp only [List.set_cons_succ]); (try simp only [List.set_cons_zero])
    refine wpAnyH_ready (rs := [1]) (by kernel_rfl) (by simp) ?_
    refine AllReadyH.cons (o := _) rfl (fun K hK => ?_) AllReadyH.nil
    go_simp
    refine (SV.out).mono ?_
    rintro e w2 ⟨rfl, b2⟩
    rw [HZ.out]
    have b2 := rep_b (w := w) (v1 := .slice A1 n1 c1) (v2 := .slice A2 n2 c2) (show Below (repW w (.slice A1 n1 c1) (.slice A2 n2 c2)).heap.size (repW w (.slice A1 n1 c1) (.slice A2 n2 c2)) w2 from ⟨b2.os, b2.tape, b2.output, b2.size, b2.block⟩)
    obtain ⟨B2, ⟨x0, x1⟩, kZ, lx⟩ := BX.out _ b2
    refine hK.out _ _ ?_ (fun hHeld => ?_)
    · (try dsimp only); exact ⟨x0, x1⟩
    clear hK K
    (try simp only [List.getElem_toArray, List.getElem_cons_zero, List.getElem_cons_succ]); (try simp only [Act.put]); (try simp only [List.setIfInBounds_toArray]); (try simp only [List.set_cons_succ]); (try simp only [List.set_cons_zero])
    refine wpAnyH_take (i := 2) (v := ?av2) rfl (by kernel_rfl) (by kernel_rfl) (by kernel_rfl) (fun _ _ _ h => h) (Or.inl ⟨by kernel_rfl, ?ah2⟩) (by assumption) ?ar2
    case ah2 => ((intro w hSw; (try dsimp only at hSw); go_simp) <;> with_reducible rfl)
    (try simp only [List.getElem_toArray, List.getElem_cons_zero, List.getElem_cons_succ]); (try simp only [Act.put]); (try simp only [List.setIfInBounds_toArray]); (try simp only [List.set_cons_succ]); (try simp only [List.set_cons_zero])
    refine wpAnyH_take (i := 3) (v := ?av3) rfl (by kernel_rfl) (by kernel_rfl) (by kernel_rfl) (fun _ _ _ h => h) (Or.inl ⟨by kernel_rfl, ?ah3⟩) (by assumption) ?ar3
    case ah3 => ((intro w hSw; (try dsimp only at hSw); go_simp) <;> with_reducible rfl)
    (try simp only [List.getElem_toArray, List.getElem_cons_zero, List.getElem_cons_succ]); (try simp only [Act.put]); (try simp only [List.setIfInBounds_toArray]); (try simp only [List.set_cons_succ]); (try simp only [List.set_cons_zero])
    refine wpAnyH_take (i := 4) (v := undef) rfl (by kernel_rfl) (by kernel_rfl) (by kernel_rfl) (fun _ _ _ h => h) (Or.inr ⟨by kernel_rfl, rfl⟩) (by assumption) ?_
    (try simp only [List.getElem_toArray, List.getElem_cons_zero, List.getElem_cons_succ]); (try simp only [Act.put]); (try simp only [List.setIfInBounds_toArray]); (try simp only [List.set_cons_succ]); (try simp only [List.set_cons_zero])
    refine wpAnyH_take (i := 5) (v := undef) rfl (by kernel_rfl) (by kernel_rfl) (by kernel_rfl) (fun _ _ _ h => h) (Or.inr ⟨by kernel_rfl, rfl⟩) (by assumption) ?_
    (try simp only [List.getElem_toArray, List.getElem_cons_zero, List.getElem_cons_succ]); (try simp only [Act.put]); (try simp only [List.setIfInBounds_toArray]); (try simp only [List.set_cons_succ]); (try simp only [List.set_cons_zero])
    refine wpAnyH_take (i := 6) (v := undef) rfl (by kernel_rfl) (by kernel_rfl) (by kernel_rfl) (fun _ _ _ h => h) (Or.inr ⟨by kernel_rfl, rfl⟩) (by assumption) ?_
    (try simp only [List.getElem_toArray, List.getElem_cons_zero, List.getElem_cons_succ]); (try simp only [Act.put]); (try simp only [List.setIfInBounds_toArray]); (try simp only [List.set_cons_succ]); (try simp only [List.set_cons_zero])
    refine wpAnyH_take (i := 7) (v := undef) rfl (by kernel_rfl) (by kernel_rfl) (by kernel_rfl) (fun _ _ _ h => h) (Or.inr ⟨by kernel_rfl, rfl⟩) (by assumption) ?_
    (try simp only [List.getElem_toArray, List.getElem_cons_zero, List.getElem_cons_succ]); (try simp only [Act.put]); (try simp only [List.setIfInBounds_toArray]); (try simp only [List.set_cons_succ]); (try simp only [List.set_cons_zero])
    refine wpAnyH_take (i := 8) (v := ?av8) rfl (by kernel_rfl) (by kernel_rfl) (by kernel_rfl) (fun _ _ _ h => h) (Or.inl ⟨by kernel_rfl, ?ah8⟩) (by assumption) ?ar8
    case ah8 => ((intro w hSw; (try dsimp only at hSw); go_simp) <;> with_reducible rfl)
    (try simp only [List.getElem_toArray, List.getElem_cons_zero, List.getElem_cons_succ]); (try simp only [Act.put]); (try simp only [List.setIfInBounds_toArray]); (try simp only [List.set_cons_succ]); (try simp only [List.set_cons_zero])
    refine wpAnyH_take (i := 9) (v := ?av9) rfl (by kernel_rfl) (by kernel_rfl) (by kernel_rfl) (fun _ _ _ h => h) (Or.inl ⟨by kernel_rfl, ?ah9⟩) (by assumption) ?ar9
    case ah9 => ((intro w hSw; (try dsimp only at hSw); go_simp) <;> with_reducible rfl)
    (try simp only [List.getElem_toArray, List.getElem_cons_zero, List.getElem_cons_succ]); (try simp only [Act.put]); (try simp only [List.setIfInBounds_toArray]); (try simp only [List.set_cons_succ]); (try simp only [List.set_cons_zero])
    refine wpAnyH_take (i := 10) (v := undef) rfl (by kernel_rfl) (by kernel_rfl) (by kernel_rfl) (fun _ _ _ h => h) (Or.inr ⟨by kernel_rfl, rfl⟩) (by assumption) ?_
    (try simp only [List.getElem_toArray, List.getElem_cons_zero, List.getElem_cons_succ]); (try simp only [Act.put]); (try simp only [List.setIfInBounds_toArray]); (try simp only [List.set_cons_succ]); (try simp only [List.set_cons_zero])
    refine wpAnyH_take (i := 11) (v := undef) rfl (by kernel_rfl) (by kernel_rfl) (by kernel_rfl) (fun _ _ _ h => h) (Or.inr ⟨by kernel_rfl, rfl⟩) (by assumption) ?_
    (try simp only [List.getElem_toArray, List.getElem_cons_zero, List.getElem_cons_succ]); (try simp only [Act.put]); (try simp only [List.setIfInBounds_toArray]); (try simp only [List.set_cons_succ]); (try simp only [List.set_cons_zero])
    refine wpAnyH_take (i := 12) (v := undef) rfl (by kernel_rfl) (by kernel_rfl) (by kernel_rfl) (fun _ _ _ h => h) (Or.inr ⟨by kernel_rfl, rfl⟩) (by assumption) ?_
    (try simp only [List.getElem_toArray, List.getElem_cons_zero, List.getElem_cons_succ]); (try simp only [Act.put]); (try simp only [List.setIfInBounds_toArray]); (try simp only [List.set_cons_succ]); (try simp only [List.set_cons_zero])
    refine wpAnyH_take (i := 13) (v := undef) rfl (by kernel_rfl) (by kernel_rfl) (by kernel_rfl) (fun _ _ _ h => h) (Or.inr ⟨by kernel_rfl, rfl⟩) (by assumption) ?_
    (try simp only [List.getElem_toArray, List.getElem_cons_zero, List.getElem_cons_succ]); (try simp only [Act.put]); (try simp only [List.setIfInBounds_toArray]); (try simp only [List.set_cons_succ]); (try simp only [List.set_cons_zero])
    refine wpAnyH_take (i := 14) (v := undef) rfl (by kernel_rfl) (by kernel_rfl) (by kernel_rfl) (fun _ _ _ h => h) (Or.inr ⟨by kernel_rfl, rfl⟩) (by assumption) ?_
    (try simp only [List.getElem_toArray, List.getElem_cons_zero, List.getElem_cons_succ]); (try simp only [Act.put]); (try simp only [List.setIfInBounds_toArray]); (try simp only [List.set_cons_succ]); (try simp only [List.set_cons_zero])
    refine wpAnyH_take (i := 15) (v := undef) rfl (by kernel_rfl) (by kernel_rfl) (by kernel_rfl) (fun _ _ _ h => h) (Or.inr ⟨by kernel_rfl, rfl⟩) (by assumption) ?_
    (try simp only [List.getElem_toArray, List.getElem_cons_zero, List.getElem_cons_succ]); (try simp only [Act.put]); (try simp only [List.setIfInBounds_toArray]); (try simp only [List.set_cons_succ]); (try simp only [List.set_cons_zero])
    refine wpAnyH_take (i := 16) (v := undef) rfl (by kernel_rfl) (by kernel_rfl) (by kernel_rfl) (fun _ _ _ h => h) (Or.inr ⟨by kernel_rfl, rfl⟩) (by assumption) ?_
    (try simp only [List.getElem_toArray, List.getElem_cons_zero, List.getElem_cons_succ]); (try simp only [Act.put]); (try simp only [List.setIfInBounds_toArray]); (try simp only [List.set_cons_succ]); (try simp only [List.set_cons_zero])
    refine wpAnyH_take (i := 17) (v := ?av17) rfl (by kernel_rfl) (by kernel_rfl) (by kernel_rfl) (fun _ _ _ h => h) (Or.inl ⟨by kernel_rfl, ?ah17⟩) (by assumption) ?ar17
    case ah17 => ((intro w hSw; (try dsimp only at hSw); go_simp) <;> with_reducible rfl)
    (try simp only [List.getElem_toArray, List.getElem_cons_zero, List.getElem_cons_succ]); (try simp only [Act.put]); (try simp only [List.setIfInBounds_toArray]); (try simp only [List.set_cons_succ]); (try simp only [List.set_cons_zero])
    refine wpAnyH_done (by kernel_rfl) ?_ _
    have x0 := x0
    have z0 := kZ.cell 0
    have z1 := kZ.cell 1
    have f0 := kZ.frozen 0
    have f1 := kZ.frozen 1
    simp only [List.getElem?_cons_zero, List.getElem?_cons_succ] at z0 z1
    clear kZ
    go_wp2_with fail
    refine bodyPost_ret (v := .tuple #[.agg #[.slice none 0 0, .slice none 0 0], .bool false]) (by simp [results, Try.results19, go_sem, z0, z1]) rfl ?_
    rw [E.out.1, E.out.2.1, E.out.2.2]
    refine ⟨none, 0, 0, none, 0, 0, [], [], rfl, own_none2 _, own_none _, List.nodup_nil, by simp, ?_⟩
    exact (B2.setCell (by show w.heap.size ≤ w.heap.size + 1; omega) _).setCell (by show w.heap.size ≤ w.heap.size + 1; omega) _
  · have ok := sysOk_of hz
    cases hi : inB (n3 : Int) 1 500
    · have E : Hid (F = [] ∧ G = [] ∧ N = false) := Lib.hid (NO.out (by
        have : (decide (1 ≤ L.length) && decide (L.length ≤ 500)) = false := by
          rw [← hi, L3]; unfold inB; congr 1 <;> rw [decide_eq_decide] <;> omega
        unfold ofB; rw [this]; simp))
      have HZ := Lib.hid hz; have HI := Lib.hid hi; clear hz hi hF hG hN NO ok
      unfold repW at SV x0 x1
      go_enter Try.func19, Try.ntmps19
      go_wp2
      refine wp_region_held_drew (S := (fun w' => w'.cell? ⟨w.heap.size, 0, none⟩ = some (.slice A1 n1 c1) ∧ w'.cell? ⟨w.heap.size, 1, none⟩ = some (.slice A2 n2 c2))) (by kernel_rfl) ?_ (fun hHeld => ?_)
      · (try dsimp only); exact ⟨x0, x1⟩
      refine wpAnyH_take (i := 0) (v := ?bv0) rfl (by kernel_rfl) (by kernel_rfl) (by kernel_rfl) (fun _ _ _ h => h) (Or.inl ⟨by kernel_rfl, ?bh0⟩) (by assumption) ?br0
      case bh0 => ((intro w hSw; (try dsimp only at hSw); go_simp) <;> with_reducible rfl)
      (try simp only [List.getElem_toArray, List.getElem_cons_zero]); (try simp only [Act.put]); (try simp only [List.setIfInBounds_toArray]); (try simp only [List.set_cons_succ]); (try simp only [List.set_cons_zero])
      refine wpAnyH_ready (rs := [1]) (by kernel_rfl) (by simp) ?_
      refine AllReadyH.cons (o := _) rfl (fun K hK => ?_) AllReadyH.nil
      go_simp
      refine (SV.out).mono ?_
      rintro e w2 ⟨rfl, b2⟩
      rw [HZ.out]
      have b2 := rep_b (w := w) (v1 := .slice A1 n1 c1) (v2 := .slice A2 n2 c2) (show Below (repW w (.slice A1 n1 c1) (.slice A2 n2 c2)).heap.size (repW w (.slice A1 n1 c1) (.slice A2 n2 c2)) w2 from ⟨b2.os, b2.tape, b2.output, b2.size, b2.block⟩)
      obtain ⟨B2, ⟨x0, x1⟩, kZ, lx⟩ := BX.out _ b2
      refine hK.out _ _ ?_ (fun hHeld => ?_)
      · (try dsimp only); exact ⟨x0, x1⟩
      clear hK K
      (try simp only [List.getElem_toArray, List.getElem_cons_zero, List.getElem_cons_succ]); (try simp only [Act.put]); (try simp only [List.setIfInBounds_toArray]); (try simp only [List.set_cons_succ]); (try simp only [List.set_cons_zero])
      refine wpAnyH_take (i := 2) (v := ?bv2) rfl (by kernel_rfl) (by kernel_rfl) (by kernel_rfl) (fun _ _ _ h => h) (Or.inl ⟨by kernel_rfl, ?bh2⟩) (by assumption) ?br2
      case bh2 => ((intro w hSw; (try dsimp only at hSw); go_simp) <;> with_reducible rfl)
      (try simp only [List.getElem_toArray, List.getElem_cons_zero, List.getElem_cons_succ]); (try simp only [Act.put]); (try simp only [List.setIfInBounds_toArray]); (try simp only [List.set_cons_succ]); (try simp only [List.set_cons_zero])
      refine wpAnyH_take (i := 3) (v := ?bv3) rfl (by kernel_rfl) (by kernel_rfl) (by kernel_rfl) (fun _ _ _ h => h) (Or.inl ⟨by kernel_rfl, ?bh3⟩) (by assumption) ?br3
      case bh3 => ((intro w hSw; (try dsimp only at hSw); go_simp) <;> with_reducible rfl)
      (try simp only [List.getElem_toArray, List.getElem_cons_zero, List.getElem_cons_succ]); (try simp only [Act.put]); (try simp only [List.setIfInBounds_toArray]); (try simp only [List.set_cons_succ]); (try simp only [List.set_cons_zero])
      refine wpAnyH_take (i := 4) (v := ?bv4) rfl (by kernel_rfl) (by kernel_rfl) (by kernel_rfl) (fun _ _ _ h => h) (Or.inl ⟨by kernel_rfl, ?bh4⟩) (by assumption) ?br4
      case bh4 => ((intro w hSw; (try dsimp only at hSw); go_simp) <;> with_reducible rfl)
      (try simp only [List.getElem_toArray, List.getElem_cons_zero, List.getElem_cons_succ]); (try simp only [Act.put]); (try simp only [List.setIfInBounds_toArray]); (try simp only [List.set_cons_succ]); (try simp only [List.set_cons_zero])
      refine wpAnyH_take (i := 5) (v := ?bv5) rfl (by kernel_rfl) (by kernel_rfl) (by kernel_rfl) (fun _ _ _ h => h) (Or.inl ⟨by kernel_rfl, ?bh5⟩) (by assumption) ?br5
      case bh5 => ((intro w hSw; (try dsimp only at hSw); go_simp) <;> with_reducible rfl)
      (try simp only [List.getElem_toArray, List.getElem_cons_zero, List.getElem_cons_succ]); (try simp only [Act.put]); (try simp only [List.setIfInBounds_toArray]); (try simp only [List.set_cons_succ]); (try simp only [List.set_cons_zero])
      refine wpAnyH_ready (rs := [6]) (by kernel_rfl) (by simp) ?_
      refine AllReadyH.cons (o := _) rfl (fun K hK => ?_) AllReadyH.nil
      go_simp
      refine (l1In_any _ _ _ _).mono ?_
      rintro e w3 ⟨rfl, rfl⟩
      rw [HI.out]
      refine hK.out _ _ ?_ (fun hHeld => ?_)
      · (try dsimp only); exact ⟨x0, x1⟩
      clear hK K
      (try simp only [List.getElem_toArray, List.getElem_cons_zero, List.getElem_cons_succ]); (try simp only [Act.put]); (try simp only [List.setIfInBounds_toArray]); (try simp only [List.set_cons_succ]); (try simp only [List.set_cons_zero])
      refine wpAnyH_take (i := 7) (v := ?bv7) rfl (by kernel_rfl) (by kernel_rfl) (by kernel_rfl) (fun _ _ _ h => h) (Or.inl ⟨by kernel_rfl, ?bh7⟩) (by assumption) ?br7
      case bh7 => ((intro w hSw; (try dsimp only at hSw); go_simp) <;> with_reducible rfl)
      (try simp only [List.getElem_toArray, List.getElem_cons_zero, List.getElem_cons_succ]); (try simp only [Act.put]); (try simp only [List.setIfInBounds_toArray]); (try simp only [List.set_cons_succ]); (try simp only [List.set_cons_zero])
      refine wpAnyH_take (i := 8) (v := ?bv8) rfl (by kernel_rfl) (by kernel_rfl) (by kernel_rfl) (fun _ _ _ h => h) (Or.inl ⟨by kernel_rfl, ?bh8⟩) (by assumption) ?br8
      case bh8 => ((intro w hSw; (try dsimp only at hSw); go_simp) <;> with_reducible rfl)
      (try simp only [List.getElem_toArray, List.getElem_cons_zero, List.getElem_cons_succ]); (try simp only [Act.put]); (try simp only [List.setIfInBounds_toArray]); (try simp only [List.set_cons_succ]); (try simp only [List.set_cons_zero])
      refine wpAnyH_take (i := 9) (v := ?bv9) rfl (by kernel_rfl) (by kernel_rfl) (by kernel_rfl) (fun _ _ _ h => h) (Or.inl ⟨by kernel_rfl, ?bh9⟩) (by assumption) ?br9
      case bh9 => ((intro w hSw; (try dsimp only at hSw); go_simp) <;> with_reducible rfl)
      (try simp only [List.getElem_toArray, List.getElem_cons_zero, List.getElem_cons_succ]); (try simp only [Act.put]); (try simp only [List.setIfInBounds_toArray]); (try simp only [List.set_cons_succ]); (try simp only [List.set_cons_zero])
      refine wpAnyH_take (i := 10) (v := undef) rfl (by kernel_rfl) (by kernel_rfl) (by kernel_rfl) (fun _ _ _ h => h) (Or.inr ⟨by kernel_rfl, rfl⟩) (by assumption) ?_
      (try simp only [List.getElem_toArray, List.getElem_cons_zero, List.getElem_cons_succ]); (try simp only [Act.put]); (try simp only [List.setIfInBounds_toArray]); (try simp only [List.set_cons_succ]); (try simp only [List.set_cons_zero])
      refine wpAnyH_take (i := 11) (v := undef) rfl (by kernel_rfl) (by kernel_rfl) (by kernel_rfl) (fun _ _ _ h => h) (Or.inr ⟨by kernel_rfl, rfl⟩) (by assumption) ?_
      (try simp only [List.getElem_toArray, List.getElem_cons_zero, List.getElem_cons_succ]); (try simp only [Act.put]); (try simp only [List.setIfInBounds_toArray]); (try simp only [List.set_cons_succ]); (try simp only [List.set_cons_zero])
      refine wpAnyH_take (i := 12) (v := undef) rfl (by kernel_rfl) (by kernel_rfl) (by kernel_rfl) (fun _ _ _ h => h) (Or.inr ⟨by kernel_rfl, rfl⟩) (by assumption) ?_
      (try simp only [List.getElem_toArray, List.getElem_cons_zero, List.getElem_cons_succ]); (try simp only [Act.put]); (try simp only [List.setIfInBounds_toArray]); (try simp only [List.set_cons_succ]); (try simp only [List.set_cons_zero])
      refine wpAnyH_take (i := 13) (v := undef) rfl (by kernel_rfl) (by kernel_rfl) (by kernel_rfl) (fun _ _ _ h => h) (Or.inr ⟨by kernel_rfl, rfl⟩) (by assumption) ?_
      (try simp only [List.getElem_toArray, List.getElem_cons_zero, List.getElem_cons_succ]); (try simp only [Act.put]); (try simp only [List.setIfInBounds_toArray]); (try simp only [List.set_cons_succ]); (try simp only [List.set_cons_zero])
      refine wpAnyH_take (i := 14) (v := undef) rfl (by kernel_rfl) (by kernel_rfl) (by kernel_rfl) (fun _ _ _ h => h) (Or.inr ⟨by kernel_rfl, rfl⟩) (by assumption) ?_
      (try simp only [List.getElem_toArray, List.getElem_cons_zero, List.getElem_cons_succ]); (try simp only [Act.put]); (try simp only [List.setIfInBounds_toArray]); (try simp only [List.set_cons_succ]); (try simp only [List.set_cons_zero])
      refine wpAnyH_take (i := 15) (v := undef) rfl (by kernel_rfl) (by kernel_rfl) (by kernel_rfl) (fun _ _ _ h => h) (Or.inr ⟨by kernel_rfl, rfl⟩) (by assumption) ?_
      (try simp only [List.getElem_toArray, List.getElem_cons_zero, List.getElem_cons_succ]); (try simp only [Act.put]); (try simp only [List.setIfInBounds_toArray]); (try simp only [List.set_cons_succ]); (try simp only [List.set_cons_zero])
      refine wpAnyH_take (i := 16) (v := undef) rfl (by kernel_rfl) (by kernel_rfl) (by kernel_rfl) (fun _ _ _ h => h) (Or.inr ⟨by kernel_rfl, rfl⟩) (by assumption) ?_
      (try simp only [List.getElem_toArray, List.getElem_cons_zero, List.getElem_cons_succ]); (try simp only [Act.put]); (try simp only [List.setIfInBounds_toArray]); (try simp only [List.set_cons_succ]); (try simp only [List.set_cons_zero])
      refine wpAnyH_take (i := 17) (v := ?bv17) rfl (by kernel_rfl) (by kernel_rfl) (by kernel_rfl) (fun _ _ _ h => h) (Or.inl ⟨by kernel_rfl, ?bh17⟩) (by assumption) ?br17
      case bh17 => ((intro w hSw; (try dsimp only at hSw); go_simp) <;> with_reducible rfl)
      (try simp only [List.getElem_toArray, List.getElem_cons_zero, List.getElem_cons_succ]); (try simp only [Act.put]); (try simp only [List.setIfInBounds_toArray]); (try simp only [List.set_cons_succ]); (try simp only [List.set_cons_zero])
      refine wpAnyH_done (by kernel_rfl) ?_ _
      have z0 := kZ.cell 0
      have z1 := kZ.cell 1
      have f0 := kZ.frozen 0
      have f1 := kZ.frozen 1
      simp only [List.getElem?_cons_zero, List.getElem?_cons_succ] at z0 z1
      clear kZ
      go_wp2_with fail
      refine bodyPost_ret (v := .tuple #[.agg #[.slice none 0 0, .slice none 0 0], .bool false]) (by simp [results, Try.results19, go_sem, z0, z1]) rfl ?_
      rw [E.out.1, E.out.2.1, E.out.2.2]
      refine ⟨none, 0, 0, none, 0, 0, [], [], rfl, own_none2 _, own_none _, List.nodup_nil, by simp, ?_⟩
      exact (B2.setCell (by show w.heap.size ≤ w.heap.size + 1; omega) _).setCell (by show w.heap.size ≤ w.heap.size + 1; omega) _
    · have hn : 1 ≤ n3 ∧ n3 ≤ 500 := by unfold inB at hi; simp at hi; omega
      have hn0 : 0 < n3 := by omega
      have hn0i : (0 : Int) < n3 := by omega
      obtain ⟨ad, A4, n4, c4, rfl, hbl, ec, hrd⟩ := ll_at h3 (k := 0) (by omega)
      rw [add_zero'] at ec
      have FC := Lib.hid (fun W (B : Below w.heap.size w W) => first_spec s A1 n1 c1 A2 n2 c2 W (Mem.rd_on h1 B) (Mem.rd_on h2 B))
      have hFB : firstB s = firsts s.vars := by unfold firstB; rw [hz]; rfl
      rw [hFB] at FC
      obtain ⟨nv, hnv⟩ : ∃ nv, nv = (firsts s.vars).length := ⟨_, rfl⟩
      have HNV := Lib.hid hnv
      have HN5 : Hid (nv ≤ 5) := Lib.hid (by rw [hnv, firsts_len]; exact ok.hi)
      have e0 : (repW w (.slice A1 n1 c1) (.slice A2 n2 c2)).cell? ad = some (.slice A4 n4 c4) := cell_below bW (p := ad) hbl ec
      clear hnv hFB
      cases hd : decide (el L 0 = firsts s.vars)
      · have E : Hid (F = [] ∧ G = [] ∧ N = false) := Lib.hid (NO.out (by unfold ofB; rw [hd]; simp))
        have HZ := Lib.hid hz; have HI := Lib.hid hi; have HD := Lib.hid hd; clear hz hi hd hF hG hN NO ok
        unfold repW at SV x0 x1 e0
        go_enter Try.func19, Try.ntmps19
        go_wp2
        refine wp_region_held_drew (S := (fun w' => w'.cell? ⟨w.heap.size, 0, none⟩ = some (.slice A1 n1 c1) ∧ w'.cell? ⟨w.heap.size, 1, none⟩ = some (.slice A2 n2 c2) ∧ w'.cell? ad = some (.slice A4 n4 c4))) (by kernel_rfl) ?_ (fun hHeld => ?_)
        · (try dsimp only); exact ⟨x0, x1, e0⟩
        refine wpAnyH_take (i := 0) (v := ?cv0) rfl (by kernel_rfl) (by kernel_rfl) (by kernel_rfl) (fun _ _ _ h => h) (Or.inl ⟨by kernel_rfl, ?ch0⟩) (by assumption) ?cr0
        case ch0 => ((intro w hSw; (try dsimp only at hSw); go_simp) <;> with_reducible rfl)
        (try simp only [List.getElem_toArray, List.getElem_cons_zero]); (try simp only [Act.put]); (try simp only [List.setIfInBounds_toArray]); (try simp only [List.set_cons_succ]); (try simp only [List.set_cons_zero])
        refine wpAnyH_ready (rs := [1]) (by kernel_rfl) (by simp) ?_
        refine AllReadyH.cons (o := _) rfl (fun K hK => ?_) AllReadyH.nil
        go_simp
        refine (SV.out).mono ?_
        rintro e w2 ⟨rfl, b2⟩
        rw [HZ.out]
        have b2 := rep_b (w := w) (v1 := .slice A1 n1 c1) (v2 := .slice A2 n2 c2) (show Below (repW w (.slice A1 n1 c1) (.slice A2 n2 c2)).heap.size (repW w (.slice A1 n1 c1) (.slice A2 n2 c2)) w2 from ⟨b2.os, b2.tape, b2.output, b2.size, b2.block⟩)
        obtain ⟨B2, ⟨x0, x1⟩, kZ, lx⟩ := BX.out _ b2
        have e0 := cell_below B2 (p := ad) hbl ec
        refine hK.out _ _ ?_ (fun hHeld => ?_)
        · (try dsimp only); exact ⟨x0, x1, e0⟩
        clear hK K
        (try simp only [List.getElem_toArray, List.getElem_cons_zero, List.getElem_cons_succ]); (try simp only [Act.put]); (try simp only [List.setIfInBounds_toArray]); (try simp only [List.set_cons_succ]); (try simp only [List.set_cons_zero])
        refine wpAnyH_take (i := 2) (v := ?cv2) rfl (by kernel_rfl) (by kernel_rfl) (by kernel_rfl) (fun _ _ _ h => h) (Or.inl ⟨by kernel_rfl, ?ch2⟩) (by assumption) ?cr2
        case ch2 => ((intro w hSw; (try dsimp only at hSw); go_simp) <;> with_reducible rfl)
        (try simp only [List.getElem_toArray, List.getElem_cons_zero, List.getElem_cons_succ]); (try simp only [Act.put]); (try simp only [List.setIfInBounds_toArray]); (try simp only [List.set_cons_succ]); (try simp only [List.set_cons_zero])
        refine wpAnyH_take (i := 3) (v := ?cv3) rfl (by kernel_rfl) (by kernel_rfl) (by kernel_rfl) (fun _ _ _ h => h) (Or.inl ⟨by kernel_rfl, ?ch3⟩) (by assumption) ?cr3
        case ch3 => ((intro w hSw; (try dsimp only at hSw); go_simp) <;> with_reducible rfl)
        (try simp only [List.getElem_toArray, List.getElem_cons_zero, List.getElem_cons_succ]); (try simp only [Act.put]); (try simp only [List.setIfInBounds_toArray]); (try simp only [List.set_cons_succ]); (try simp only [List.set_cons_zero])
        refine wpAnyH_take (i := 4) (v := ?cv4) rfl (by kernel_rfl) (by kernel_rfl) (by kernel_rfl) (fun _ _ _ h => h) (Or.inl ⟨by kernel_rfl, ?ch4⟩) (by assumption) ?cr4
        case ch4 => ((intro w hSw; (try dsimp only at hSw); go_simp) <;> with_reducible rfl)
        (try simp only [List.getElem_toArray, List.getElem_cons_zero, List.getElem_cons_succ]); (try simp only [Act.put]); (try simp only [List.setIfInBounds_toArray]); (try simp only [List.set_cons_succ]); (try simp only [List.set_cons_zero])
        refine wpAnyH_take (i := 5) (v := ?cv5) rfl (by kernel_rfl) (by kernel_rfl) (by kernel_rfl) (fun _ _ _ h => h) (Or.inl ⟨by kernel_rfl, ?ch5⟩) (by assumption) ?cr5
        case ch5 => ((intro w hSw; (try dsimp only at hSw); go_simp) <;> with_reducible rfl)
        (try simp only [List.getElem_toArray, List.getElem_cons_zero, List.getElem_cons_succ]); (try simp only [Act.put]); (try simp only [List.setIfInBounds_toArray]); (try simp only [List.set_cons_succ]); (try simp only [List.set_cons_zero])
        refine wpAnyH_ready (rs := [6]) (by kernel_rfl) (by simp) ?_
        refine AllReadyH.cons (o := _) rfl (fun K hK => ?_) AllReadyH.nil
        go_simp
        refine (l1In_any _ _ _ _).mono ?_
        rintro e w3 ⟨rfl, rfl⟩
        rw [HI.out]
        have FK := Lib.hid (FC.out w2 B2)
        refine hK.out _ _ ?_ (fun hHeld => ?_)
        · (try dsimp only); exact ⟨x0, x1, e0⟩
        clear hK K
        (try simp only [List.getElem_toArray, List.getElem_cons_zero, List.getElem_cons_succ]); (try simp only [Act.put]); (try simp only [List.setIfInBounds_toArray]); (try simp only [List.set_cons_succ]); (try simp only [List.set_cons_zero])
        refine wpAnyH_take (i := 7) (v := ?cv7) rfl (by kernel_rfl) (by kernel_rfl) (by kernel_rfl) (fun _ _ _ h => h) (Or.inl ⟨by kernel_rfl, ?ch7⟩) (by assumption) ?cr7
        case ch7 => ((intro w hSw; (try dsimp only at hSw); go_simp) <;> with_reducible rfl)
        (try simp only [List.getElem_toArray, List.getElem_cons_zero, List.getElem_cons_succ]); (try simp only [Act.put]); (try simp only [List.setIfInBounds_toArray]); (try simp only [List.set_cons_succ]); (try simp only [List.set_cons_zero])
        refine wpAnyH_take (i := 8) (v := ?cv8) rfl (by kernel_rfl) (by kernel_rfl) (by kernel_rfl) (fun _ _ _ h => h) (Or.inl ⟨by kernel_rfl, ?ch8⟩) (by assumption) ?cr8
        case ch8 => ((intro w hSw; (try dsimp only at hSw); go_simp) <;> with_reducible rfl)
        (try simp only [List.getElem_toArray, List.getElem_cons_zero, List.getElem_cons_succ]); (try simp only [Act.put]); (try simp only [List.setIfInBounds_toArray]); (try simp only [List.set_cons_succ]); (try simp only [List.set_cons_zero])
        refine wpAnyH_take (i := 9) (v := ?cv9) rfl (by kernel_rfl) (by kernel_rfl) (by kernel_rfl) (fun _ _ _ h => h) (Or.inl ⟨by kernel_rfl, ?ch9⟩) (by assumption) ?cr9
        case ch9 => ((intro w hSw; (try dsimp only at hSw); go_simp) <;> with_reducible rfl)
        (try simp only [List.getElem_toArray, List.getElem_cons_zero, List.getElem_cons_succ]); (try simp only [Act.put]); (try simp only [List.setIfInBounds_toArray]); (try simp only [List.set_cons_succ]); (try simp only [List.set_cons_zero])
        refine wpAnyH_take (i := 10) (v := ?cv10) rfl (by kernel_rfl) (by kernel_rfl) (by kernel_rfl) (fun _ _ _ h => h) (Or.inl ⟨by kernel_rfl, ?ch10⟩) (by assumption) ?cr10
        case ch10 => ((intro w hSw; (try dsimp only at hSw); go_simp) <;> with_reducible rfl)
        (try simp only [List.getElem_toArray, List.getElem_cons_zero, List.getElem_cons_succ]); (try simp only [Act.put]); (try simp only [List.setIfInBounds_toArray]); (try simp only [List.set_cons_succ]); (try simp only [List.set_cons_zero])
        refine wpAnyH_take (i := 11) (v := ?cv11) rfl (by kernel_rfl) (by kernel_rfl) (by kernel_rfl) (fun _ _ _ h => h) (Or.inl ⟨by kernel_rfl, ?ch11⟩) (by assumption) ?cr11
        case ch11 => ((intro w hSw; (try dsimp only at hSw); go_simp) <;> with_reducible rfl)
        (try simp only [List.getElem_toArray, List.getElem_cons_zero, List.getElem_cons_succ]); (try simp only [Act.put]); (try simp only [List.setIfInBounds_toArray]); (try simp only [List.set_cons_succ]); (try simp only [List.set_cons_zero])
        refine wpAnyH_take (i := 12) (v := ?cv12) rfl (by kernel_rfl) (by kernel_rfl) (by kernel_rfl) (fun _ _ _ h => h) (Or.inl ⟨by kernel_rfl, ?ch12⟩) (by assumption) ?cr12
        case ch12 => ((intro w hSw; (try dsimp only at hSw); go_simp) <;> with_reducible rfl)
        (try simp only [List.getElem_toArray, List.getElem_cons_zero, List.getElem_cons_succ]); (try simp only [Act.put]); (try simp only [List.setIfInBounds_toArray]); (try simp only [List.set_cons_succ]); (try simp only [List.set_cons_zero])
        refine wpAnyH_take (i := 13) (v := ?cv13) rfl (by kernel_rfl) (by kernel_rfl) (by kernel_rfl) (fun _ _ _ h => h) (Or.inl ⟨by kernel_rfl, ?ch13⟩) (by assumption) ?cr13
        case ch13 => ((intro w hSw; (try dsimp only at hSw); go_simp) <;> with_reducible rfl)
        (try simp only [List.getElem_toArray, List.getElem_cons_zero, List.getElem_cons_succ]); (try simp only [Act.put]); (try simp only [List.setIfInBounds_toArray]); (try simp only [List.set_cons_succ]); (try simp only [List.set_cons_zero])
        refine wpAnyH_ready (rs := [14]) (by kernel_rfl) (by simp) ?_
        refine AllReadyH.cons (o := _) rfl (fun K hK => ?_) AllReadyH.nil
        go_simp
        refine (FK.out).mono ?_
        rintro e w4 ⟨v4, rfl, o4, b4⟩
        rw [← HNV.out] at o4
        obtain ⟨A5, c5, rfl, _, _⟩ := own_form o4
        obtain ⟨f5, om5, _, _⟩ := mem_ints (l := firsts s.vars) (by rw [← HNV.out]; exact o4) (by rw [← HNV.out]; have := HN5.out; unfold maxLen; omega)
        rw [← HNV.out] at om5
        have r5 := rd_ints.1 (Mem.own_rd om5)
        have b4 := b2.trans (b4.mono lx)
        obtain ⟨B4, ⟨x0, x1⟩, kZ, lx⟩ := BX.out _ b4
        have e0 := cell_below B4 (p := ad) hbl ec
        have R4 := rd_ints.1 (Mem.rd_on hrd B4)
        have MK := Lib.hid (l2Same_any A4 n4 c4 A5 nv c5 (el L 0) (firsts s.vars) w4 R4.2 r5.2 R4.1 r5.1)
        refine hK.out _ _ ?_ (fun hHeld => ?_)
        · (try dsimp only); exact ⟨x0, x1, e0⟩
        clear hK K
        (try simp only [List.getElem_toArray, List.getElem_cons_zero, List.getElem_cons_succ]); (try simp only [Act.put]); (try simp only [List.setIfInBounds_toArray]); (try simp only [List.set_cons_succ]); (try simp only [List.set_cons_zero])
        refine wpAnyH_ready (rs := [15]) (by kernel_rfl) (by simp) ?_
        refine AllReadyH.cons (o := _) rfl (fun K hK => ?_) AllReadyH.nil
        go_simp
        refine (MK.out).mono ?_
        rintro e w5 ⟨rfl, b5⟩
        rw [HD.out]
        have b5 := b4.trans (b5.mono lx)
        obtain ⟨B5, ⟨x0, x1⟩, kZ, lx⟩ := BX.out _ b5
        have e0 := cell_below B5 (p := ad) hbl ec
        refine hK.out _ _ ?_ (fun hHeld => ?_)
        · (try dsimp only); exact ⟨x0, x1, e0⟩
        clear hK K
        (try simp only [List.getElem_toArray, List.getElem_cons_zero, List.getElem_cons_succ]); (try simp only [Act.put]); (try simp only [List.setIfInBounds_toArray]); (try simp only [List.set_cons_succ]); (try simp only [List.set_cons_zero])
        refine wpAnyH_take (i := 16) (v := ?cv16) rfl (by kernel_rfl) (by kernel_rfl) (by kernel_rfl) (fun _ _ _ h => h) (Or.inl ⟨by kernel_rfl, ?ch16⟩) (by assumption) ?cr16
        case ch16 => ((intro w hSw; (try dsimp only at hSw); go_simp) <;> with_reducible rfl)
        (try simp only [List.getElem_toArray, List.getElem_cons_zero, List.getElem_cons_succ]); (try simp only [Act.put]); (try simp only [List.setIfInBounds_toArray]); (try simp only [List.set_cons_succ]); (try simp only [List.set_cons_zero])
        refine wpAnyH_take (i := 17) (v := ?cv17) rfl (by kernel_rfl) (by kernel_rfl) (by kernel_rfl) (fun _ _ _ h => h) (Or.inl ⟨by kernel_rfl, ?ch17⟩) (by assumption) ?cr17
        case ch17 => ((intro w hSw; (try dsimp only at hSw); go_simp) <;> with_reducible rfl)
        (try simp only [List.getElem_toArray, List.getElem_cons_zero, List.getElem_cons_succ]); (try simp only [Act.put]); (try simp only [List.setIfInBounds_toArray]); (try simp only [List.set_cons_succ]); (try simp only [List.set_cons_zero])
        refine wpAnyH_done (by kernel_rfl) ?_ _
        have z0 := kZ.cell 0
        have z1 := kZ.cell 1
        have f0 := kZ.frozen 0
        have f1 := kZ.frozen 1
        simp only [List.getElem?_cons_zero, List.getElem?_cons_succ] at z0 z1
        clear kZ
        go_wp2_with fail
        refine bodyPost_ret (v := .tuple #[.agg #[.slice none 0 0, .slice none 0 0], .bool false]) (by simp [results, Try.results19, go_sem, z0, z1]) rfl ?_
        rw [E.out.1, E.out.2.1, E.out.2.2]
        refine ⟨none, 0, 0, none, 0, 0, [], [], rfl, own_none2 _, own_none _, List.nodup_nil, by simp, ?_⟩
        exact (B5.setCell (by show w.heap.size ≤ w.heap.size + 1; omega) _).setCell (by show w.heap.size ≤ w.heap.size + 1; omega) _
      · have he0 : el L 0 = firsts s.vars := of_decide_eq_true hd
        have HZ := Lib.hid hz; have HI := Lib.hid hi; have HD := Lib.hid hd
        clear hi hd
        unfold repW at SV x0 x1 e0
        go_enter Try.func19, Try.ntmps19
        go_wp2
        refine wp_region_held_drew (S := (fun w' => w'.cell? ⟨w.heap.size, 0, none⟩ = some (.slice A1 n1 c1) ∧ w'.cell? ⟨w.heap.size, 1, none⟩ = some (.slice A2 n2 c2) ∧ w'.cell? ad = some (.slice A4 n4 c4))) (by kernel_rfl) ?_ (fun hHeld => ?_)
        · (try dsimp only); exact ⟨x0, x1, e0⟩
        refine wpAnyH_take (i := 0) (v := ?dv0) rfl (by kernel_rfl) (by kernel_rfl) (by kernel_rfl) (fun _ _ _ h => h) (Or.inl ⟨by kernel_rfl, ?dh0⟩) (by assumption) ?dr0
        case dh0 => ((intro w hSw; (try dsimp only at hSw); go_simp) <;> with_reducible rfl)
        (try simp only [List.getElem_toArray, List.getElem_cons_zero]); (try simp only [Act.put]); (try simp only [List.setIfInBounds_toArray]); (try simp only [List.set_cons_succ]); (try simp only [List.set_cons_zero])
        refine wpAnyH_ready (rs := [1]) (by kernel_rfl) (by simp) ?_
        refine AllReadyH.cons (o := _) rfl (fun K hK => ?_) AllReadyH.nil
        go_simp
        refine (SV.out).mono ?_
        rintro e w2 ⟨rfl, b2⟩
        rw [HZ.out]
        have b2 := rep_b (w := w) (v1 := .slice A1 n1 c1) (v2 := .slice A2 n2 c2) (show Below (repW w (.slice A1 n1 c1) (.slice A2 n2 c2)).heap.size (repW w (.slice A1 n1 c1) (.slice A2 n2 c2)) w2 from ⟨b2.os, b2.tape, b2.output, b2.size, b2.block⟩)
        obtain ⟨B2, ⟨x0, x1⟩, kZ, lx⟩ := BX.out _ b2
        have e0 := cell_below B2 (p := ad) hbl ec
        refine hK.out _ _ ?_ (fun hHeld => ?_)
        · (try dsimp only); exact ⟨x0, x1, e0⟩
        clear hK K
        (try simp only [List.getElem_toArray, List.getElem_cons_zero, List.getElem_cons_succ]); (try simp only [Act.put]); (try simp only [List.setIfInBounds_toArray]); (try simp only [List.set_cons_succ]); (try simp only [List.set_cons_zero])
        refine wpAnyH_take (i := 2) (v := ?dv2) rfl (by kernel_rfl) (by kernel_rfl) (by kernel_rfl) (fun _ _ _ h => h) (Or.inl ⟨by kernel_rfl, ?dh2⟩) (by assumption) ?dr2
        case dh2 => ((intro w hSw; (try dsimp only at hSw); go_simp) <;> with_reducible rfl)
        (try simp only [List.getElem_toArray, List.getElem_cons_zero, List.getElem_cons_succ]); (try simp only [Act.put]); (try simp only [List.setIfInBounds_toArray]); (try simp only [List.set_cons_succ]); (try simp only [List.set_cons_zero])
        refine wpAnyH_take (i := 3) (v := ?dv3) rfl (by kernel_rfl) (by kernel_rfl) (by kernel_rfl) (fun _ _ _ h => h) (Or.inl ⟨by kernel_rfl, ?dh3⟩) (by assumption) ?dr3
        case dh3 => ((intro w hSw; (try dsimp only at hSw); go_simp) <;> with_reducible rfl)
        (try simp only [List.getElem_toArray, List.getElem_cons_zero, List.getElem_cons_succ]); (try simp only [Act.put]); (try simp only [List.setIfInBounds_toArray]); (try simp only [List.set_cons_succ]); (try simp only [List.set_cons_zero])
        refine wpAnyH_take (i := 4) (v := ?dv4) rfl (by kernel_rfl) (by kernel_rfl) (by kernel_rfl) (fun _ _ _ h => h) (Or.inl ⟨by kernel_rfl, ?dh4⟩) (by assumption) ?dr4
        case dh4 => ((intro w hSw; (try dsimp only at hSw); go_simp) <;> with_reducible rfl)
        (try simp only [List.getElem_toArray, List.getElem_cons_zero, List.getElem_cons_succ]); (try simp only [Act.put]); (try simp only [List.setIfInBounds_toArray]); (try simp only [List.set_cons_succ]); (try simp only [List.set_cons_zero])
        refine wpAnyH_take (i := 5) (v := ?dv5) rfl (by kernel_rfl) (by kernel_rfl) (by kernel_rfl) (fun _ _ _ h => h) (Or.inl ⟨by kernel_rfl, ?dh5⟩) (by assumption) ?dr5
        case dh5 => ((intro w hSw; (try dsimp only at hSw); go_simp) <;> with_reducible rfl)
        (try simp only [List.getElem_toArray, List.getElem_cons_zero, List.getElem_cons_succ]); (try simp only [Act.put]); (try simp only [List.setIfInBounds_toArray]); (try simp only [List.set_cons_succ]); (try simp only [List.set_cons_zero])
        refine wpAnyH_ready (rs := [6]) (by kernel_rfl) (by simp) ?_
        refine AllReadyH.cons (o := _) rfl (fun K hK => ?_) AllReadyH.nil
        go_simp
        refine (l1In_any _ _ _ _).mono ?_
        rintro e w3 ⟨rfl, rfl⟩
        rw [HI.out]
        have FK := Lib.hid (FC.out w2 B2)
        refine hK.out _ _ ?_ (fun hHeld => ?_)
        · (try dsimp only); exact ⟨x0, x1, e0⟩
        clear hK K
        (try simp only [List.getElem_toArray, List.getElem_cons_zero, List.getElem_cons_succ]); (try simp only [Act.put]); (try simp only [List.setIfInBounds_toArray]); (try simp only [List.set_cons_succ]); (try simp only [List.set_cons_zero])
        refine wpAnyH_take (i := 7) (v := ?dv7) rfl (by kernel_rfl) (by kernel_rfl) (by kernel_rfl) (fun _ _ _ h => h) (Or.inl ⟨by kernel_rfl, ?dh7⟩) (by assumption) ?dr7
        case dh7 => ((intro w hSw; (try dsimp only at hSw); go_simp) <;> with_reducible rfl)
        (try simp only [List.getElem_toArray, List.getElem_cons_zero, List.getElem_cons_succ]); (try simp only [Act.put]); (try simp only [List.setIfInBounds_toArray]); (try simp only [List.set_cons_succ]); (try simp only [List.set_cons_zero])
        refine wpAnyH_take (i := 8) (v := ?dv8) rfl (by kernel_rfl) (by kernel_rfl) (by kernel_rfl) (fun _ _ _ h => h) (Or.inl ⟨by kernel_rfl, ?dh8⟩) (by assumption) ?dr8
        case dh8 => ((intro w hSw; (try dsimp only at hSw); go_simp) <;> with_reducible rfl)
        (try simp only [List.getElem_toArray, List.getElem_cons_zero, List.getElem_cons_succ]); (try simp only [Act.put]); (try simp only [List.setIfInBounds_toArray]); (try simp only [List.set_cons_succ]); (try simp only [List.set_cons_zero])
        refine wpAnyH_take (i := 9) (v := ?dv9) rfl (by kernel_rfl) (by kernel_rfl) (by kernel_rfl) (fun _ _ _ h => h) (Or.inl ⟨by kernel_rfl, ?dh9⟩) (by assumption) ?dr9
        case dh9 => ((intro w hSw; (try dsimp only at hSw); go_simp) <;> with_reducible rfl)
        (try simp only [List.getElem_toArray, List.getElem_cons_zero, List.getElem_cons_succ]); (try simp only [Act.put]); (try simp only [List.setIfInBounds_toArray]); (try simp only [List.set_cons_succ]); (try simp only [List.set_cons_zero])
        refine wpAnyH_take (i := 10) (v := ?dv10) rfl (by kernel_rfl) (by kernel_rfl) (by kernel_rfl) (fun _ _ _ h => h) (Or.inl ⟨by kernel_rfl, ?dh10⟩) (by assumption) ?dr10
        case dh10 => ((intro w hSw; (try dsimp only at hSw); go_simp) <;> with_reducible rfl)
        (try simp only [List.getElem_toArray, List.getElem_cons_zero, List.getElem_cons_succ]); (try simp only [Act.put]); (try simp only [List.setIfInBounds_toArray]); (try simp only [List.set_cons_succ]); (try simp only [List.set_cons_zero])
        refine wpAnyH_take (i := 11) (v := ?dv11) rfl (by kernel_rfl) (by kernel_rfl) (by kernel_rfl) (fun _ _ _ h => h) (Or.inl ⟨by kernel_rfl, ?dh11⟩) (by assumption) ?dr11
        case dh11 => ((intro w hSw; (try dsimp only at hSw); go_simp) <;> with_reducible rfl)
        (try simp only [List.getElem_toArray, List.getElem_cons_zero, List.getElem_cons_succ]); (try simp only [Act.put]); (try simp only [List.setIfInBounds_toArray]); (try simp only [List.set_cons_succ]); (try simp only [List.set_cons_zero])
        refine wpAnyH_take (i := 12) (v := ?dv12) rfl (by kernel_rfl) (by kernel_rfl) (by kernel_rfl) (fun _ _ _ h => h) (Or.inl ⟨by kernel_rfl, ?dh12⟩) (by assumption) ?dr12
        case dh12 => ((intro w hSw; (try dsimp only at hSw); go_simp) <;> with_reducible rfl)
        (try simp only [List.getElem_toArray, List.getElem_cons_zero, List.getElem_cons_succ]); (try simp only [Act.put]); (try simp only [List.setIfInBounds_toArray]); (try simp only [List.set_cons_succ]); (try simp only [List.set_cons_zero])
        refine wpAnyH_take (i := 13) (v := ?dv13) rfl (by kernel_rfl) (by kernel_rfl) (by kernel_rfl) (fun _ _ _ h => h) (Or.inl ⟨by kernel_rfl, ?dh13⟩) (by assumption) ?dr13
        case dh13 => ((intro w hSw; (try dsimp only at hSw); go_simp) <;> with_reducible rfl)
        (try simp only [List.getElem_toArray, List.getElem_cons_zero, List.getElem_cons_succ]); (try simp only [Act.put]); (try simp only [List.setIfInBounds_toArray]); (try simp only [List.set_cons_succ]); (try simp only [List.set_cons_zero])
        refine wpAnyH_ready (rs := [14]) (by kernel_rfl) (by simp) ?_
        refine AllReadyH.cons (o := _) rfl (fun K hK => ?_) AllReadyH.nil
        go_simp
        refine (FK.out).mono ?_
        rintro e w4 ⟨v4, rfl, o4, b4⟩
        rw [← HNV.out] at o4
        obtain ⟨A5, c5, rfl, _, _⟩ := own_form o4
        obtain ⟨f5, om5, _, _⟩ := mem_ints (l := firsts s.vars) (by rw [← HNV.out]; exact o4) (by rw [← HNV.out]; have := HN5.out; unfold maxLen; omega)
        rw [← HNV.out] at om5
        have r5 := rd_ints.1 (Mem.own_rd om5)
        have b4 := b2.trans (b4.mono lx)
        obtain ⟨B4, ⟨x0, x1⟩, kZ, lx⟩ := BX.out _ b4
        have e0 := cell_below B4 (p := ad) hbl ec
        have R4 := rd_ints.1 (Mem.rd_on hrd B4)
        have MK := Lib.hid (l2Same_any A4 n4 c4 A5 nv c5 (el L 0) (firsts s.vars) w4 R4.2 r5.2 R4.1 r5.1)
        refine hK.out _ _ ?_ (fun hHeld => ?_)
        · (try dsimp only); exact ⟨x0, x1, e0⟩
        clear hK K
        (try simp only [List.getElem_toArray, List.getElem_cons_zero, List.getElem_cons_succ]); (try simp only [Act.put]); (try simp only [List.setIfInBounds_toArray]); (try simp only [List.set_cons_succ]); (try simp only [List.set_cons_zero])
        refine wpAnyH_ready (rs := [15]) (by kernel_rfl) (by simp) ?_
        refine AllReadyH.cons (o := _) rfl (fun K hK => ?_) AllReadyH.nil
        go_simp
        refine (MK.out).mono ?_
        rintro e w5 ⟨rfl, b5⟩
        rw [HD.out]
        have b5 := b4.trans (b5.mono lx)
        obtain ⟨B5, ⟨x0, x1⟩, kZ, lx⟩ := BX.out _ b5
        have e0 := cell_below B5 (p := ad) hbl ec
        refine hK.out _ _ ?_ (fun hHeld => ?_)
        · (try dsimp only); exact ⟨x0, x1, e0⟩
        clear hK K
        (try simp only [List.getElem_toArray, List.getElem_cons_zero, List.getElem_cons_succ]); (try simp only [Act.put]); (try simp only [List.setIfInBounds_toArray]); (try simp only [List.set_cons_succ]); (try simp only [List.set_cons_zero])
        refine wpAnyH_take (i := 16) (v := ?dv16) rfl (by kernel_rfl) (by kernel_rfl) (by kernel_rfl) (fun _ _ _ h => h) (Or.inl ⟨by kernel_rfl, ?dh16⟩) (by assumption) ?dr16
        case dh16 => ((intro w hSw; (try dsimp only at hSw); go_simp) <;> with_reducible rfl)
        (try simp only [List.getElem_toArray, List.getElem_cons_zero, List.getElem_cons_succ]); (try simp only [Act.put]); (try simp only [List.setIfInBounds_toArray]); (try simp only [List.set_cons_succ]); (try simp only [List.set_cons_zero])
        refine wpAnyH_take (i := 17) (v := ?dv17) rfl (by kernel_rfl) (by kernel_rfl) (by kernel_rfl) (fun _ _ _ h => h) (Or.inl ⟨by kernel_rfl, ?dh17⟩) (by assumption) ?dr17
        case dh17 => ((intro w hSw; (try dsimp only at hSw); go_simp) <;> with_reducible rfl)
        (try simp only [List.getElem_toArray, List.getElem_cons_zero, List.getElem_cons_succ]); (try simp only [Act.put]); (try simp only [List.setIfInBounds_toArray]); (try simp only [List.set_cons_succ]); (try simp only [List.set_cons_zero])
        refine wpAnyH_done (by kernel_rfl) ?_ _
        clear kZ
        have hl0 : (el L 0).length = n4 := rd_len hrd
        have n45 : n4 ≤ 5 := by rw [← hl0, he0, firsts_len]; exact ok.hi
        have CC := Lib.hid (l3CopyI_any A4 n4 c4 (el L 0) w5 (Mem.rd_on hrd B5) (by omega))
        have H0 : hasB s.vars (el L 0) = true := by rw [he0]; exact firsts_has ok
        have YES := Lib.hid (fun (h : ofGo s L (n3 - 1) = true) => (⟨hF.trans (by unfold ofS; rw [if_pos (of_yes HZ.out L3 hn he0 h)]), hG.trans (by unfold ofRs; rw [if_pos (of_yes HZ.out L3 hn he0 h), L3]), hN.trans (of_yes HZ.out L3 hn he0 h)⟩ : F = L ∧ G = ofR s L (n3 - 1) ∧ N = true))
        have H0 := Lib.hid H0
        have N5 : Hid (∀ j, hasB s.vars (el L j) = true → (el L j).length ≤ 5) := Lib.hid (fun j h => by rw [has_len h]; exact ok.hi)
        have OK := Lib.hid ok
        have HL3 := Lib.hid L3
        clear hF hG hN he0 ok L3 hz
        go_wp2_with fail
        refine (CC.out).mono ?_
        rintro e w6 ⟨v6, rfl, o6, b6⟩
        rw [hl0] at o6
        obtain ⟨A6, c6, rfl, _, _⟩ := own_form o6
        obtain ⟨f6, om6, nd6, lo6⟩ := mem_ints (l := el L 0) (by rw [hl0]; exact o6) (by rw [hl0]; unfold maxLen; omega)
        rw [hl0] at om6
        have b56 := b5.trans (b6.mono lx)
        obtain ⟨B6, ⟨y0, y1⟩, kZ, lx6⟩ := BX.out _ b56
        have hLL0 := LL.one (base := w.heap.size + 2) (e := 25) om6 nd6 (fun b hb => Nat.le_trans lx (lo6 b hb)) lx6
        have hLL1 := hLL0.below (below_alloc _ (.cells #[.slice (some ⟨w6.heap.size, 0, none⟩) 1 1, .slice none 0 0] 38))
        have hiS := Mem.own_lt om6
        have kB := Blk.new (w6.alloc (.cells #[.slice A6 n4 c6] 25)) #[.slice (some ⟨w6.heap.size, 0, none⟩) 1 1, .slice none 0 0] 38
        rw [World.size_alloc] at kB
        have bQ := (b56.alloc lx6 (.cells #[.slice A6 n4 c6] 25)).alloc (by rw [World.size_alloc]; omega) (.cells #[.slice (some ⟨w6.heap.size, 0, none⟩) 1 1, .slice none 0 0] 38)
        have TK1 : [el L 0] = L.take (0 + 1) := by rw [take_el (by rw [HL3.out]; omega)]; rfl
        rw [TK1] at hLL1
        clear hLL0 o6 x0 x1 e0 kZ y0 y1 TK1 CC
        have HLL1 := Lib.hid hLL1
        go_wp2
        go_loopg [7, 8] (n3 - 1) (fun m i nx wr => ∃ (k : Nat) (vS vR : Value) (fS fR : List Nat), k + m = n3 - 1 ∧ i = .int .i64 ((k + 1 : Nat) : Int) ∧ Hid (ofGo s L k = true ∧ hasB s.vars (el L k) = true) ∧ Hid (LL wr (w.heap.size + 2) 25 vS (k + 1) (L.take (k + 1)) fS) ∧ Hid (IL wr (w.heap.size + 2) 3 vR k (ofR s L k) fR) ∧ Blk wr (w6.heap.size + 1) 38 [vS, vR] ∧
          Hid ((∀ b ∈ fS, b ≠ w6.heap.size + 1 ∧ b ∉ fR) ∧ w6.heap.size + 1 ∉ fR) ∧ Below (w.heap.size + 2) (repW w (.slice A1 n1 c1) (.slice A2 n2 c2)) wr)
        case atStart => exact ⟨0, _, _, w6.heap.size :: f6, [], by omega, rfl, Lib.hid ⟨rfl, H0.out⟩, HLL1, Lib.hid (IL.nil _ _ _), kB, Lib.hid ⟨fun b hb => ⟨by rcases List.mem_cons.1 hb with rfl | hb; omega; have := hiS b hb; omega, by simp⟩, by simp⟩, bQ⟩
        case round =>
          clear hLL1 HLL1 kB bQ
          obtain ⟨k, vS, vR, fS, fR, hk, rfl, RO, HL, HJ, kB, HD, hb⟩ := hrel
          obtain ⟨B, ⟨x0, x1⟩, kZ, lx⟩ := BX.out _ hb
          obtain ⟨AS, cS, rfl⟩ := row_slice HL.out.2.2.choose_spec.choose_spec.1
          obtain ⟨AR, cR, rfl⟩ := row_slice HJ.out.1
          by_cases hlt : k + 1 < n3
          · obtain ⟨q, hq⟩ : ∃ q : Nat, q = k + 1 := ⟨_, rfl⟩
            have HQ := Lib.hid hq
            rw [← hq] at hlt ⊢
            have kn : (q : Int) < n3 := by omega
            have kq : k < n3 := by omega
            have kn' : (k : Int) < n3 := by omega
            have klt : k < n3 := kq
            have wv : IntKind.i64.wrap ((q : Int) - 1) = (k : Int) := by rw [IntWalk.i64_in _ (by omega)]; omega
            obtain ⟨ad7, A7, n7, c7, e7, hbl7, d7, r7⟩ := ll_at (Mem.rd_below h3 B) (k := q) hlt
            injection e7 with e7
            subst e7
            obtain ⟨ad8, A8, n8, c8, e8, hbl8, d8, r8⟩ := ll_at (Mem.rd_below h3 B) (k := k) klt
            injection e8 with e8
            subst e8
            have lw0 : w.heap.size < wr.heap.size := by omega
            have kmq : k + 1 ≤ 500 := by omega
            clear hq
            have lad : ad.block < wr.heap.size := Nat.lt_of_lt_of_le hbl7 B.size
            have Bd : Below w.heap.size w wr.drew := ⟨B.os, B.tape, B.output, B.size, B.block⟩
            have IK := Lib.hid (l2In_any s (el L q) A1 n1 c1 A2 n2 c2 A7 n7 c7 wr.drew (Mem.rd_on h1 Bd) (Mem.rd_drew (Mem.rd_more r7 B.size)))
            have HR7 := Lib.hid (Mem.rd_more r7 B.size)
            have HR8 := Lib.hid (Mem.rd_more r8 B.size)
            have HLT := Lib.hid (⟨lw0, lad⟩ : w.heap.size < wr.heap.size ∧ ad.block < wr.heap.size)
            have HLX := Lib.hid lx
            have lB := Lib.hid kB.lt
            clear r7 r8 Bd lw0 lad kZ
            go_wp2
            go_region_held3 (fun w' => w'.cell? ⟨w.heap.size, 0, none⟩ = some (.slice A1 n1 c1) ∧ w'.cell? ⟨w.heap.size, 1, none⟩ = some (.slice A2 n2 c2) ∧ w'.cell? (ad.add q) = some (.slice A7 n7 c7)) (go_keep)
              ((go_at_call 61; refine (IK.out).mono ?_; rintro e w7 ⟨rfl, b7'⟩
                have b7 : Below wr.heap.size wr w7 := ⟨b7'.os, b7'.tape, b7'.output, b7'.size, b7'.block⟩
                have s0 := cell_below b7 (p := ⟨w.heap.size, 0, none⟩) HLT.out.1 x0
                have s1 := cell_below b7 (p := ⟨w.heap.size, 1, none⟩) HLT.out.1 x1
                have s7 := cell_below b7 (p := ad.add q) (by rw [add_block]; exact HLT.out.2) d7))
            have s8 := cell_below b7 (p := ad.add k) (by rw [add_block]; exact HLT.out.2) d8
            have L7 := Lib.hid (HL.out.below b7)
            have I7 := Lib.hid (HJ.out.below b7)
            have hb7 := hb.trans (b7.mono HLX.out)
            have kB7 := kB.below b7 lB.out
            obtain ⟨B7, _, kZ7, lx7⟩ := BX.out _ hb7
            have R7 := Lib.hid (Mem.rd_on HR7.out b7)
            have R8 := Lib.hid (Mem.rd_on HR8.out b7)
            have l67 : w6.heap.size + 1 < w7.heap.size := kB7.lt
            clear x0 x1 d7 d8 kB hb b7 b7' IK HL HJ HR7 HR8
            cases hh : hasB s.vars (el L q)
            · have E : Hid (F = [] ∧ G = [] ∧ N = false) := Lib.hid (NO.out (of_stop (k := k) (by
                by_cases qq : 0 ≤ btwR s (el L k) (el L (k + 1))
                · have := btw_has qq
                  rw [← HQ.out, hh] at this; cases this
                · omega) (by rw [HL3.out, ← HQ.out]; exact hlt)))
              have z0 := kZ7.cell 0
              have z1 := kZ7.cell 1
              have f0 := kZ7.frozen 0
              have f1 := kZ7.frozen 1
              simp only [List.getElem?_cons_zero, List.getElem?_cons_succ] at z0 z1
              go_wp2_with fail
              refine bodyPost_ret (v := .tuple #[.agg #[.slice none 0 0, .slice none 0 0], .bool false]) (by simp [results, Try.results19, go_sem, z0, z1]) rfl ?_
              rw [E.out.1, E.out.2.1, E.out.2.2]
              refine ⟨none, 0, 0, none, 0, 0, [], [], rfl, own_none2 _, own_none _, List.nodup_nil, by simp, ?_⟩
              exact (B7.setCell (by show w.heap.size ≤ w.heap.size + 1; omega) _).setCell (by show w.heap.size ≤ w.heap.size + 1; omega) _
            · have HH := Lib.hid hh
              have B7d : Below w.heap.size w w7.drew := ⟨B7.os, B7.tape, B7.output, B7.size, B7.block⟩
              have BK := Lib.hid (btw_spec' s (el L k) (el L q) A1 n1 c1 A2 n2 c2 A8 n8 c8 A7 n7 c7 w7.drew (Mem.rd_on h1 B7d) (Mem.rd_on h2 B7d) (Mem.rd_drew R8.out) (Mem.rd_drew R7.out) OK.out RO.out.2)
              obtain ⟨r, hr⟩ : ∃ r, r = firstHit (hitB s (el L k) (el L q)) s.rules.length := ⟨_, rfl⟩
              rw [← hr] at BK
              have HR := Lib.hid (show r = btwR s (el L k) (el L (k + 1)) from by rw [← HQ.out]; exact hr)
              have HLT7 := Lib.hid (⟨by omega, Nat.lt_of_lt_of_le hbl7 B7.size⟩ : w.heap.size < w7.heap.size ∧ ad.block < w7.heap.size)
              have HLX7 := Lib.hid lx7
              have lB7 := Lib.hid kB7.lt
              clear hh hr B7d kZ7
              go_wp2
              go_region_held3 (fun w' => w'.cell? ⟨w.heap.size, 0, none⟩ = some (.slice A1 n1 c1) ∧ w'.cell? ⟨w.heap.size, 1, none⟩ = some (.slice A2 n2 c2) ∧ w'.cell? (ad.add q) = some (.slice A7 n7 c7) ∧ w'.cell? (ad.add k) = some (.slice A8 n8 c8)) (go_keep)
                ((go_at_call 62; refine (BK.out).mono ?_; rintro e w8 ⟨rfl, b8'⟩
                  have b8 : Below w7.heap.size w7 w8 := ⟨b8'.os, b8'.tape, b8'.output, b8'.size, b8'.block⟩
                  have t0 := cell_below b8 (p := ⟨w.heap.size, 0, none⟩) HLT7.out.1 s0
                  have t1 := cell_below b8 (p := ⟨w.heap.size, 1, none⟩) HLT7.out.1 s1
                  have t7 := cell_below b8 (p := ad.add q) (by rw [add_block]; exact HLT7.out.2) s7
                  have t8 := cell_below b8 (p := ad.add k) (by rw [add_block]; exact HLT7.out.2) s8))
              have L8 := Lib.hid (L7.out.below b8)
              have I8 := Lib.hid (I7.out.below b8)
              have hb8 := hb7.trans (b8.mono HLX7.out)
              have kB8 := kB7.below b8 lB7.out
              obtain ⟨B8, _, kZ8, lx8⟩ := BX.out _ hb8
              have R78 := Mem.rd_on R7.out b8
              clear s0 s1 s7 s8 t0 t1 t8 kB7 hb7 b8 b8' BK L7 I7 R7 R8 B7
              by_cases hneg : r < 0
              · have E : Hid (F = [] ∧ G = [] ∧ N = false) := Lib.hid (NO.out (of_stop (by rw [← HR.out]; exact hneg) (by rw [HL3.out, ← HQ.out]; exact hlt)))
                have z0 := kZ8.cell 0
                have z1 := kZ8.cell 1
                have f0 := kZ8.frozen 0
                have f1 := kZ8.frozen 1
                simp only [List.getElem?_cons_zero, List.getElem?_cons_succ] at z0 z1
                go_wp2_with fail
                refine bodyPost_ret (v := .tuple #[.agg #[.slice none 0 0, .slice none 0 0], .bool false]) (by simp [results, Try.results19, go_sem, z0, z1]) rfl ?_
                rw [E.out.1, E.out.2.1, E.out.2.2]
                refine ⟨none, 0, 0, none, 0, 0, [], [], rfl, own_none2 _, own_none _, List.nodup_nil, by simp, ?_⟩
                exact (B8.setCell (by show w.heap.size ≤ w.heap.size + 1; omega) _).setCell (by show w.heap.size ≤ w.heap.size + 1; omega) _
              · have n75 : n7 ≤ 5 := by have := N5.out q HH.out; rw [rd_len R78] at this; exact this
                have CK := Lib.hid (l3CopyI_any A7 n7 c7 (el L q) w8.drew (Mem.rd_drew R78) (by omega))
                have hl7 := Lib.hid (rd_len R78)
                have p0 := kB8.cell 0
                have p1 := kB8.cell 1
                simp only [List.getElem?_cons_zero, List.getElem?_cons_succ] at p0 p1
                have lB8 := kB8.lt
                have nS : w6.heap.size + 1 ∉ fS := fun hm => (HD.out.1 _ hm).1 rfl
                have lx8' := Lib.hid lx8
                have OGN : Hid (ofGo s L (k + 1) = true ∧ hasB s.vars (el L (k + 1)) = true) := Lib.hid ⟨by
                  show (ofGo s L k && decide (0 ≤ btwR s (el L k) (el L (k + 1)))) = true
                  rw [RO.out.1, ← HR.out, decide_eq_true (by omega)]; rfl, by rw [← HQ.out]; exact HH.out⟩
                have RN : Hid (ofR s L (k + 1) = ofR s L k ++ [r]) := Lib.hid (by rw [ofR_succ, HR.out])
                have TN : Hid (L.take (k + 1 + 1) = L.take (k + 1) ++ [el L q]) := Lib.hid (by rw [take_el (by rw [HL3.out, ← HQ.out]; exact hlt), ← HQ.out])
                clear R78 kZ8 HR
                go_wp2
                go_region_law (first
                  | (go_simp; go_at_call 60; refine (CK.out).mono ?_; rintro e w9 ⟨v9, rfl, o9, b9⟩
                     have bd9 : Below w8.heap.size w8 w9 := ⟨b9.os, b9.tape, b9.output, b9.size, b9.block⟩
                     have p09 := cell_below bd9 (p := ⟨w6.heap.size + 1, 0, none⟩) lB8 p0
                     have p09a := fun o => cell_below (below_alloc w9 o) (Nat.lt_of_lt_of_le lB8 bd9.size) p09
                     rw [hl7.out] at o9
                     obtain ⟨A9, c9, rfl, _, _⟩ := own_form o9
                     obtain ⟨fq, om9, nq, loq'⟩ := mem_ints (l := el L q) (by rw [hl7.out]; exact o9) (by rw [hl7.out]; unfold maxLen; omega)
                     rw [hl7.out] at om9
                     have loq : ∀ b ∈ fq, w8.heap.size ≤ b := loq'
                     have OM9 := Lib.hid (fun o => Mem.own_below om9 (below_alloc w9 o))
                     have BW9 := Lib.hid (fun o => bd9.trans ((below_alloc w9 o).mono bd9.size))
                     have sd9 : ∀ o, (w9.alloc o).heap.size = w9.heap.size + 1 := fun o => World.size_alloc _ _)
                  | (refine step_ll rfl _ _ rfl rfl L8.out (BW9.out _) (OM9.out _) nq loq rfl (World.cell?_alloc_at _ _ _ _ rfl) (by omega) lx8'.out ?_; intro A10 c10 w10 f10 l10 on10 in10; have kB10 := Blk.only ((kB8.below bd9 lB8).alloc _) on10 nS; have q100 := kB10.cell 0; have g100 := kB10.frozen 0; simp only [List.getElem?_cons_zero] at q100))
                all_goals
                  have hs9 := bd9.size
                  have I10 := Lib.hid (((I8.out.below bd9).below (below_alloc w9 _)).only on10 fun b hbR hm => (HD.out.1 b hm).2 hbR)
                  have k10 := ((hb8.trans (bd9.mono lx8'.out)).alloc (by have := lx8'.out; omega) _).trans (on10.below (B := w.heap.size + 2) (by rw [sd9]; have := lx8'.out; omega) fun b hb9 => (L8.out.lt b hb9).1)
                  have HD10 := Lib.hid (show ∀ b ∈ f10, b ≠ w6.heap.size + 1 ∧ b ∉ fR from fun b hb9 => by
                    rcases in10 b hb9 with h | h | h
                    · exact HD.out.1 b h
                    · have := loq b h
                      exact ⟨by omega, fun hm => by have := (I8.out.lt b hm).2; omega⟩
                    · rw [sd9] at h
                      exact ⟨by omega, fun hm => by have := (I8.out.lt b hm).2; omega⟩)
                  obtain ⟨wt, hwt⟩ : ∃ wt, wt = w10.setCell ⟨w6.heap.size + 1, 0, none⟩ (.slice A10 (k + 1 + 1) c10) := ⟨_, rfl⟩
                  have on11 : Only [w6.heap.size + 1] w10 wt := by rw [hwt]; exact set_only w10 _ 0 _
                  have kBt : Blk wt (w6.heap.size + 1) 38 [.slice A10 (k + 1 + 1) c10, .slice AR k cR] := by rw [hwt]; exact kB10.set 0 _
                  have Lt := Lib.hid (l10.only on11 fun b hb9 hm => (HD10.out b hb9).1 (by simpa using hm))
                  have It := Lib.hid (I10.out.only on11 fun b hbR hm => HD.out.2 (by simp at hm; rw [← hm]; exact hbR))
                  have kt : Below (w.heap.size + 2) (repW w (.slice A1 n1 c1) (.slice A2 n2 c2)) wt := by rw [hwt]; exact k10.setCell (by show w.heap.size + 2 ≤ w6.heap.size + 1; omega) _
                  first | rw [← hwt] | skip
                  have p1t := kBt.cell 1
                  simp only [List.getElem?_cons_zero, List.getElem?_cons_succ] at p1t
                  have st : w.heap.size + 2 ≤ wt.heap.size := by have := kt.size; rw [repW_size] at this; exact this
                  have Itd := Lib.hid (fun o => IL.below It.out (below_alloc wt o))
                  have lBt := kBt.lt
                  clear hwt on11 kB10 q100 g100 on10 in10 p0 p1 p09 p09a
                  go_wp2_with (first
                    | (at_builtin; refine app_il rfl _ _ rfl rfl (Itd.out _) rfl (World.cell?_alloc_at _ _ _ _ rfl) (by omega) (by rw [World.size_alloc]; omega) ?_; intro v12 w12 f12 l12 on12 in12; obtain ⟨A12, c12, rfl⟩ := row_slice l12.1; have kB12 := Blk.only (kBt.alloc _) on12 HD.out.2; have q121 := kB12.cell 1; have g121 := kB12.frozen 1; simp only [List.getElem?_cons_zero, List.getElem?_cons_succ] at q121))
                  have sdt : ∀ o, (wt.alloc o).heap.size = wt.heap.size + 1 := fun o => World.size_alloc _ _
                  have kB13 := kB12.set 1 (.slice A12 (k + 1) c12)
                  have on13 := set_only w12 (w6.heap.size + 1) 1 (.slice A12 (k + 1) c12)
                  have H12 : ∀ b ∈ f12, b ∈ fR ∨ b = wt.heap.size + 1 := fun b hb' => by
                    rcases in12 b hb' with h | h
                    · exact .inl h
                    · rw [sdt] at h; exact .inr h
                  have nb12 : w6.heap.size + 1 ∉ f12 := fun hm => by
                    rcases H12 _ hm with h | h
                    · exact HD.out.2 h
                    · omega
                  have L13 := Lib.hid (((Lt.out.below (below_alloc wt _)).only on12 fun b hb' => (HD10.out b hb').2).only on13 fun b hb' hm => (HD10.out b hb').1 (by simpa using hm))
                  have I13 := Lib.hid (l12.only on13 fun b hb' hm => nb12 (by simp at hm; rw [← hm]; exact hb'))
                  have k13 : Below (w.heap.size + 2) (repW w (.slice A1 n1 c1) (.slice A2 n2 c2)) (w12.setCell ⟨w6.heap.size + 1, 1, none⟩ (.slice A12 (k + 1) c12)) := ((kt.alloc st _).trans (on12.below (B := w.heap.size + 2) (by rw [sdt]; omega) fun b hb' => (It.out.lt b hb').1)).setCell (by show w.heap.size + 2 ≤ w6.heap.size + 1; omega) _
                  have HD13 := Lib.hid (show (∀ b ∈ f10, b ≠ w6.heap.size + 1 ∧ b ∉ f12) ∧ w6.heap.size + 1 ∉ f12 from ⟨fun b hb' => ⟨(HD10.out b hb').1, fun hm => by
                    rcases H12 b hm with h | h
                    · exact (HD10.out b hb').2 h
                    · have := (Lt.out.lt b hb').2; omega⟩, nb12⟩)
                  go_wp2
                  have hq := HQ.out
                  subst hq
                  go_roundg (n3 - 1 - (k + 1))
                  case measure => omega
                  case rel =>
                    exact ⟨k + 1, _, _, f10, f12, by omega, by go_num, OGN, by rw [TN.out]; exact L13, by rw [RN.out]; exact I13, kB13, HD13, k13⟩
          · obtain ⟨j, rfl⟩ : ∃ j, n3 = j + 1 := ⟨n3 - 1, by omega⟩
            obtain rfl : k = j := by omega
            obtain ⟨E1, E2, E3⟩ := YES.out RO.out.1
            have E := Lib.hid (⟨E1, E2, E3⟩ : F = L ∧ G = ofR s L k ∧ N = true)
            have p0 := kB.cell 0
            have p1 := kB.cell 1
            have z0 := kZ.cell 0
            have z1 := kZ.cell 1
            have g0 := kZ.frozen 0
            have g1 := kZ.frozen 1
            simp only [List.getElem?_cons_zero, List.getElem?_cons_succ] at p0 p1 z0 z1
            have HLT : Hid (L.take (k + 1) = L) := Lib.hid (List.take_of_length_le (by rw [HL3.out]; exact Nat.le_refl _))
            have LF := Lib.hid HL.out
            rw [HLT.out] at LF
            clear E1 E2 E3 kB kZ
            go_wp2_with fail
            refine bodyPost_ret (v := .tuple #[.agg #[.slice AS (k + 1) cS, .slice AR k cR], .bool true]) (by simp [results, Try.results19, go_sem, z0, z1]) rfl ?_
            rw [E.out.1, E.out.2.1, E.out.2.2]
            exact of_fin B LF.out HJ.out (by unfold maxLen; omega) (by unfold maxLen; omega) fun b hb => (HD.out.1 b hb).2
end Go.Proofs.Ytdecjkfokilgoaa
