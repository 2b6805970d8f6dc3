/- The state that bits are: BitsState of the program. -/
import Derived.Test.YtopedgopbofhoaaBitV
import Derived.Test.YtopedgopbofhoaaInR
import Derived.Deep.RegionHeld3
namespace Go.Proofs.Ytopedgopbofhoaa
open Go.RowKit

theorem ent_wid {x y : Nat} (h : x = y) : ((x : Int) != (y : Int)) = false := by subst h; simp
theorem ent_wid' {x y : Nat} (h : x ≠ y) : ((x : Int) != (y : Int)) = true := by simp; omega

set_option maxRecDepth 100000 in
set_option maxHeartbeats 8000000 in
theorem bitsState_impl (s : Sy) (L : List Int) (A1 : Option Addr) (n1 c1 : Nat) (A2 : Option Addr) (n2 c2 : Nat) (A3 : Option Addr) (n3 c3 : Nat) (w : World) (h1 : Mem.rd w w.heap.size [.slice A1 n1 c1] s.vars) (h2 : Mem.rd w w.heap.size [.slice A2 n2 c2] s.rules) (h3 : Mem.rd w w.heap.size [.slice A3 n3 c3] L) :
    Calls Try.prog 9 #[.agg #[.slice A1 n1 c1, .slice A2 n2 c2], .slice A3 n3 c3] w (GivesL w (bitsStateB s L)) := by
  have L3 := rd_len h3
  have BX := Lib.hid (sy_box (w := w) (v1 := .slice A1 n1 c1) (v2 := .slice A2 n2 c2))
  have SV := Lib.hid (fun W (B : Below w.heap.size w W) => sysValid_impl s A1 n1 c1 A2 n2 c2 W (Mem.rd_on h1 B) (Mem.rd_on h2 B))
  obtain ⟨F, hF⟩ : ∃ F, F = bitsStateB s L := ⟨_, rfl⟩
  rw [← hF]
  unfold bitsStateB at hF
  cases hr : rowOk L
  · have E : Hid (F = []) := Lib.hid (by
      rw [hF]
      cases hz : sysB s
      · rfl
      · have ok := sysOk_of hz
        unfold rowOk at hr
        cases ha : areB L
        · rfl
        · rw [ha, Bool.and_true] at hr
          have : ¬ L.length ≤ 12 := of_decide_eq_false hr
          have := wid_le ok (Nat.le_refl s.vars.length)
          rw [decide_eq_false (show ¬ L.length = widTo s.vars s.vars.length by omega)]; rfl)
    have RC := Lib.hid (fun W (B : Below w.heap.size w W) => rowOf_no L A3 n3 c3 W (Mem.rd_on h3 B) hr)
    clear hF hr
    go_enter Try.func9, Try.ntmps9
    go_wp2_with fail
    refine (RC.out _ (below_alloc _ _)).mono ?_
    rintro e w2 ⟨rfl, b2⟩
    have B2 := below_call b2
    go_wp2
    try (go_quiet (fail))
    try go_wp2
    go_ret
    rw [E.out]
    have B3 := B2.alloc B2.size (.cells #[.int .u64 0, .int .i64 0] 53)
    exact ⟨none, 0, 0, [], rfl, own_none _, List.nodup_nil, by simp, ⟨B3.os, B3.tape, B3.output, B3.size, B3.block⟩⟩
  · have hra : L.length ≤ 12 ∧ areB L = true := by
      unfold rowOk at hr
      simpa using hr
    have RC := Lib.hid (fun W (B : Below w.heap.size w W) => rowOf_yes L A3 n3 c3 W (Mem.rd_on h3 B) hr)
    cases hz : sysB s
    · have E : Hid (F = []) := Lib.hid (by rw [hF, hz]; rfl)
      have HZ := Lib.hid hz; clear hz hF hr hra
      generalize numN L n3 = N at *
      go_enter Try.func9, Try.ntmps9
      go_wp2_with fail
      refine (RC.out _ (below_alloc _ _)).mono ?_
      rintro e w2 ⟨rfl, b2⟩
      have b2a := b2.alloc b2.size (.cells #[.int .u64 N, .int .i64 n3] 53)
      have kR := Blk.new w2 #[.int .u64 N, .int .i64 n3] 53
      obtain ⟨wR, hwR⟩ : ∃ wR, wR = w2.alloc (.cells #[.int .u64 N, .int .i64 n3] 53) := ⟨_, rfl⟩
      rw [← hwR] at b2a kR
      obtain ⟨B2, x0, x1⟩ := BX.out _ b2a
      have r1 := kR.cell 1
      have SK := Lib.hid (SV.out wR.drew ⟨B2.os, B2.tape, B2.output, B2.size, B2.block⟩)
      go_wp2
      rw [← hwR]
      clear hwR
      refine wp_region_held_drew (S := (fun w' => w'.cell? ⟨w.heap.size, 0, none⟩ = some (.slice A1 n1 c1) ∧ w'.cell? ⟨w.heap.size, 1, none⟩ = some (.slice A2 n2 c2) ∧ w'.cell? ⟨w2.heap.size, 1, none⟩ = some (.int .i64 n3))) (by kernel_rfl) ?_ (fun hHeld => ?_)
      · (try dsimp only); exact ⟨x0, x1, r1⟩
      refine wpAnyH_take (i := 0) (v := ?av0) rfl (by kernel_rfl) (by kernel_rfl) (by kernel_rfl) (fun _ _ _ h => h) (Or.inl ⟨by kernel_rfl, ?ah0⟩) (by assumption) ?ar0
      case ah0 => ((intro w hSw; (try dsimp only at hSw); go_simp) <;> with_reducible rfl)
      (try simp only [List.getElem_toArray, List.getElem_cons_zero]); (try simp only [Act.put]); (try simp only [List.setIfInBounds_toArray]); (try simp only [List.set_cons_succ]); (try simp only [List.set_cons_zero])
      refine wpAnyH_take (i := 1) (v := ?av1) rfl (by kernel_rfl) (by kernel_rfl) (by kernel_rfl) (fun _ _ _ h => h) (Or.inl ⟨by kernel_rfl, ?ah1⟩) (by assumption) ?ar1
      case ah1 => ((intro w hSw; (try dsimp only at hSw); go_simp) <;> with_reducible rfl)
      (try simp only [List.getElem_toArray, List.getElem_cons_zero, List.getElem_cons_succ]); (try simp only [Act.put]); (try simp only [List.setIfInBounds_toArray]); (try simp only [List.set_cons_succ]); (try simp only [List.set_cons_zero])
      refine wpAnyH_take (i := 2) (v := ?av2) rfl (by kernel_rfl) (by kernel_rfl) (by kernel_rfl) (fun _ _ _ h => h) (Or.inl ⟨by kernel_rfl, ?ah2⟩) (by assumption) ?ar2
      case ah2 => ((intro w hSw; (try dsimp only at hSw); go_simp) <;> with_reducible rfl)
      (try simp only [List.getElem_toArray, List.getElem_cons_zero, List.getElem_cons_succ]); (try simp only [Act.put]); (try simp only [List.setIfInBounds_toArray]); (try simp only [List.set_cons_succ]); (try simp only [List.set_cons_zero])
      refine wpAnyH_take (i := 3) (v := ?av3) rfl (by kernel_rfl) (by kernel_rfl) (by kernel_rfl) (fun _ _ _ h => h) (Or.inl ⟨by kernel_rfl, ?ah3⟩) (by assumption) ?ar3
      case ah3 => ((intro w hSw; (try dsimp only at hSw); go_simp) <;> with_reducible rfl)
      (try simp only [List.getElem_toArray, List.getElem_cons_zero, List.getElem_cons_succ]); (try simp only [Act.put]); (try simp only [List.setIfInBounds_toArray]); (try simp only [List.set_cons_succ]); (try simp only [List.set_cons_zero])
      refine wpAnyH_ready (rs := [4]) (by kernel_rfl) (by simp) ?_
      refine AllReadyH.cons (o := _) rfl (fun K hK => ?_) AllReadyH.nil
      go_simp
      refine (SK.out).mono ?_
      rintro e w3 ⟨rfl, b3⟩
      rw [HZ.out]
      have b3 : Below wR.heap.size wR w3 := ⟨b3.os, b3.tape, b3.output, b3.size, b3.block⟩
      have kR := kR.below b3 kR.lt
      have r1 := kR.cell 1
      have b3 := b2a.trans (b3.mono b2a.size)
      obtain ⟨B3, x0, x1⟩ := BX.out _ b3
      refine hK.out _ _ ?_ (fun hHeld => ?_)
      · (try dsimp only); exact ⟨x0, x1, r1⟩
      clear hK K
      (try simp only [List.getElem_toArray, List.getElem_cons_zero, List.getElem_cons_succ]); (try simp only [Act.put]); (try simp only [List.setIfInBounds_toArray]); (try simp only [List.set_cons_succ]); (try simp only [List.set_cons_zero])
      refine wpAnyH_take (i := 5) (v := ?av5) rfl (by kernel_rfl) (by kernel_rfl) (by kernel_rfl) (fun _ _ _ h => h) (Or.inl ⟨by kernel_rfl, ?ah5⟩) (by assumption) ?ar5
      case ah5 => ((intro w hSw; (try dsimp only at hSw); go_simp) <;> with_reducible rfl)
      (try simp only [List.getElem_toArray, List.getElem_cons_zero, List.getElem_cons_succ]); (try simp only [Act.put]); (try simp only [List.setIfInBounds_toArray]); (try simp only [List.set_cons_succ]); (try simp only [List.set_cons_zero])
      refine wpAnyH_take (i := 6) (v := ?av6) rfl (by kernel_rfl) (by kernel_rfl) (by kernel_rfl) (fun _ _ _ h => h) (Or.inl ⟨by kernel_rfl, ?ah6⟩) (by assumption) ?ar6
      case ah6 => ((intro w hSw; (try dsimp only at hSw); go_simp) <;> with_reducible rfl)
      (try simp only [List.getElem_toArray, List.getElem_cons_zero, List.getElem_cons_succ]); (try simp only [Act.put]); (try simp only [List.setIfInBounds_toArray]); (try simp only [List.set_cons_succ]); (try simp only [List.set_cons_zero])
      refine wpAnyH_take (i := 7) (v := ?av7) rfl (by kernel_rfl) (by kernel_rfl) (by kernel_rfl) (fun _ _ _ h => h) (Or.inl ⟨by kernel_rfl, ?ah7⟩) (by assumption) ?ar7
      case ah7 => ((intro w hSw; (try dsimp only at hSw); go_simp) <;> with_reducible rfl)
      (try simp only [List.getElem_toArray, List.getElem_cons_zero, List.getElem_cons_succ]); (try simp only [Act.put]); (try simp only [List.setIfInBounds_toArray]); (try simp only [List.set_cons_succ]); (try simp only [List.set_cons_zero])
      refine wpAnyH_take (i := 8) (v := undef) rfl (by kernel_rfl) (by kernel_rfl) (by kernel_rfl) (fun _ _ _ h => h) (Or.inr ⟨by kernel_rfl, rfl⟩) (by assumption) ?_
      (try simp only [List.getElem_toArray, List.getElem_cons_zero, List.getElem_cons_succ]); (try simp only [Act.put]); (try simp only [List.setIfInBounds_toArray]); (try simp only [List.set_cons_succ]); (try simp only [List.set_cons_zero])
      refine wpAnyH_take (i := 9) (v := undef) rfl (by kernel_rfl) (by kernel_rfl) (by kernel_rfl) (fun _ _ _ h => h) (Or.inr ⟨by kernel_rfl, rfl⟩) (by assumption) ?_
      (try simp only [List.getElem_toArray, List.getElem_cons_zero, List.getElem_cons_succ]); (try simp only [Act.put]); (try simp only [List.setIfInBounds_toArray]); (try simp only [List.set_cons_succ]); (try simp only [List.set_cons_zero])
      refine wpAnyH_take (i := 10) (v := undef) rfl (by kernel_rfl) (by kernel_rfl) (by kernel_rfl) (fun _ _ _ h => h) (Or.inr ⟨by kernel_rfl, rfl⟩) (by assumption) ?_
      (try simp only [List.getElem_toArray, List.getElem_cons_zero, List.getElem_cons_succ]); (try simp only [Act.put]); (try simp only [List.setIfInBounds_toArray]); (try simp only [List.set_cons_succ]); (try simp only [List.set_cons_zero])
      refine wpAnyH_take (i := 11) (v := undef) rfl (by kernel_rfl) (by kernel_rfl) (by kernel_rfl) (fun _ _ _ h => h) (Or.inr ⟨by kernel_rfl, rfl⟩) (by assumption) ?_
      (try simp only [List.getElem_toArray, List.getElem_cons_zero, List.getElem_cons_succ]); (try simp only [Act.put]); (try simp only [List.setIfInBounds_toArray]); (try simp only [List.set_cons_succ]); (try simp only [List.set_cons_zero])
      refine wpAnyH_take (i := 12) (v := undef) rfl (by kernel_rfl) (by kernel_rfl) (by kernel_rfl) (fun _ _ _ h => h) (Or.inr ⟨by kernel_rfl, rfl⟩) (by assumption) ?_
      (try simp only [List.getElem_toArray, List.getElem_cons_zero, List.getElem_cons_succ]); (try simp only [Act.put]); (try simp only [List.setIfInBounds_toArray]); (try simp only [List.set_cons_succ]); (try simp only [List.set_cons_zero])
      refine wpAnyH_take (i := 13) (v := ?av13) rfl (by kernel_rfl) (by kernel_rfl) (by kernel_rfl) (fun _ _ _ h => h) (Or.inl ⟨by kernel_rfl, ?ah13⟩) (by assumption) ?ar13
      case ah13 => ((intro w hSw; (try dsimp only at hSw); go_simp) <;> with_reducible rfl)
      (try simp only [List.getElem_toArray, List.getElem_cons_zero, List.getElem_cons_succ]); (try simp only [Act.put]); (try simp only [List.setIfInBounds_toArray]); (try simp only [List.set_cons_succ]); (try simp only [List.set_cons_zero])
      refine wpAnyH_done (by kernel_rfl) ?_ _
      go_wp2
      go_ret
      rw [E.out]
      exact ⟨none, 0, 0, [], rfl, own_none _, List.nodup_nil, by simp, B3⟩
    · have ok := sysOk_of hz
      have WC := Lib.hid (fun W (B : Below w.heap.size w W) => widthS_any s A1 n1 c1 A2 n2 c2 W (Mem.rd_on h1 B) ok)
      by_cases hw : n3 = widTo s.vars s.vars.length
      · have hL : allTo (bitAt L) (widTo s.vars s.vars.length) = true := by
          have := hra.2
          unfold areB at this
          rw [L3, hw] at this
          exact this
        have UC := Lib.hid (fun W (B : Below w.heap.size w W) => unpacked_any s L A1 n1 c1 A2 n2 c2 W (Mem.rd_on h1 B) ok hL)
        rw [← hw] at UC
        have HC := Lib.hid (fun W A n c (B : Below w.heap.size w W) (h : Mem.rd W W.heap.size [.slice A n c] (unpL s.vars L)) => hasS_any s (unpL s.vars L) A1 n1 c1 A2 n2 c2 A n c W (Mem.rd_on h1 B) h)
        have E : Hid (F = if hasB s.vars (unpL s.vars L) then unpL s.vars L else []) := Lib.hid (by rw [hF, hz, hra.2, decide_eq_true (show L.length = widTo s.vars s.vars.length by omega)]; rfl)
        have LS : Hid (1 ≤ (unpL s.vars L).length ∧ (unpL s.vars L).length ≤ 5) := Lib.hid (by rw [unpL_len]; have := ok.lo; have := ok.hi; omega)
        have HW := ent_wid hw
        have HZ := Lib.hid hz; clear hz hF hr hra hw hL ok
        generalize unpL s.vars L = S at *
        generalize numN L n3 = N at *
        generalize widTo s.vars s.vars.length = M at WC HW
        have LC := Lib.hid (fun w => list_any S w LS.out.1 LS.out.2)
        obtain ⟨m, hm⟩ : ∃ m : Nat, m = S.length := ⟨_, rfl⟩
        have HM := Lib.hid hm
        have PB : Hid (∀ W : World, Blk (W.alloc (.cells #[.int .i64 (ix S 0), .int .i64 (ix S 1), .int .i64 (ix S 2), .int .i64 (ix S 3), .int .i64 (ix S 4), .int .i64 m] 59)) W.heap.size 59 (ptC S)) := Lib.hid (fun W => by
          rw [hm]; exact Blk.new W (ptC S).toArray _)
        have PR : Hid (∀ (W : World) g T, Blk W g T (ptC S) → Mem.rd W W.heap.size [.slice (some ⟨g, 0, none⟩) m 5] S) := Lib.hid (fun W g T hk => rd_ints.2 ⟨by have := LS.out; unfold maxLen; omega, by rw [hm]; exact hk.pt LS.out.2⟩)
        have PC : Hid (∀ (W : World) g T, Blk W g T (ptC S) → W.cell? ⟨g, 5, none⟩ = some (.int .i64 m)) := Lib.hid (fun W g T hk => by rw [hm]; exact (pt_cells hk).2.2.2.2.2)
        unfold ptV rwV at UC
        unfold ptV at LC
        rw [← hm] at LC UC
        clear hm
        go_enter Try.func9, Try.ntmps9
        go_wp2_with fail
        refine (RC.out _ (below_alloc _ _)).mono ?_
        rintro e w2 ⟨rfl, b2⟩
        have b2a := b2.alloc b2.size (.cells #[.int .u64 N, .int .i64 n3] 53)
        have kR := Blk.new w2 #[.int .u64 N, .int .i64 n3] 53
        obtain ⟨wR, hwR⟩ : ∃ wR, wR = w2.alloc (.cells #[.int .u64 N, .int .i64 n3] 53) := ⟨_, rfl⟩
        rw [← hwR] at b2a kR
        obtain ⟨B2, x0, x1⟩ := BX.out _ b2a
        have r1 := kR.cell 1
        have SK := Lib.hid (SV.out wR.drew ⟨B2.os, B2.tape, B2.output, B2.size, B2.block⟩)
        go_wp2
        rw [← hwR]
        clear hwR
        refine wp_region_held_drew (S := (fun w' => w'.cell? ⟨w.heap.size, 0, none⟩ = some (.slice A1 n1 c1) ∧ w'.cell? ⟨w.heap.size, 1, none⟩ = some (.slice A2 n2 c2) ∧ w'.cell? ⟨w2.heap.size, 1, none⟩ = some (.int .i64 n3))) (by kernel_rfl) ?_ (fun hHeld => ?_)
        · (try dsimp only); exact ⟨x0, x1, r1⟩
        refine wpAnyH_take (i := 0) (v := ?dv0) rfl (by kernel_rfl) (by kernel_rfl) (by kernel_rfl) (fun _ _ _ h => h) (Or.inl ⟨by kernel_rfl, ?dh0⟩) (by assumption) ?dr0
        case dh0 => ((intro w hSw; (try dsimp only at hSw); go_simp) <;> with_reducible rfl)
        (try simp only [List.getElem_toArray, List.getElem_cons_zero]); (try simp only [Act.put]); (try simp only [List.setIfInBounds_toArray]); (try simp only [List.set_cons_succ]); (try simp only [List.set_cons_zero])
        refine wpAnyH_take (i := 1) (v := ?dv1) rfl (by kernel_rfl) (by kernel_rfl) (by kernel_rfl) (fun _ _ _ h => h) (Or.inl ⟨by kernel_rfl, ?dh1⟩) (by assumption) ?dr1
        case dh1 => ((intro w hSw; (try dsimp only at hSw); go_simp) <;> with_reducible rfl)
        (try simp only [List.getElem_toArray, List.getElem_cons_zero, List.getElem_cons_succ]); (try simp only [Act.put]); (try simp only [List.setIfInBounds_toArray]); (try simp only [List.set_cons_succ]); (try simp only [List.set_cons_zero])
        refine wpAnyH_take (i := 2) (v := ?dv2) rfl (by kernel_rfl) (by kernel_rfl) (by kernel_rfl) (fun _ _ _ h => h) (Or.inl ⟨by kernel_rfl, ?dh2⟩) (by assumption) ?dr2
        case dh2 => ((intro w hSw; (try dsimp only at hSw); go_simp) <;> with_reducible rfl)
        (try simp only [List.getElem_toArray, List.getElem_cons_zero, List.getElem_cons_succ]); (try simp only [Act.put]); (try simp only [List.setIfInBounds_toArray]); (try simp only [List.set_cons_succ]); (try simp only [List.set_cons_zero])
        refine wpAnyH_take (i := 3) (v := ?dv3) rfl (by kernel_rfl) (by kernel_rfl) (by kernel_rfl) (fun _ _ _ h => h) (Or.inl ⟨by kernel_rfl, ?dh3⟩) (by assumption) ?dr3
        case dh3 => ((intro w hSw; (try dsimp only at hSw); go_simp) <;> with_reducible rfl)
        (try simp only [List.getElem_toArray, List.getElem_cons_zero, List.getElem_cons_succ]); (try simp only [Act.put]); (try simp only [List.setIfInBounds_toArray]); (try simp only [List.set_cons_succ]); (try simp only [List.set_cons_zero])
        refine wpAnyH_ready (rs := [4]) (by kernel_rfl) (by simp) ?_
        refine AllReadyH.cons (o := _) rfl (fun K hK => ?_) AllReadyH.nil
        go_simp
        refine (SK.out).mono ?_
        rintro e w3 ⟨rfl, b3⟩
        rw [HZ.out]
        have b3 : Below wR.heap.size wR w3 := ⟨b3.os, b3.tape, b3.output, b3.size, b3.block⟩
        have kR := kR.below b3 kR.lt
        have r1 := kR.cell 1
        have b3 := b2a.trans (b3.mono b2a.size)
        obtain ⟨B3, x0, x1⟩ := BX.out _ b3
        have WK := Lib.hid (WC.out w3 B3)
        refine hK.out _ _ ?_ (fun hHeld => ?_)
        · (try dsimp only); exact ⟨x0, x1, r1⟩
        clear hK K
        (try simp only [List.getElem_toArray, List.getElem_cons_zero, List.getElem_cons_succ]); (try simp only [Act.put]); (try simp only [List.setIfInBounds_toArray]); (try simp only [List.set_cons_succ]); (try simp only [List.set_cons_zero])
        refine wpAnyH_take (i := 5) (v := ?dv5) rfl (by kernel_rfl) (by kernel_rfl) (by kernel_rfl) (fun _ _ _ h => h) (Or.inl ⟨by kernel_rfl, ?dh5⟩) (by assumption) ?dr5
        case dh5 => ((intro w hSw; (try dsimp only at hSw); go_simp) <;> with_reducible rfl)
        (try simp only [List.getElem_toArray, List.getElem_cons_zero, List.getElem_cons_succ]); (try simp only [Act.put]); (try simp only [List.setIfInBounds_toArray]); (try simp only [List.set_cons_succ]); (try simp only [List.set_cons_zero])
        refine wpAnyH_take (i := 6) (v := ?dv6) rfl (by kernel_rfl) (by kernel_rfl) (by kernel_rfl) (fun _ _ _ h => h) (Or.inl ⟨by kernel_rfl, ?dh6⟩) (by assumption) ?dr6
        case dh6 => ((intro w hSw; (try dsimp only at hSw); go_simp) <;> with_reducible rfl)
        (try simp only [List.getElem_toArray, List.getElem_cons_zero, List.getElem_cons_succ]); (try simp only [Act.put]); (try simp only [List.setIfInBounds_toArray]); (try simp only [List.set_cons_succ]); (try simp only [List.set_cons_zero])
        refine wpAnyH_take (i := 7) (v := ?dv7) rfl (by kernel_rfl) (by kernel_rfl) (by kernel_rfl) (fun _ _ _ h => h) (Or.inl ⟨by kernel_rfl, ?dh7⟩) (by assumption) ?dr7
        case dh7 => ((intro w hSw; (try dsimp only at hSw); go_simp) <;> with_reducible rfl)
        (try simp only [List.getElem_toArray, List.getElem_cons_zero, List.getElem_cons_succ]); (try simp only [Act.put]); (try simp only [List.setIfInBounds_toArray]); (try simp only [List.set_cons_succ]); (try simp only [List.set_cons_zero])
        refine wpAnyH_take (i := 8) (v := ?dv8) rfl (by kernel_rfl) (by kernel_rfl) (by kernel_rfl) (fun _ _ _ h => h) (Or.inl ⟨by kernel_rfl, ?dh8⟩) (by assumption) ?dr8
        case dh8 => ((intro w hSw; (try dsimp only at hSw); go_simp) <;> with_reducible rfl)
        (try simp only [List.getElem_toArray, List.getElem_cons_zero, List.getElem_cons_succ]); (try simp only [Act.put]); (try simp only [List.setIfInBounds_toArray]); (try simp only [List.set_cons_succ]); (try simp only [List.set_cons_zero])
        refine wpAnyH_take (i := 9) (v := ?dv9) rfl (by kernel_rfl) (by kernel_rfl) (by kernel_rfl) (fun _ _ _ h => h) (Or.inl ⟨by kernel_rfl, ?dh9⟩) (by assumption) ?dr9
        case dh9 => ((intro w hSw; (try dsimp only at hSw); go_simp) <;> with_reducible rfl)
        (try simp only [List.getElem_toArray, List.getElem_cons_zero, List.getElem_cons_succ]); (try simp only [Act.put]); (try simp only [List.setIfInBounds_toArray]); (try simp only [List.set_cons_succ]); (try simp only [List.set_cons_zero])
        refine wpAnyH_take (i := 10) (v := ?dv10) rfl (by kernel_rfl) (by kernel_rfl) (by kernel_rfl) (fun _ _ _ h => h) (Or.inl ⟨by kernel_rfl, ?dh10⟩) (by assumption) ?dr10
        case dh10 => ((intro w hSw; (try dsimp only at hSw); go_simp) <;> with_reducible rfl)
        (try simp only [List.getElem_toArray, List.getElem_cons_zero, List.getElem_cons_succ]); (try simp only [Act.put]); (try simp only [List.setIfInBounds_toArray]); (try simp only [List.set_cons_succ]); (try simp only [List.set_cons_zero])
        refine wpAnyH_ready (rs := [11]) (by kernel_rfl) (by simp) ?_
        refine AllReadyH.cons (o := _) rfl (fun K hK => ?_) AllReadyH.nil
        go_simp
        refine (WK.out).mono ?_
        rintro e w4 ⟨rfl, b4⟩
        have kR := kR.below b4 kR.lt
        have r1 := kR.cell 1
        have b4 := b3.trans (b4.mono b3.size)
        obtain ⟨B4, x0, x1⟩ := BX.out _ b4
        refine hK.out _ _ ?_ (fun hHeld => ?_)
        · (try dsimp only); exact ⟨x0, x1, r1⟩
        clear hK K
        (try simp only [List.getElem_toArray, List.getElem_cons_zero, List.getElem_cons_succ]); (try simp only [Act.put]); (try simp only [List.setIfInBounds_toArray]); (try simp only [List.set_cons_succ]); (try simp only [List.set_cons_zero])
        refine wpAnyH_take (i := 12) (v := ?dv12) rfl (by kernel_rfl) (by kernel_rfl) (by kernel_rfl) (fun _ _ _ h => h) (Or.inl ⟨by kernel_rfl, ?dh12⟩) (by assumption) ?dr12
        case dh12 => ((intro w hSw; (try dsimp only at hSw); go_simp) <;> with_reducible rfl)
        (try simp only [List.getElem_toArray, List.getElem_cons_zero, List.getElem_cons_succ]); (try simp only [Act.put]); (try simp only [List.setIfInBounds_toArray]); (try simp only [List.set_cons_succ]); (try simp only [List.set_cons_zero])
        refine wpAnyH_take (i := 13) (v := ?dv13) rfl (by kernel_rfl) (by kernel_rfl) (by kernel_rfl) (fun _ _ _ h => h) (Or.inl ⟨by kernel_rfl, ?dh13⟩) (by assumption) ?dr13
        case dh13 => ((intro w hSw; (try dsimp only at hSw); go_simp) <;> with_reducible rfl)
        (try simp only [List.getElem_toArray, List.getElem_cons_zero, List.getElem_cons_succ]); (try simp only [Act.put]); (try simp only [List.setIfInBounds_toArray]); (try simp only [List.set_cons_succ]); (try simp only [List.set_cons_zero])
        refine wpAnyH_done (by kernel_rfl) ?_ _
        have r0 := kR.cell 0
        go_wp2_with fail
        refine (UC.out _ B4).mono ?_
        rintro e w5 ⟨rfl, b5⟩
        have b5 := b4.trans (b5.mono b4.size)
        have b5a := b5.alloc b5.size (.cells #[.int .i64 (ix S 0), .int .i64 (ix S 1), .int .i64 (ix S 2), .int .i64 (ix S 3), .int .i64 (ix S 4), .int .i64 m] 59)
        have kP := PB.out w5
        obtain ⟨wP, hwP⟩ : ∃ wP, wP = w5.alloc (.cells #[.int .i64 (ix S 0), .int .i64 (ix S 1), .int .i64 (ix S 2), .int .i64 (ix S 3), .int .i64 (ix S 4), .int .i64 m] 59) := ⟨_, rfl⟩
        rw [← hwP] at b5a kP
        obtain ⟨B5, y0, y1⟩ := BX.out _ b5a
        have q5 := PC.out _ _ _ kP
        have HSL := fun W => run_pt_slice ⟨w5.heap.size, 0, none⟩ m (by have := HM.out; have := LS.out; omega) W
        have HK := Lib.hid (HC.out wP.drew _ _ _ ⟨B5.os, B5.tape, B5.output, B5.size, B5.block⟩ (Mem.rd_drew (PR.out _ _ _ kP)))
        have HL := Lib.hid kP.lt
        have HB := Lib.hid (show w.heap.size < wP.heap.size by have := b5a.size; rw [World.size_alloc] at this; exact this)
        clear x0 x1 r1 r0
        go_wp2
        rw [← hwP]
        clear hwP
        go_region_held3 (fun w' => w'.cell? ⟨w.heap.size, 0, none⟩ = some (.slice A1 n1 c1) ∧ w'.cell? ⟨w.heap.size, 1, none⟩ = some (.slice A2 n2 c2) ∧ w'.cell? ⟨w5.heap.size, 5, none⟩ = some (.int .i64 m)) (go_keep)
          ((go_at_call 31; refine (HK.out).mono ?_; rintro e w6 ⟨rfl, b6'⟩
            have b6 : Below wP.heap.size wP w6 := ⟨b6'.os, b6'.tape, b6'.output, b6'.size, b6'.block⟩
            have z0 := cell_below b6 (p := ⟨w.heap.size, 0, none⟩) HB.out y0
            have z1 := cell_below b6 (p := ⟨w.heap.size, 1, none⟩) HB.out y1
            have z5 := cell_below b6 (p := ⟨w5.heap.size, 5, none⟩) HL.out q5))
        have kP6 := kP.below b6 kP.lt
        have b6 := b5a.trans (b6.mono b5a.size)
        obtain ⟨B6, u0, u1⟩ := BX.out _ b6
        cases hh : hasB s.vars S
        · have E1 : Hid (F = []) := Lib.hid (by rw [E.out, hh]; rfl)
          clear hh
          go_wp2
          go_ret
          rw [E1.out]
          exact ⟨none, 0, 0, [], rfl, own_none _, List.nodup_nil, by simp, B6⟩
        · have E1 : Hid (F = S) := Lib.hid (by rw [E.out, hh]; rfl)
          obtain ⟨p0, p1, p2, p3, p4, _⟩ := pt_cells kP6
          clear hh
          go_wp2_with fail
          refine (LC.out _).mono ?_
          rintro e w7 ⟨v7, rfl, o7, b7⟩
          go_wp2
          go_ret
          rw [E1.out]
          exact givesL_of ⟨v7, rfl, own_lower o7 B6.size, B6.trans (b7.mono B6.size)⟩ (by have := LS.out; unfold maxLen; omega)
      · have E : Hid (F = []) := Lib.hid (by rw [hF, decide_eq_false (show ¬ L.length = widTo s.vars s.vars.length by omega)]; simp)
        have HW := ent_wid' hw
        have HZ := Lib.hid hz; clear hz hF hr hra hw ok
        generalize numN L n3 = N at *
        generalize widTo s.vars s.vars.length = M at WC HW
        go_enter Try.func9, Try.ntmps9
        go_wp2_with fail
        refine (RC.out _ (below_alloc _ _)).mono ?_
        rintro e w2 ⟨rfl, b2⟩
        have b2a := b2.alloc b2.size (.cells #[.int .u64 N, .int .i64 n3] 53)
        have kR := Blk.new w2 #[.int .u64 N, .int .i64 n3] 53
        obtain ⟨wR, hwR⟩ : ∃ wR, wR = w2.alloc (.cells #[.int .u64 N, .int .i64 n3] 53) := ⟨_, rfl⟩
        rw [← hwR] at b2a kR
        obtain ⟨B2, x0, x1⟩ := BX.out _ b2a
        have r1 := kR.cell 1
        have SK := Lib.hid (SV.out wR.drew ⟨B2.os, B2.tape, B2.output, B2.size, B2.block⟩)
        go_wp2
        rw [← hwR]
        clear hwR
        refine wp_region_held_drew (S := (fun w' => w'.cell? ⟨w.heap.size, 0, none⟩ = some (.slice A1 n1 c1) ∧ w'.cell? ⟨w.heap.size, 1, none⟩ = some (.slice A2 n2 c2) ∧ w'.cell? ⟨w2.heap.size, 1, none⟩ = some (.int .i64 n3))) (by kernel_rfl) ?_ (fun hHeld => ?_)
        · (try dsimp only); exact ⟨x0, x1, r1⟩
        refine wpAnyH_take (i := 0) (v := ?cv0) rfl (by kernel_rfl) (by kernel_rfl) (by kernel_rfl) (fun _ _ _ h => h) (Or.inl ⟨by kernel_rfl, ?ch0⟩) (by assumption) ?cr0
        case ch0 => ((intro w hSw; (try dsimp only at hSw); go_simp) <;> with_reducible rfl)
        (try simp only [List.getElem_toArray, List.getElem_cons_zero]); (try simp only [Act.put]); (try simp only [List.setIfInBounds_toArray]); (try simp only [List.set_cons_succ]); (try simp only [List.set_cons_zero])
        refine wpAnyH_take (i := 1) (v := ?cv1) rfl (by kernel_rfl) (by kernel_rfl) (by kernel_rfl) (fun _ _ _ h => h) (Or.inl ⟨by kernel_rfl, ?ch1⟩) (by assumption) ?cr1
        case ch1 => ((intro w hSw; (try dsimp only at hSw); go_simp) <;> with_reducible rfl)
        (try simp only [List.getElem_toArray, List.getElem_cons_zero, List.getElem_cons_succ]); (try simp only [Act.put]); (try simp only [List.setIfInBounds_toArray]); (try simp only [List.set_cons_succ]); (try simp only [List.set_cons_zero])
        refine wpAnyH_take (i := 2) (v := ?cv2) rfl (by kernel_rfl) (by kernel_rfl) (by kernel_rfl) (fun _ _ _ h => h) (Or.inl ⟨by kernel_rfl, ?ch2⟩) (by assumption) ?cr2
        case ch2 => ((intro w hSw; (try dsimp only at hSw); go_simp) <;> with_reducible rfl)
        (try simp only [List.getElem_toArray, List.getElem_cons_zero, List.getElem_cons_succ]); (try simp only [Act.put]); (try simp only [List.setIfInBounds_toArray]); (try simp only [List.set_cons_succ]); (try simp only [List.set_cons_zero])
        refine wpAnyH_take (i := 3) (v := ?cv3) rfl (by kernel_rfl) (by kernel_rfl) (by kernel_rfl) (fun _ _ _ h => h) (Or.inl ⟨by kernel_rfl, ?ch3⟩) (by assumption) ?cr3
        case ch3 => ((intro w hSw; (try dsimp only at hSw); go_simp) <;> with_reducible rfl)
        (try simp only [List.getElem_toArray, List.getElem_cons_zero, List.getElem_cons_succ]); (try simp only [Act.put]); (try simp only [List.setIfInBounds_toArray]); (try simp only [List.set_cons_succ]); (try simp only [List.set_cons_zero])
        refine wpAnyH_ready (rs := [4]) (by kernel_rfl) (by simp) ?_
        refine AllReadyH.cons (o := _) rfl (fun K hK => ?_) AllReadyH.nil
        go_simp
        refine (SK.out).mono ?_
        rintro e w3 ⟨rfl, b3⟩
        rw [HZ.out]
        have b3 : Below wR.heap.size wR w3 := ⟨b3.os, b3.tape, b3.output, b3.size, b3.block⟩
        have kR := kR.below b3 kR.lt
        have r1 := kR.cell 1
        have b3 := b2a.trans (b3.mono b2a.size)
        obtain ⟨B3, x0, x1⟩ := BX.out _ b3
        have WK := Lib.hid (WC.out w3 B3)
        refine hK.out _ _ ?_ (fun hHeld => ?_)
        · (try dsimp only); exact ⟨x0, x1, r1⟩
        clear hK K
        (try simp only [List.getElem_toArray, List.getElem_cons_zero, List.getElem_cons_succ]); (try simp only [Act.put]); (try simp only [List.setIfInBounds_toArray]); (try simp only [List.set_cons_succ]); (try simp only [List.set_cons_zero])
        refine wpAnyH_take (i := 5) (v := ?cv5) rfl (by kernel_rfl) (by kernel_rfl) (by kernel_rfl) (fun _ _ _ h => h) (Or.inl ⟨by kernel_rfl, ?ch5⟩) (by assumption) ?cr5
        case ch5 => ((intro w hSw; (try dsimp only at hSw); go_simp) <;> with_reducible rfl)
        (try simp only [List.getElem_toArray, List.getElem_cons_zero, List.getElem_cons_succ]); (try simp only [Act.put]); (try simp only [List.setIfInBounds_toArray]); (try simp only [List.set_cons_succ]); (try simp only [List.set_cons_zero])
        refine wpAnyH_take (i := 6) (v := ?cv6) rfl (by kernel_rfl) (by kernel_rfl) (by kernel_rfl) (fun _ _ _ h => h) (Or.inl ⟨by kernel_rfl, ?ch6⟩) (by assumption) ?cr6
        case ch6 => ((intro w hSw; (try dsimp only at hSw); go_simp) <;> with_reducible rfl)
        (try simp only [List.getElem_toArray, List.getElem_cons_zero, List.getElem_cons_succ]); (try simp only [Act.put]); (try simp only [List.setIfInBounds_toArray]); (try simp only [List.set_cons_succ]); (try simp only [List.set_cons_zero])
        refine wpAnyH_take (i := 7) (v := ?cv7) rfl (by kernel_rfl) (by kernel_rfl) (by kernel_rfl) (fun _ _ _ h => h) (Or.inl ⟨by kernel_rfl, ?ch7⟩) (by assumption) ?cr7
        case ch7 => ((intro w hSw; (try dsimp only at hSw); go_simp) <;> with_reducible rfl)
        (try simp only [List.getElem_toArray, List.getElem_cons_zero, List.getElem_cons_succ]); (try simp only [Act.put]); (try simp only [List.setIfInBounds_toArray]); (try simp only [List.set_cons_succ]); (try simp only [List.set_cons_zero])
        refine wpAnyH_take (i := 8) (v := ?cv8) rfl (by kernel_rfl) (by kernel_rfl) (by kernel_rfl) (fun _ _ _ h => h) (Or.inl ⟨by kernel_rfl, ?ch8⟩) (by assumption) ?cr8
        case ch8 => ((intro w hSw; (try dsimp only at hSw); go_simp) <;> with_reducible rfl)
        (try simp only [List.getElem_toArray, List.getElem_cons_zero, List.getElem_cons_succ]); (try simp only [Act.put]); (try simp only [List.setIfInBounds_toArray]); (try simp only [List.set_cons_succ]); (try simp only [List.set_cons_zero])
        refine wpAnyH_take (i := 9) (v := ?cv9) rfl (by kernel_rfl) (by kernel_rfl) (by kernel_rfl) (fun _ _ _ h => h) (Or.inl ⟨by kernel_rfl, ?ch9⟩) (by assumption) ?cr9
        case ch9 => ((intro w hSw; (try dsimp only at hSw); go_simp) <;> with_reducible rfl)
        (try simp only [List.getElem_toArray, List.getElem_cons_zero, List.getElem_cons_succ]); (try simp only [Act.put]); (try simp only [List.setIfInBounds_toArray]); (try simp only [List.set_cons_succ]); (try simp only [List.set_cons_zero])
        refine wpAnyH_take (i := 10) (v := ?cv10) rfl (by kernel_rfl) (by kernel_rfl) (by kernel_rfl) (fun _ _ _ h => h) (Or.inl ⟨by kernel_rfl, ?ch10⟩) (by assumption) ?cr10
        case ch10 => ((intro w hSw; (try dsimp only at hSw); go_simp) <;> with_reducible rfl)
        (try simp only [List.getElem_toArray, List.getElem_cons_zero, List.getElem_cons_succ]); (try simp only [Act.put]); (try simp only [List.setIfInBounds_toArray]); (try simp only [List.set_cons_succ]); (try simp only [List.set_cons_zero])
        refine wpAnyH_ready (rs := [11]) (by kernel_rfl) (by simp) ?_
        refine AllReadyH.cons (o := _) rfl (fun K hK => ?_) AllReadyH.nil
        go_simp
        refine (WK.out).mono ?_
        rintro e w4 ⟨rfl, b4⟩
        have kR := kR.below b4 kR.lt
        have r1 := kR.cell 1
        have b4 := b3.trans (b4.mono b3.size)
        obtain ⟨B4, x0, x1⟩ := BX.out _ b4
        refine hK.out _ _ ?_ (fun hHeld => ?_)
        · (try dsimp only); exact ⟨x0, x1, r1⟩
        clear hK K
        (try simp only [List.getElem_toArray, List.getElem_cons_zero, List.getElem_cons_succ]); (try simp only [Act.put]); (try simp only [List.setIfInBounds_toArray]); (try simp only [List.set_cons_succ]); (try simp only [List.set_cons_zero])
        refine wpAnyH_take (i := 12) (v := ?cv12) rfl (by kernel_rfl) (by kernel_rfl) (by kernel_rfl) (fun _ _ _ h => h) (Or.inl ⟨by kernel_rfl, ?ch12⟩) (by assumption) ?cr12
        case ch12 => ((intro w hSw; (try dsimp only at hSw); go_simp) <;> with_reducible rfl)
        (try simp only [List.getElem_toArray, List.getElem_cons_zero, List.getElem_cons_succ]); (try simp only [Act.put]); (try simp only [List.setIfInBounds_toArray]); (try simp only [List.set_cons_succ]); (try simp only [List.set_cons_zero])
        refine wpAnyH_take (i := 13) (v := ?cv13) rfl (by kernel_rfl) (by kernel_rfl) (by kernel_rfl) (fun _ _ _ h => h) (Or.inl ⟨by kernel_rfl, ?ch13⟩) (by assumption) ?cr13
        case ch13 => ((intro w hSw; (try dsimp only at hSw); go_simp) <;> with_reducible rfl)
        (try simp only [List.getElem_toArray, List.getElem_cons_zero, List.getElem_cons_succ]); (try simp only [Act.put]); (try simp only [List.setIfInBounds_toArray]); (try simp only [List.set_cons_succ]); (try simp only [List.set_cons_zero])
        refine wpAnyH_done (by kernel_rfl) ?_ _
        go_wp2
        go_ret
        rw [E.out]
        exact ⟨none, 0, 0, [], rfl, own_none _, List.nodup_nil, by simp, B4⟩
end Go.Proofs.Ytopedgopbofhoaa
