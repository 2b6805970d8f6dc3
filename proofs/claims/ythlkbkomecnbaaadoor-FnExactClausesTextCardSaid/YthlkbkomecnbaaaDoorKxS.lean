/- Clauses as text, in the model. -/
import Derived.Test.YthlkbkomecnbaaaDoorKxP
import Derived.Test.YthlkbkomecnbaaaDoorKcS
namespace Go.Proofs.YthlkbkomecnbaaaDoor
open Go.RowKit
set_option maxRecDepth 100000

set_option maxHeartbeats 8000000 in
theorem clausesText_spec (s : Cs) (A : Option Addr) (n c : Nat) (w : World) (h : Mem.rd w w.heap.size [.slice A n c] s.list) :
    Calls Tryd.prog 5 #[.agg #[.int .i64 s.atoms, .slice A n c]] w (GivesS w (csTextB s)) := by
  have CK := Lib.hid (fun W (B : Below w.heap.size w W) => clausesValid_spec s A n c W (Mem.rd_on h B))
  have l1 := rd_len h
  have BX := Lib.hid (ci_box (w := w) (v1 := .int .i64 s.atoms) (v2 := .slice A n c) (t := 27))
  unfold csTextB
  cases k1 : csVB s with
  | false =>
    rw [k1] at CK
    rw [csTextL_no k1]
    obtain ⟨m, L⟩ := s
    dsimp only at *
    clear k1 l1
    go_enter Tryd.func5, Tryd.ntmps5
    go_wp2_with fail
    refine (CK.out _ (below_alloc _ _)).mono ?_
    rintro e w1 ⟨rfl, b1⟩
    obtain ⟨B1, x0, x1⟩ := BX.out _ b1
    go_wp2
    go_ret
    exact ⟨rfl, B1⟩
  | true =>
    rw [k1] at CK
    have ok : CsOk s.atoms s.list := csvB_iff.1 k1
    have HNO := Lib.hid (fun k (hk : k ≤ n) (q : 4000 < (textTo s.atoms s.list k).length) => csTextL_long (s := s) (k := k) (by rw [l1]; exact hk) q)
    have HYE : Hid ((textTo s.atoms s.list n).length ≤ 4000 → csTextL s = textTo s.atoms s.list n) := Lib.hid fun q => by rw [← l1] at q ⊢; exact csTextL_yes k1 q
    have m0 := ok.lo
    have m1 := ok.hi
    have hn2 : n ≤ 2500 := by have := ok.few; omega
    have HLT := Lib.hid (fun k (hk : k < n) => cv_lits (ok.all k (by rw [l1]; exact hk)))
    obtain ⟨m, L⟩ := s
    dsimp only at *
    have hh : (textTo m L 0).length ≤ 4000 := by have := hdrT_len (m := m) (n := L.length) m0 (by omega) (by omega); show (hdrT m L.length).length ≤ _; omega
    have HH := Lib.hid hh
    have DM := Lib.hid (fun W => l40Dec_any m (by omega) (by omega) W)
    have DN := Lib.hid (fun W => l40Dec_any (n : Int) (by omega) (by omega) W)
    have EH : Hid (({ data := #[112, 32, 99, 110, 102, 32] } : ByteArray) ++ tB (Lib.itoa m) ++ { data := #[32] } ++ tB (Lib.itoa (n : Int)) ++ { data := #[10] } = tB (textTo m L 0)) := Lib.hid (by
      show tB [112, 32, 99, 110, 102, 32] ++ tB (Lib.itoa m) ++ tB [32] ++ tB (Lib.itoa (n : Int)) ++ tB [10] = tB (hdrT m L.length)
      rw [tB_app, tB_app, tB_app, tB_app, l1]
      rfl)
    have ES : Hid (∀ k, tB (textTo m L k ++ litsT (el L k) (el L k).length) ++ ({ data := #[48, 10] } : ByteArray) = tB (textTo m L (k + 1))) := Lib.hid fun k => tB_app _ [48, 10]
    have EL : Hid (∀ k j, tB (textTo m L k ++ litsT (el L k) j) ++ tB (Lib.itoa (ix (el L k) j)) ++ ({ data := #[32] } : ByteArray) = tB (textTo m L k ++ litsT (el L k) (j + 1))) := Lib.hid fun k j => by
      show tB _ ++ tB _ ++ tB [32] = _
      rw [tB_app, tB_app, List.append_assoc, List.append_assoc]
      rfl
    have im1 : (tB (Lib.itoa m)).size ≤ 21 := by rw [tB_size]; exact itoa_len (by omega) (by omega)
    have in1 : (tB (Lib.itoa (n : Int))).size ≤ 21 := by rw [tB_size]; exact itoa_len (by omega) (by omega)
    generalize tB (Lib.itoa m) = IM at *
    generalize tB (Lib.itoa (n : Int)) = IN at *
    have s1 : ¬ 9223372036854775807 < 6 + IM.size := by omega
    have s2 : ¬ 9223372036854775807 < 6 + IM.size + 1 := by omega
    have s3 : ¬ 9223372036854775807 < 6 + IM.size + 1 + IN.size := by omega
    have s4 : ¬ 9223372036854775807 < 6 + IM.size + 1 + IN.size + 1 := by omega
    have r1 : ¬ 9223372036854775807 < ({ data := #[112, 32, 99, 110, 102, 32] } : ByteArray).size + IM.size := by show ¬ 9223372036854775807 < 6 + IM.size; omega
    have r2 : ¬ 9223372036854775807 < (({ data := #[112, 32, 99, 110, 102, 32] } : ByteArray) ++ IM).size + ({ data := #[32] } : ByteArray).size := by rw [ByteArray.size_append]; show ¬ 9223372036854775807 < 6 + IM.size + 1; omega
    have r3 : ¬ 9223372036854775807 < (({ data := #[112, 32, 99, 110, 102, 32] } : ByteArray) ++ IM ++ { data := #[32] }).size + IN.size := by rw [ByteArray.size_append, ByteArray.size_append]; show ¬ 9223372036854775807 < 6 + IM.size + 1 + IN.size; omega
    have r4 : ¬ 9223372036854775807 < (({ data := #[112, 32, 99, 110, 102, 32] } : ByteArray) ++ IM ++ { data := #[32] } ++ IN).size + ({ data := #[10] } : ByteArray).size := by rw [ByteArray.size_append, ByteArray.size_append, ByteArray.size_append]; show ¬ 9223372036854775807 < 6 + IM.size + 1 + IN.size + 1; omega
    generalize csTextL ⟨m, L⟩ = R at *
    have HD := Lib.hid (fun k (hk : k < n) => ll_at h hk)
    have HIM := Lib.hid (fun j => itoa_len (n := j))
    clear k1 ok hh l1
    go_enter Tryd.func5, Tryd.ntmps5
    go_wp2_with fail
    refine (CK.out _ (below_alloc _ _)).mono ?_
    rintro e w1 ⟨rfl, b1⟩
    obtain ⟨B1, x0, x1⟩ := BX.out _ b1
    have lx : w.heap.size < w1.heap.size := by have := b1.size; rw [World.size_alloc] at this; omega
    clear B1
    go_wp2
    refine wp_region_held_drew (S := (fun w' => w'.cell? ⟨w.heap.size, 0, none⟩ = some (.int .i64 m) ∧ w'.cell? ⟨w.heap.size, 1, none⟩ = some (.slice A n c))) (by kernel_rfl) ?_ (fun hHeld => ?_)
    · (try dsimp only); first | exact ⟨x0, x1⟩ | exact ⟨y0, y1⟩ | exact ⟨z0, z1⟩
    refine wpAnyH_take (i := 0) (v := ?hv0) rfl (by kernel_rfl) (by kernel_rfl) (by kernel_rfl) (fun _ _ _ h => h) (Or.inl ⟨by kernel_rfl, ?hh0⟩) (by assumption) ?hr0
    case hh0 => ((intro w hSw; (try dsimp only at hSw); go_simp) <;> with_reducible rfl)
    (try simp only [List.getElem_toArray, List.getElem_cons_zero]); (try simp only [Act.put]); (try simp only [List.setIfInBounds_toArray]); (try simp only [List.set_cons_succ]); (try simp only [List.set_cons_zero])
    refine wpAnyH_take (i := 1) (v := ?hv1) rfl (by kernel_rfl) (by kernel_rfl) (by kernel_rfl) (fun _ _ _ h => h) (Or.inl ⟨by kernel_rfl, ?hh1⟩) (by assumption) ?hr1
    case hh1 => ((intro w hSw; (try dsimp only at hSw); go_simp) <;> with_reducible rfl)
    (try simp only [List.getElem_toArray, List.getElem_cons_zero, List.getElem_cons_succ]); (try simp only [Act.put]); (try simp only [List.setIfInBounds_toArray]); (try simp only [List.set_cons_succ]); (try simp only [List.set_cons_zero])
    refine wpAnyH_take (i := 5) (v := ?hv5) rfl (by kernel_rfl) (by kernel_rfl) (by kernel_rfl) (fun _ _ _ h => h) (Or.inl ⟨by kernel_rfl, ?hh5⟩) (by assumption) ?hr5
    case hh5 => ((intro w hSw; (try dsimp only at hSw); go_simp) <;> with_reducible rfl)
    (try simp only [List.getElem_toArray, List.getElem_cons_zero, List.getElem_cons_succ]); (try simp only [Act.put]); (try simp only [List.setIfInBounds_toArray]); (try simp only [List.set_cons_succ]); (try simp only [List.set_cons_zero])
    refine wpAnyH_take (i := 6) (v := ?hv6) rfl (by kernel_rfl) (by kernel_rfl) (by kernel_rfl) (fun _ _ _ h => h) (Or.inl ⟨by kernel_rfl, ?hh6⟩) (by assumption) ?hr6
    case hh6 => ((intro w hSw; (try dsimp only at hSw); go_simp) <;> with_reducible rfl)
    (try simp only [List.getElem_toArray, List.getElem_cons_zero, List.getElem_cons_succ]); (try simp only [Act.put]); (try simp only [List.setIfInBounds_toArray]); (try simp only [List.set_cons_succ]); (try simp only [List.set_cons_zero])
    refine wpAnyH_take (i := 7) (v := ?hv7) rfl (by kernel_rfl) (by kernel_rfl) (by kernel_rfl) (fun _ _ _ h => h) (Or.inl ⟨by kernel_rfl, ?hh7⟩) (by assumption) ?hr7
    case hh7 => ((intro w hSw; (try dsimp only at hSw); go_simp) <;> with_reducible rfl)
    (try simp only [List.getElem_toArray, List.getElem_cons_zero, List.getElem_cons_succ]); (try simp only [Act.put]); (try simp only [List.setIfInBounds_toArray]); (try simp only [List.set_cons_succ]); (try simp only [List.set_cons_zero])
    refine wpAnyH_ready (rs := [2]) (by kernel_rfl) (by simp) ?_
    refine AllReadyH.cons (o := _) rfl (fun K hK => ?_) AllReadyH.nil
    go_simp
    refine (DM.out w1.drew).mono ?_
    rintro e w2 ⟨rfl, b2⟩
    have y0 := cell_below b2 (p := ⟨w.heap.size, 0, none⟩) lx x0
    have y1 := cell_below b2 (p := ⟨w.heap.size, 1, none⟩) lx x1
    have ly := Nat.lt_of_lt_of_le lx b2.size
    have HB2 := Lib.hid b2
    clear b2
    refine hK.out _ _ ?_ (fun hHeld => ?_)
    · (try dsimp only); first | exact ⟨x0, x1⟩ | exact ⟨y0, y1⟩ | exact ⟨z0, z1⟩
    clear hK K
    (try simp only [List.getElem_toArray, List.getElem_cons_zero, List.getElem_cons_succ]); (try simp only [Act.put]); (try simp only [List.setIfInBounds_toArray]); (try simp only [List.set_cons_succ]); (try simp only [List.set_cons_zero])
    refine wpAnyH_take (i := 3) (v := ?hv3) rfl (by kernel_rfl) (by kernel_rfl) (by kernel_rfl) (fun _ _ _ h => h) (Or.inl ⟨by kernel_rfl, ?hh3⟩) (by assumption) ?hr3
    case hh3 => ((intro w hSw; (try dsimp only at hSw); go_simp) <;> with_reducible rfl)
    (try simp only [List.getElem_toArray, List.getElem_cons_zero, List.getElem_cons_succ]); (try simp only [Act.put]); (try simp only [List.setIfInBounds_toArray]); (try simp only [List.set_cons_succ]); (try simp only [List.set_cons_zero])
    refine wpAnyH_take (i := 4) (v := ?hv4) rfl (by kernel_rfl) (by kernel_rfl) (by kernel_rfl) (fun _ _ _ h => h) (Or.inl ⟨by kernel_rfl, ?hh4⟩) (by assumption) ?hr4
    case hh4 => ((intro w hSw; (try dsimp only at hSw); go_simp) <;> with_reducible rfl)
    (try simp only [List.getElem_toArray, List.getElem_cons_zero, List.getElem_cons_succ]); (try simp only [Act.put]); (try simp only [List.setIfInBounds_toArray]); (try simp only [List.set_cons_succ]); (try simp only [List.set_cons_zero])
    refine wpAnyH_ready (rs := [8]) (by kernel_rfl) (by simp) ?_
    refine AllReadyH.cons (o := _) rfl (fun K hK => ?_) AllReadyH.nil
    go_simp
    refine (DN.out _).mono ?_
    rintro e w3 ⟨rfl, b3⟩
    have z0 := cell_below b3 (p := ⟨w.heap.size, 0, none⟩) ly y0
    have z1 := cell_below b3 (p := ⟨w.heap.size, 1, none⟩) ly y1
    have HB3 := Lib.hid b3
    clear b3
    refine hK.out _ _ ?_ (fun hHeld => ?_)
    · (try dsimp only); first | exact ⟨x0, x1⟩ | exact ⟨y0, y1⟩ | exact ⟨z0, z1⟩
    clear hK K
    (try simp only [List.getElem_toArray, List.getElem_cons_zero, List.getElem_cons_succ]); (try simp only [Act.put]); (try simp only [List.setIfInBounds_toArray]); (try simp only [List.set_cons_succ]); (try simp only [List.set_cons_zero])
    refine wpAnyH_take (i := 9) (v := ?hv9) rfl (by kernel_rfl) (by kernel_rfl) (by kernel_rfl) (fun _ _ _ h => h) (Or.inl ⟨by kernel_rfl, ?hh9⟩) (by assumption) ?hr9
    case hh9 => ((intro w hSw; (try dsimp only at hSw); go_simp) <;> with_reducible rfl)
    (try simp only [List.getElem_toArray, List.getElem_cons_zero, List.getElem_cons_succ]); (try simp only [Act.put]); (try simp only [List.setIfInBounds_toArray]); (try simp only [List.set_cons_succ]); (try simp only [List.set_cons_zero])
    refine wpAnyH_take (i := 10) (v := ?hv10) rfl (by kernel_rfl) (by kernel_rfl) (by kernel_rfl) (fun _ _ _ h => h) (Or.inl ⟨by kernel_rfl, ?hh10⟩) (by assumption) ?hr10
    case hh10 => ((intro w hSw; (try dsimp only at hSw); go_simp) <;> with_reducible rfl)
    (try simp only [List.getElem_toArray, List.getElem_cons_zero, List.getElem_cons_succ]); (try simp only [Act.put]); (try simp only [List.setIfInBounds_toArray]); (try simp only [List.set_cons_succ]); (try simp only [List.set_cons_zero])
    refine wpAnyH_take (i := 11) (v := ?hv11) rfl (by kernel_rfl) (by kernel_rfl) (by kernel_rfl) (fun _ _ _ h => h) (Or.inl ⟨by kernel_rfl, ?hh11⟩) (by assumption) ?hr11
    case hh11 => ((intro w hSw; (try dsimp only at hSw); go_simp) <;> with_reducible rfl)
    (try simp only [List.getElem_toArray, List.getElem_cons_zero, List.getElem_cons_succ]); (try simp only [Act.put]); (try simp only [List.setIfInBounds_toArray]); (try simp only [List.set_cons_succ]); (try simp only [List.set_cons_zero])
    refine wpAnyH_done (by kernel_rfl) ?_ _
    have b3 := Lib.hid ((b1.trans ((show Below w1.heap.size w1 w2 from ⟨HB2.out.os, HB2.out.tape, HB2.out.output, HB2.out.size, HB2.out.block⟩).mono b1.size)).trans (HB3.out.mono (Nat.le_trans b1.size HB2.out.size)))
    clear b1 s1 s2 s3 s4 r1 r2 r3 r4 x0 x1 y0 y1 lx ly DM DN
    go_wp2
    go_loopg [3, 4] n (fun r t i wr => ∃ k : Nat, k + r = n ∧ i = .int .i64 k ∧ t = .string (tB (textTo m L k)) ∧ Hid ((textTo m L k).length ≤ 4000) ∧ Hid (Below (w.alloc (.cells #[.int .i64 m, .slice A n c] 27)).heap.size (w.alloc (.cells #[.int .i64 m, .slice A n c] 27)) wr))
    case atStart => exact ⟨0, by omega, rfl, congrArg Value.string EH.out, HH, b3⟩
    case round =>
      clear z0 z1 b3 HB2 HB3 EH HH
      obtain ⟨k, hk, rfl, rfl, HTL, HW⟩ := hrel
      obtain ⟨B, x0, x1⟩ := BX.out _ HW.out
      by_cases hlt : k < n
      · obtain ⟨ad, A1, n1, c1, rfl, hbl, d0w, r1w⟩ := HD.out k hlt
        have ln1 := rd_len r1w
        obtain ⟨q7, qL⟩ := HLT.out k hlt
        have n17 : n1 ≤ 700 := by omega
        have QL := Lib.hid (fun j (hj : j < n1) => qL j (by omega))
        have QT : Hid (∀ j, j ≤ n1 → (textTo m L k ++ litsT (el L k) j).length ≤ 20000) := Lib.hid fun j hj => by
          have h1 := litsT_len (l := el L k) (k := j) fun i hi => by have := QL.out i (by omega); omega
          have h2 := HTL.out
          rw [List.length_append]; omega
        have ESk := Lib.hid (ES.out k)
        rw [ln1] at ESk
        have d0 := cell_below B (p := ad.add k) (by rw [add_block]; exact hbl) d0w
        have HRW := Lib.hid r1w
        have HDW := Lib.hid d0w
        clear qL ln1 r1w d0w q7
        go_wp2
        go_loopg [3, 5] n1 (fun r2 t i wr => ∃ j : Nat, j + r2 = n1 ∧ i = .int .i64 j ∧ t = .string (tB (textTo m L k ++ litsT (el L k) j)) ∧ Hid (Below (w.alloc (.cells #[.int .i64 m, .slice (some ad) n c] 27)).heap.size (w.alloc (.cells #[.int .i64 m, .slice (some ad) n c] 27)) wr))
        case atStart => exact ⟨0, by omega, rfl, congrArg (fun z => Value.string (tB z)) (List.append_nil _).symm, HW⟩
        case round =>
          clear B x0 x1 d0 HW
          obtain ⟨j, hj, rfl, rfl, HW⟩ := hrel
          obtain ⟨B, x0, x1⟩ := BX.out _ HW.out
          have d0 := cell_below B (p := ad.add k) (by rw [add_block]; exact hbl) HDW.out
          by_cases hlt2 : j < n1
          · obtain ⟨ad1, rfl, _, e0⟩ := ((rd_ints.1 (Mem.rd_on HRW.out B)).2).int hlt2
            have q1 := QL.out j hlt2
            have DX := Lib.hid (fun W => l40Dec_any (ix (el L k) j) (by omega) (by omega) W)
            have EX := Lib.hid (EL.out k j)
            have sx : (tB (Lib.itoa (ix (el L k) j))).size ≤ 21 := by rw [tB_size]; exact itoa_len (by omega) (by omega)
            have st : (tB (textTo m L k ++ litsT (el L k) j)).size ≤ 20000 := by rw [tB_size]; exact QT.out j (by omega)
            generalize tB (Lib.itoa (ix (el L k) j)) = IX at *
            generalize tB (textTo m L k ++ litsT (el L k) j) = TX at *
            have r1 : ¬ 9223372036854775807 < TX.size + IX.size := by omega
            have r2 : ¬ 9223372036854775807 < (TX ++ IX).size + ({ data := #[32] } : ByteArray).size := by rw [ByteArray.size_append]; show ¬ 9223372036854775807 < TX.size + IX.size + 1; omega
            have r3 : ¬ 9223372036854775807 < TX.size + IX.size + 1 := by omega
            clear q1 sx st
            go_wp2_with (first | (go_at_call 11; refine (DX.out _).mono ?_; rintro e w5 ⟨rfl, b5⟩))
            go_roundg (n1 - (j + 1))
            case measure => omega
            case rel => exact ⟨j + 1, by omega, by go_num, congrArg Value.string EX.out, Lib.hid (HW.out.trans (b5.mono HW.out.size))⟩
          · obtain rfl : j = n1 := by omega
            have st : (tB (textTo m L k ++ litsT (el L k) j)).size ≤ 20000 := by rw [tB_size]; exact QT.out j (Nat.le_refl _)
            have LK := Lib.hid (HNO.out (k + 1) (by omega))
            have esz := tB_size (textTo m L (k + 1))
            obtain ⟨N, hN⟩ : ∃ N, N = (textTo m L (k + 1)).length := ⟨_, rfl⟩
            rw [← hN] at LK esz
            have HN := Lib.hid hN
            have eap := ESk.out
            clear hN
            obtain ⟨T1, hT1⟩ : ∃ T1, T1 = tB (textTo m L (k + 1)) := ⟨_, rfl⟩
            rw [← hT1] at eap esz
            have HT1 := Lib.hid hT1
            generalize tB (textTo m L k ++ litsT (el L k) j) = TX at *
            have r1 : ¬ 9223372036854775807 < TX.size + ({ data := #[48, 10] } : ByteArray).size := by show ¬ 9223372036854775807 < TX.size + 2; omega
            have r2 : ¬ 9223372036854775807 < TX.size + 2 := by omega
            clear st hT1
            by_cases g : 4000 < N
            · have g1 : (4000 : Int) < (N : Int) := by omega
              have ER := Lib.hid (LK.out g)
              clear LK
              go_wp2
              go_ret
              exact ⟨congrArg (fun z => Ending.returned (.string (tB z))) ER.out.symm, B⟩
            · have g1 : ¬ (4000 : Int) < (N : Int) := by omega
              clear LK
              go_wp2
              go_roundg (n - (k + 1))
              case measure => omega
              case rel => exact ⟨k + 1, by omega, by go_num, by rw [HT1.out], Lib.hid (by rw [← HN.out]; omega), HW⟩
      · obtain rfl : k = n := by omega
        have ER := Lib.hid (HYE.out HTL.out)
        go_wp2
        go_ret
        exact ⟨congrArg (fun z => Ending.returned (.string (tB z))) ER.out.symm, B⟩
end Go.Proofs.YthlkbkomecnbaaaDoor
