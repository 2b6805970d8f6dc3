/- How a bit is named: of the model. -/
import Derived.Test.YtdecjkfokilgoaaDoorBitN
import Derived.Test.YtdecjkfokilgoaaDoorBitT
import Derived.Deep.RegionLaw
namespace Go.Proofs.YtdecjkfokilgoaaDoor
open Go.RowKit

theorem bapp (a b : Array UInt8) : ((⟨a⟩ : ByteArray) ++ (⟨b⟩ : ByteArray)) = ⟨a ++ b⟩ := by
  apply ByteArray.ext
  rw [ByteArray.data_append]
theorem itoa_digit (n : Nat) (h : n ≤ 9) : Lib.itoa (n : Int) = [UInt8.ofNat (48 + n)] := by
  unfold Lib.itoa
  rw [if_neg (by omega), Int.toNat_natCast, Lib.decDigits_one (by omega)]
theorem name_text (a b : Nat) (ha : a ≤ 9) (hb : b ≤ 9) : nmB a b = ⟨#[118, UInt8.ofNat (48 + a), 46, UInt8.ofNat (48 + b)]⟩ := by
  unfold nmB
  rw [itoa_digit a ha, itoa_digit b hb]
  rfl

set_option maxHeartbeats 4000000 in
set_option maxRecDepth 100000 in
theorem l40Dec_any (n : Nat) (hn : n ≤ 9) (w : World) : Calls Tryd.prog 13 #[.int .i64 n] w (GivesS w ⟨#[UInt8.ofNat (48 + n)]⟩) := by
  have h1 : ¬ ((n : Int) < -9223372036854775807) := by omega
  have h2 : ¬ ((n : Int) < 0) := by omega
  have h3 : ¬ ((9 : Int) < n) := by omega
  have w1 : IntKind.i64.wrap (48 + (n : Int)) = ((48 + n : Nat) : Int) := by rw [IntWalk.i64_in _ (by omega)]; omega
  have w2 : IntKind.u8.wrap ((48 + n : Nat) : Int) = ((48 + n : Nat) : Int) := by rw [IntKind.wrap_u8]; omega
  have hcv := run_convert_bytes_back (P := Tryd.prog) (w.alloc (.cells #[.int .u8 ((48 + n : Nat) : Int)] 5)) 55 9 5 ⟨w.heap.size, 0, none⟩ 1 [UInt8.ofNat (48 + n)] Tryd.underlying55 Tryd.underlying5 Tryd.underlying9 (fun j hj => by
    have : j = 0 := by simp at hj; exact hj
    subst this
    have := (Blk.new w #[.int .u8 ((48 + n : Nat) : Int)] 5).cell 0
    rw [add_zero']
    refine this.trans ?_
    simp
    omega)
  rw [show ([UInt8.ofNat (48 + n)] : List UInt8).length = 1 from rfl] at hcv
  obtain ⟨q, hq⟩ : ∃ q : Nat, q = 48 + n := ⟨_, rfl⟩
  rw [← hq] at w1 w2 hcv ⊢
  have HQ := Lib.hid hq
  clear hq
  go_enter Tryd.func13, Tryd.ntmps13
  go_wp2
  go_loopg [0, 3] 0 (fun m t0 t3 wr => m = 0 ∧ t0 = .int .i64 n ∧ t3 = .string ⟨#[]⟩ ∧ wr = w)
  case atStart => exact ⟨rfl, rfl, rfl, rfl⟩
  case round =>
    obtain ⟨rfl, rfl, rfl, rfl⟩ := hrel
    go_wp2
    go_ret
    refine ⟨?_, below_alloc _ _⟩
    exact congrArg (fun x => Ending.returned (.string x)) (bapp #[UInt8.ofNat q] #[])

set_option maxHeartbeats 4000000 in
set_option maxRecDepth 100000 in
theorem bitName_spec (s : Sy) (b : Int) (A1 : Option Addr) (n1 c1 : Nat) (A2 : Option Addr) (n2 c2 : Nat) (w : World) (h1 : Mem.rd w w.heap.size [.slice A1 n1 c1] s.vars) (h2 : Mem.rd w w.heap.size [.slice A2 n2 c2] s.rules) (hbB : b < 9223372036854775808) :
    Calls Tryd.prog 5 #[.agg #[.slice A1 n1 c1, .slice A2 n2 c2], .int .i64 b] w (GivesS w (bitNameB s b)) := by
  have L1 := rd_len h1
  have HBB := Lib.hid hbB
  clear hbB
  have BC := Lib.hid (fun o => bitsOf_spec s A1 n1 c1 A2 n2 c2 (w.alloc o) (Mem.rd_on_alloc h1 o) (Mem.rd_on_alloc h2 o))
  obtain ⟨F, hF⟩ : ∃ F, F = bitNameB s b := ⟨_, rfl⟩
  rw [← hF]
  by_cases q0 : b < 0
  · have E : Hid (F = ⟨#[]⟩) := Lib.hid (hF.trans (bitName_no (.inr (.inl q0))))
    clear hF
    go_enter Tryd.func5, Tryd.ntmps5
    go_wp2_with fail
    refine (BC.out _).mono ?_
    rintro e w2 ⟨A3, n3, c3, f3, rfl, o3, nd3, lo3, b2⟩
    go_wp2
    go_ret
    exact ⟨congrArg (fun x => Ending.returned (.string x)) E.out.symm, below_call b2⟩
  · cases hz : sysB s
    · have E : Hid (F = ⟨#[]⟩) := Lib.hid (hF.trans (bitName_no (.inl hz)))
      have e0 : bitsOfB s = widL [] := by unfold bitsOfB; rw [hz]; rfl
      rw [e0] at BC
      have SC : Hid (∀ W A c, Mem.rd W W.heap.size [.slice A 0 c] (widL []) → Calls Tryd.prog 12 #[.slice A 0 c] W (GivesInt W 0)) := Lib.hid (fun W A c h => l6Sum_any A 0 c [] W h (by omega))
      have b1 : (0 : Int) ≤ b := by omega
      clear hF hz e0
      go_enter Tryd.func5, Tryd.ntmps5
      go_wp2_with fail
      refine (BC.out _).mono ?_
      rintro e w2 ⟨A3, n3, c3, f3, rfl, o3, nd3, lo3, b2⟩
      have l3 := rd_len (Mem.own_rd o3)
      obtain rfl : n3 = 0 := by simpa [widL] using l3.symm
      clear l3
      go_wp2_with fail
      refine (SC.out _ _ _ (Mem.own_rd o3)).mono ?_
      rintro e w3 ⟨rfl, b3⟩
      change Hid _ at E
      go_wp2
      go_ret
      exact ⟨congrArg (fun x => Ending.returned (.string x)) E.out.symm, (below_call b2).trans (b3.mono (below_call b2).size)⟩
    · have ok := sysOk_of hz
      have h5 : n1 ≤ 5 := by have := ok.hi; omega
      have e0 : bitsOfB s = widL s.vars := by unfold bitsOfB; rw [hz]; rfl
      rw [e0] at BC
      have SC := Lib.hid (fun W A c (h : Mem.rd W W.heap.size [.slice A n1 c] (widL s.vars)) => l6Sum_any A n1 c s.vars W h h5)
      rw [L1] at SC
      have HNo := Lib.hid (fun (h : ∀ j, j < n1 → (widTo s.vars (j + 1) : Int) ≤ b) => hF.trans (bitName_no (.inr (.inr fun j hj => h j (by omega)))))
      have HAt := Lib.hid (fun k (hk : k < n1) h1 h2 => hF.trans (bitName_at (k := k) hz (by omega) (by omega) h1 h2))
      have WD := Lib.hid (fun k => wdt_le ((el s.vars k).high - (el s.vars k).low + 1))
      have WL := Lib.hid (fun k (hk : k ≤ n1) => wid_le ok (k := k) (by omega))
      have WM := Lib.hid (fun j (hj : j < n1) => wid_mono s.vars (show j + 1 ≤ n1 by omega))
      have WX := Lib.hid (fun k (hk : k < n1) => widL_ix (l := s.vars) (k := k) (by omega))
      have WN : Hid ((widL s.vars).length = n1) := Lib.hid (by rw [widL_len, L1])
      by_cases q1 : ((widTo s.vars n1 : Nat) : Int) ≤ b
      · have E := Lib.hid (HNo.out (fun j hj => by have := WM.out j hj; omega))
        clear hF hz e0 ok
        generalize widTo s.vars n1 = M at *
        go_enter Tryd.func5, Tryd.ntmps5
        go_wp2_with fail
        refine (BC.out _).mono ?_
        rintro e w2 ⟨A3, n3, c3, f3, rfl, o3, nd3, lo3, b2⟩
        have l3 := rd_len (Mem.own_rd o3)
        rw [WN.out] at l3
        subst l3
        go_wp2_with fail
        refine (SC.out _ _ _ (Mem.own_rd o3)).mono ?_
        rintro e w3 ⟨rfl, b3⟩
        go_wp2
        go_ret
        exact ⟨congrArg (fun x => Ending.returned (.string x)) E.out.symm, (below_call b2).trans (b3.mono (below_call b2).size)⟩
      · have HQ1 := Lib.hid q1
        have q1' : ¬ (((widTo s.vars n1 : Nat) : Int) ≤ b) := q1
        clear hF hz e0 ok
        obtain ⟨M, hM⟩ : ∃ M, M = widTo s.vars n1 := ⟨_, rfl⟩
        rw [← hM] at SC q1 q1'
        have HM := Lib.hid hM
        clear hM
        go_enter Tryd.func5, Tryd.ntmps5
        go_wp2_with fail
        refine (BC.out _).mono ?_
        rintro e w2 ⟨A3, n3, c3, f3, rfl, o3, nd3, lo3, b2⟩
        have l3 := rd_len (Mem.own_rd o3)
        rw [WN.out] at l3
        subst l3
        go_wp2_with fail
        refine (SC.out _ _ _ (Mem.own_rd o3)).mono ?_
        rintro e w3 ⟨rfl, b3⟩
        have O3 := Lib.hid (Mem.own_rd (Mem.own_below o3 b3))
        have B3 := (below_call b2).trans (b3.mono (below_call b2).size)
        have HB3 := Lib.hid B3
        clear o3 b2 b3 B3 nd3 lo3
        go_wp2
        go_loopg [1, 6] n1 (fun m t i wr => ∃ k : Nat, k + m = n1 ∧ k < n1 ∧ i = .int .i64 k ∧ t = .int .i64 (b - (widTo s.vars k : Nat)) ∧ Hid (∀ j, j < k → (widTo s.vars (j + 1) : Int) ≤ b) ∧ Hid ((widTo s.vars k : Int) ≤ b) ∧ Below w3.heap.size w3 wr)
        case atStart =>
          have n0 : 0 < n1 := by
            by_cases e : n1 = 0
            · have := HQ1.out
              rw [e] at this
              have q : widTo s.vars 0 = 0 := rfl
              omega
            · omega
          exact ⟨0, by omega, n0, rfl, by show Value.int .i64 b = .int .i64 (b - ((0 : Nat) : Int)); simp, Lib.hid (fun j hj => absurd hj (by omega)), Lib.hid (by show ((0 : Nat) : Int) ≤ b; omega), Below.refl _ _⟩
        case round =>
          obtain ⟨k, hk, hlt, rfl, rfl, hlo, hb0, hb⟩ := hrel
          have kn : (k : Int) < n1 := by omega
          obtain ⟨ad, rfl, hbl, d0⟩ := (rd_ints.1 (Mem.rd_on O3.out hb)).2.int hlt
          rw [WX.out k hlt] at d0
          have wd5 := WD.out k
          change wdv (el s.vars k) ≤ 5 at wd5
          have HP : Hid (widTo s.vars (k + 1) = widTo s.vars k + wdv (el s.vars k)) := Lib.hid rfl
          have b1 := WL.out (k + 1) (by omega)
          have b0 := hb0.out
          by_cases q : b - (widTo s.vars k : Nat) < (wdv (el s.vars k) : Nat)
          · obtain ⟨ev, hev⟩ : ∃ ev : Nat, (ev : Int) = (wdv (el s.vars k) : Nat) - 1 - (b - (widTo s.vars k : Nat)) := ⟨((wdv (el s.vars k) : Int) - 1 - (b - (widTo s.vars k : Nat))).toNat, by omega⟩
            have hk9 : k ≤ 9 := by omega
            have he9 : ev ≤ 9 := by omega
            have E : Hid (F = ⟨#[118, UInt8.ofNat (48 + k), 46, UInt8.ofNat (48 + ev)]⟩) := Lib.hid (by
              rw [HAt.out k hlt hlo.out (by rw [HP.out]; omega), ← hev, Int.toNat_natCast]
              exact name_text k ev hk9 he9)
            have wv1 : IntKind.i64.wrap (((wdv (el s.vars k) : Nat) : Int) - 1) = ((wdv (el s.vars k) : Nat) : Int) - 1 := IntWalk.i64_in _ (by omega)
            have wv2 : IntKind.i64.wrap (((wdv (el s.vars k) : Nat) : Int) - 1 - (b - (widTo s.vars k : Nat))) = (ev : Int) := by rw [← hev]; exact IntWalk.i64_in _ (by omega)
            obtain ⟨X, hX⟩ : ∃ X : ByteArray, X = ⟨#[UInt8.ofNat (48 + k)]⟩ := ⟨_, rfl⟩
            obtain ⟨Y, hY⟩ : ∃ Y : ByteArray, Y = ⟨#[UInt8.ofNat (48 + ev)]⟩ := ⟨_, rfl⟩
            have NK := Lib.hid (fun W => show Calls Tryd.prog 13 #[.int .i64 k] W (GivesS W X) by rw [hX]; exact l40Dec_any k hk9 W)
            have NE := Lib.hid (fun W => show Calls Tryd.prog 13 #[.int .i64 ev] W (GivesS W Y) by rw [hY]; exact l40Dec_any ev he9 W)
            have EX : Hid (F = (⟨#[118]⟩ : ByteArray) ++ X ++ ⟨#[46]⟩ ++ Y) := Lib.hid (by rw [E.out, hX, hY, bapp, bapp, bapp]; rfl)
            have hXs : X.size = 1 := by rw [hX]; rfl
            have hYs : Y.size = 1 := by rw [hY]; rfl
            clear hX hY E
            have HBL := Lib.hid hbl
            clear hev wd5 b1 b0
            generalize wdv (el s.vars k) = jj at *
            generalize widTo s.vars k = MK at *
            go_wp2
            refine wp_region_held_drew (S := (fun w' => w'.cell? (ad.add k) = some (.int .i64 jj))) (by kernel_rfl) ?_ (fun hHeld => ?_)
            · (try dsimp only); exact d0
            refine wpAnyH_take (i := 0) (v := ?mv0) rfl (by kernel_rfl) (by kernel_rfl) (by kernel_rfl) (fun _ _ _ h => h) (Or.inl ⟨by kernel_rfl, ?mh0⟩) (by assumption) ?mr0
            case mh0 => ((intro w hSw; (try dsimp only at hSw); go_simp) <;> with_reducible rfl)
            (try simp only [List.getElem_toArray, List.getElem_cons_zero]); (try simp only [Act.put]); (try simp only [List.setIfInBounds_toArray]); (try simp only [List.set_cons_succ]); (try simp only [List.set_cons_zero])
            refine wpAnyH_take (i := 4) (v := ?mv4) rfl (by kernel_rfl) (by kernel_rfl) (by kernel_rfl) (fun _ _ _ h => h) (Or.inl ⟨by kernel_rfl, ?mh4⟩) (by assumption) ?mr4
            case mh4 => ((intro w hSw; (try dsimp only at hSw); go_simp) <;> with_reducible rfl)
            (try simp only [List.getElem_toArray, List.getElem_cons_zero, List.getElem_cons_succ]); (try simp only [Act.put]); (try simp only [List.setIfInBounds_toArray]); (try simp only [List.set_cons_succ]); (try simp only [List.set_cons_zero])
            refine wpAnyH_take (i := 5) (v := ?mv5) rfl (by kernel_rfl) (by kernel_rfl) (by kernel_rfl) (fun _ _ _ h => h) (Or.inl ⟨by kernel_rfl, ?mh5⟩) (by assumption) ?mr5
            case mh5 => ((intro w hSw; (try dsimp only at hSw); go_simp) <;> with_reducible rfl)
            (try simp only [List.getElem_toArray, List.getElem_cons_zero, List.getElem_cons_succ]); (try simp only [Act.put]); (try simp only [List.setIfInBounds_toArray]); (try simp only [List.set_cons_succ]); (try simp only [List.set_cons_zero])
            refine wpAnyH_take (i := 6) (v := ?mv6) rfl (by kernel_rfl) (by kernel_rfl) (by kernel_rfl) (fun _ _ _ h => h) (Or.inl ⟨by kernel_rfl, ?mh6⟩) (by assumption) ?mr6
            case mh6 => ((intro w hSw; (try dsimp only at hSw); go_simp) <;> with_reducible rfl)
            (try simp only [List.getElem_toArray, List.getElem_cons_zero, List.getElem_cons_succ]); (try simp only [Act.put]); (try simp only [List.setIfInBounds_toArray]); (try simp only [List.set_cons_succ]); (try simp only [List.set_cons_zero])
            refine wpAnyH_take (i := 7) (v := ?mv7) rfl (by kernel_rfl) (by kernel_rfl) (by kernel_rfl) (fun _ _ _ h => h) (Or.inl ⟨by kernel_rfl, ?mh7⟩) (by assumption) ?mr7
            case mh7 => ((intro w hSw; (try dsimp only at hSw); go_simp) <;> with_reducible rfl)
            (try simp only [List.getElem_toArray, List.getElem_cons_zero, List.getElem_cons_succ]); (try simp only [Act.put]); (try simp only [List.setIfInBounds_toArray]); (try simp only [List.set_cons_succ]); (try simp only [List.set_cons_zero])
            refine wpAnyH_take (i := 8) (v := ?mv8) rfl (by kernel_rfl) (by kernel_rfl) (by kernel_rfl) (fun _ _ _ h => h) (Or.inl ⟨by kernel_rfl, ?mh8⟩) (by assumption) ?mr8
            case mh8 => ((intro w hSw; (try dsimp only at hSw); go_simp) <;> with_reducible rfl)
            (try simp only [List.getElem_toArray, List.getElem_cons_zero, List.getElem_cons_succ]); (try simp only [Act.put]); (try simp only [List.setIfInBounds_toArray]); (try simp only [List.set_cons_succ]); (try simp only [List.set_cons_zero])
            refine wpAnyH_take (i := 9) (v := ?mv9) rfl (by kernel_rfl) (by kernel_rfl) (by kernel_rfl) (fun _ _ _ h => h) (Or.inl ⟨by kernel_rfl, ?mh9⟩) (by assumption) ?mr9
            case mh9 => ((intro w hSw; (try dsimp only at hSw); go_simp) <;> with_reducible rfl)
            (try simp only [List.getElem_toArray, List.getElem_cons_zero, List.getElem_cons_succ]); (try simp only [Act.put]); (try simp only [List.setIfInBounds_toArray]); (try simp only [List.set_cons_succ]); (try simp only [List.set_cons_zero])
            refine wpAnyH_take (i := 10) (v := ?mv10) rfl (by kernel_rfl) (by kernel_rfl) (by kernel_rfl) (fun _ _ _ h => h) (Or.inl ⟨by kernel_rfl, ?mh10⟩) (by assumption) ?mr10
            case mh10 => ((intro w hSw; (try dsimp only at hSw); go_simp) <;> with_reducible rfl)
            (try simp only [List.getElem_toArray, List.getElem_cons_zero, List.getElem_cons_succ]); (try simp only [Act.put]); (try simp only [List.setIfInBounds_toArray]); (try simp only [List.set_cons_succ]); (try simp only [List.set_cons_zero])
            refine wpAnyH_ready (rs := [1]) (by kernel_rfl) (by simp) ?_
            refine AllReadyH.cons (o := _) rfl (fun K hK => ?_) AllReadyH.nil
            go_simp
            refine (NK.out _).mono ?_
            rintro e w4 ⟨rfl, b4⟩
            have b4n : Below wr.heap.size wr w4 := ⟨b4.os, b4.tape, b4.output, b4.size, b4.block⟩
            have d0 := cell_below b4n (p := ad.add k) (by rw [add_block]; exact HBL.out) d0
            refine hK.out _ _ ?_ (fun hHeld => ?_)
            · (try dsimp only); exact d0
            clear hK K
            (try simp only [List.getElem_toArray, List.getElem_cons_zero, List.getElem_cons_succ]); (try simp only [Act.put]); (try simp only [List.setIfInBounds_toArray]); (try simp only [List.set_cons_succ]); (try simp only [List.set_cons_zero])
            refine wpAnyH_take (i := 2) (v := ?mv2) rfl (by kernel_rfl) (by kernel_rfl) (by kernel_rfl) (fun _ _ _ h => h) (Or.inl ⟨by kernel_rfl, ?mh2⟩) (by assumption) ?mr2
            case mh2 => ((intro w hSw; (try dsimp only at hSw); go_simp) <;> with_reducible rfl)
            (try simp only [List.getElem_toArray, List.getElem_cons_zero, List.getElem_cons_succ]); (try simp only [Act.put]); (try simp only [List.setIfInBounds_toArray]); (try simp only [List.set_cons_succ]); (try simp only [List.set_cons_zero])
            refine wpAnyH_take (i := 3) (v := ?mv3) rfl (by kernel_rfl) (by kernel_rfl) (by kernel_rfl) (fun _ _ _ h => h) (Or.inl ⟨by kernel_rfl, ?mh3⟩) (by assumption) ?mr3
            case mh3 => ((intro w hSw; (try dsimp only at hSw); go_simp) <;> with_reducible rfl)
            (try simp only [List.getElem_toArray, List.getElem_cons_zero, List.getElem_cons_succ]); (try simp only [Act.put]); (try simp only [List.setIfInBounds_toArray]); (try simp only [List.set_cons_succ]); (try simp only [List.set_cons_zero])
            refine wpAnyH_ready (rs := [11]) (by kernel_rfl) (by simp) ?_
            refine AllReadyH.cons (o := _) rfl (fun K hK => ?_) AllReadyH.nil
            go_simp
            refine (NE.out _).mono ?_
            rintro e w5 ⟨rfl, b5⟩
            have d0 := cell_below b5 (p := ad.add k) (by rw [add_block]; exact Nat.lt_of_lt_of_le HBL.out b4n.size) d0
            refine hK.out _ _ ?_ (fun hHeld => ?_)
            · (try dsimp only); exact d0
            clear hK K
            (try simp only [List.getElem_toArray, List.getElem_cons_zero, List.getElem_cons_succ]); (try simp only [Act.put]); (try simp only [List.setIfInBounds_toArray]); (try simp only [List.set_cons_succ]); (try simp only [List.set_cons_zero])
            refine wpAnyH_take (i := 12) (v := ?mv12) rfl (by kernel_rfl) (by kernel_rfl) (by kernel_rfl) (fun _ _ _ h => h) (Or.inl ⟨by kernel_rfl, ?mh12⟩) (by assumption) ?mr12
            case mh12 => ((intro w hSw; (try dsimp only at hSw); go_simp) <;> with_reducible rfl)
            (try simp only [List.getElem_toArray, List.getElem_cons_zero, List.getElem_cons_succ]); (try simp only [Act.put]); (try simp only [List.setIfInBounds_toArray]); (try simp only [List.set_cons_succ]); (try simp only [List.set_cons_zero])
            refine wpAnyH_take (i := 13) (v := ?mv13) rfl (by kernel_rfl) (by kernel_rfl) (by kernel_rfl) (fun _ _ _ h => h) (Or.inl ⟨by kernel_rfl, ?mh13⟩) (by assumption) ?mr13
            case mh13 => ((intro w hSw; (try dsimp only at hSw); go_simp) <;> with_reducible rfl)
            (try simp only [List.getElem_toArray, List.getElem_cons_zero, List.getElem_cons_succ]); (try simp only [Act.put]); (try simp only [List.setIfInBounds_toArray]); (try simp only [List.set_cons_succ]); (try simp only [List.set_cons_zero])
            refine wpAnyH_done (by kernel_rfl) ?_ _
            go_wp2
            go_ret
            refine ⟨?_, HB3.out.trans ((hb.trans ((b4n.trans (b5.mono b4n.size)).mono hb.size)).mono HB3.out.size)⟩
            rw [EX.out]
            rfl
          · have wv3 : IntKind.i64.wrap (b - (widTo s.vars k : Nat) - (wdv (el s.vars k) : Nat)) = b - (widTo s.vars (k + 1) : Nat) := by
              have hbB := HBB.out
              rw [HP.out, IntWalk.i64_in _ (by omega)]
              omega
            have HLN : Hid ((widTo s.vars (k + 1) : Int) ≤ b) := Lib.hid (by rw [HP.out]; omega)
            have HLO : Hid (∀ j, j < k + 1 → (widTo s.vars (j + 1) : Int) ≤ b) := Lib.hid (fun j hj => by
              by_cases e : j < k
              · exact hlo.out j e
              · obtain rfl : j = k := by omega
                exact HLN.out)
            have klt : k + 1 < n1 := by
              by_cases e : k + 1 = n1
              · have := HQ1.out
                rw [← e] at this
                have := HLN.out
                omega
              · omega
            obtain ⟨NX, hNX⟩ : ∃ x, x = widTo s.vars (k + 1) := ⟨_, rfl⟩
            have HNX := Lib.hid hNX
            rw [← hNX] at wv3
            clear wd5 b1 b0 hNX
            go_wp2
            go_roundg (n1 - (k + 1))
            case measure => omega
            case rel => exact ⟨k + 1, by omega, klt, by go_num, by rw [HNX.out], HLO, HLN, hb⟩
end Go.Proofs.YtdecjkfokilgoaaDoor
