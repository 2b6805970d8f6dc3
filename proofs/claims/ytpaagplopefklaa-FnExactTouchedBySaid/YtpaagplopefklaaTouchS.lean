/- TouchedBy of the model. -/
import Derived.Test.YtpaagplopefklaaTouchI
import Derived.Test.YtpaagplopefklaaUseS2
import Derived.Test.YtpaagplopefklaaSysH
import Derived.Test.YtpaagplopefklaaIl
import Derived.Deep.RegionHeld3
namespace Go.Proofs.Ytpaagplopefklaa
open Go.RowKit

theorem has_no {l : List Int} {v : Int} (h : ∀ j, j < l.length → ix l j ≠ v) : decide (v ∈ l) = false := decide_eq_false fun hm => by
  obtain ⟨j, hj, e⟩ := List.getElem_of_mem hm
  exact h j hj (by rw [ix_lt hj]; exact e)
theorem has_yes {l : List Int} {v : Int} {j : Nat} (hj : j < l.length) (h : ix l j = v) : decide (v ∈ l) = true := decide_eq_true (by rw [← h, ix_lt hj]; exact List.getElem_mem hj)

set_option maxHeartbeats 1000000 in
theorem l2Has_any (A : Option Addr) (n c : Nat) (l : List Int) (v : Int) (w : World) (h : Rd w w.heap.size 1 A n (ints l)) (hn : n ≤ 1048576) :
    Calls Try.prog 62 #[.slice A n c, .int .i64 v] w (fun e w' => e = .returned (.bool (decide (v ∈ l))) ∧ w = w') := by
  have hl := h.len
  have HN := Lib.hid (fun (q : ∀ j, j < n → ix l j ≠ v) => has_no (l := l) (v := v) fun j hj => q j (by omega))
  have HY := Lib.hid (fun j (hj : j < n) (e : ix l j = v) => has_yes (l := l) (v := v) (by omega : j < l.length) e)
  obtain ⟨b, hb⟩ : ∃ b, b = decide (v ∈ l) := ⟨_, rfl⟩
  rw [← hb] at HN HY ⊢
  clear hl hb
  go_enter Try.func62, Try.ntmps62
  go_wp2
  go_loopg [5] n (fun m i wr => ∃ k : Nat, k + m = n ∧ i = .int .i64 k ∧ Hid (∀ j, j < k → ix l j ≠ v) ∧ wr = w)
  case atStart => exact ⟨0, by omega, rfl, Lib.hid (fun j hj => absurd hj (by omega)), rfl⟩
  case round =>
    obtain ⟨k, hk, rfl, hj, rfl⟩ := hrel
    by_cases hlt : k < n
    · obtain ⟨ad, rfl, hbl, d0⟩ := h.int hlt
      by_cases q : ix l k = v
      · have q' : (ix l k == v) = true := by simp [q]
        have HF := Lib.hid (HY.out k hlt q)
        go_wp2
        go_ret
        exact ⟨(congrArg (fun b => Ending.returned (.bool b)) HF.out).symm, rfl⟩
      · have q' : (ix l k == v) = false := by simp [q]
        have q'' : Hid (∀ j, j < k + 1 → ix l j ≠ v) := Lib.hid fun j hjk => by
          by_cases z : j < k
          · exact hj.out j z
          · obtain rfl : j = k := by omega
            exact q
        go_wp2
        go_roundg (n - (k + 1))
        case measure => omega
        case rel => exact ⟨k + 1, by omega, by go_num, q'', rfl⟩
    · obtain rfl : k = n := by omega
      have HF := Lib.hid (HN.out hj.out)
      go_wp2
      go_ret
      exact ⟨(congrArg (fun b => Ending.returned (.bool b)) HF.out).symm, rfl⟩

theorem touch_yes {R : Rl} {vars n v : Nat} (h : isTo R vars v n = true) : touchTo R vars n (v + 1) = touchTo R vars n v ++ [(v : Int)] := by show (if _ then _ else _) = _; rw [if_pos h]
theorem touch_no {R : Rl} {vars n v : Nat} (h : isTo R vars v n = false) : touchTo R vars n (v + 1) = touchTo R vars n v := by show (if _ then _ else _) = _; rw [if_neg (by simp [h])]

set_option maxRecDepth 100000 in
set_option maxHeartbeats 8000000 in
theorem touched_spec (s : Sy) (r : Int) (A1 : Option Addr) (n1 c1 : Nat) (A2 : Option Addr) (n2 c2 : Nat) (w : World) (h1 : Mem.rd w w.heap.size [.slice A1 n1 c1] s.vars) (h2 : Mem.rd w w.heap.size [.slice A2 n2 c2] s.rules) :
    Calls Try.prog 32 #[.agg #[.slice A1 n1 c1, .slice A2 n2 c2], .int .i64 r] w (GivesLL w (touchA s r) (touchB s r)) := by
  have BX := Lib.hid (sy_box (w := w) (v1 := .slice A1 n1 c1) (v2 := .slice A2 n2 c2))
  have SV := Lib.hid (fun o => sysValid_spec s A1 n1 c1 A2 n2 c2 (w.alloc o) (Mem.rd_on_alloc h1 o) (Mem.rd_on_alloc h2 o))
  have L1 := rd_len h1
  have L2 := rd_len h2
  have m2 := rd_max h2
  unfold maxLen at m2
  obtain ⟨F, hF⟩ : ∃ F, F = touchA s r := ⟨_, rfl⟩
  obtain ⟨G, hG⟩ : ∃ G, G = touchB s r := ⟨_, rfl⟩
  rw [← hF, ← hG]
  have HF := Lib.hid hF
  have HG := Lib.hid hG
  clear hF hG
  cases hz : sysB s
  · have E1 : Hid (F = []) := Lib.hid (by rw [HF.out]; unfold touchA; rw [hz]; rfl)
    have E2 : Hid (G = []) := Lib.hid (by rw [HG.out]; unfold touchB; rw [hz]; rfl)
    have HZ := Lib.hid hz; clear hz L1 L2
    go_enter Try.func32, Try.ntmps32
    go_wp2_with fail
    refine (SV.out _).mono ?_
    rintro e w2 ⟨rfl, b2⟩
    rw [HZ.out]
    go_wp2
    refine bodyPost_ret (v := .tuple #[.slice none 0 0, .slice none 0 0]) (by simp [results, Try.results32, go_sem]) rfl ?_
    rw [E1.out, E2.out]
    exact ⟨none, 0, 0, none, 0, 0, [], [], rfl, own_none _, own_none _, List.nodup_nil, by simp, below_call b2⟩
  · have I : Hid (inB r 0 (n2 - 1) = ruleIn s r) := Lib.hid (by unfold inB ruleIn; rw [L2]; congr 1; rw [decide_eq_decide]; omega)
    cases hr : ruleIn s r
    · have E1 : Hid (F = []) := Lib.hid (by rw [HF.out]; unfold touchA; rw [hz, hr]; rfl)
      have E2 : Hid (G = []) := Lib.hid (by rw [HG.out]; unfold touchB; rw [hz, hr]; rfl)
      have HZ := Lib.hid hz; clear hz L1 L2
      have HR := Lib.hid hr; clear hr
      go_enter Try.func32, Try.ntmps32
      go_wp2_with fail
      refine (SV.out _).mono ?_
      rintro e w2 ⟨rfl, b2⟩
      rw [HZ.out]
      obtain ⟨B2, x0, x1⟩ := BX.out _ b2
      go_wp2_with fail
      refine (l1In_any _ _ _ _).mono ?_
      rintro e w3 ⟨rfl, rfl⟩
      rw [I.out, HR.out]
      go_wp2
      refine bodyPost_ret (v := .tuple #[.slice none 0 0, .slice none 0 0]) (by simp [results, Try.results32, go_sem]) rfl ?_
      rw [E1.out, E2.out]
      exact ⟨none, 0, 0, none, 0, 0, [], [], rfl, own_none _, own_none _, List.nodup_nil, by simp, B2⟩
    · obtain ⟨kr, rfl, hk⟩ := ruleIn_at hr
      rw [L2] at hk
      obtain ⟨R, hR⟩ : ∃ R, R = el s.rules kr := ⟨_, rfl⟩
      have E1 : Hid (F = R.sets) := Lib.hid (by rw [HF.out, hR]; unfold touchA; rw [hz, hr]; rfl)
      have E2 : Hid (G = touchTo R n1 R.terms.length n1) := Lib.hid (by rw [HG.out, hR]; unfold touchB; rw [hz, hr, L1]; rfl)
      obtain ⟨z1, z2, z3, z4⟩ := touch_sizes hz (by omega : kr < s.rules.length)
      rw [← hR] at z3 z4
      rw [L2] at z2
      obtain ⟨ad, A4, n4, c4, A5, n5, c5, A6, n6, c6, rfl, hbl, d0, d1, d2, r1, r2, r3⟩ := rl_at h2 hk
      rw [← hR] at r1 r2 r3
      have hn5 : n5 ≤ 5 := by have := rd_len r2; omega
      have hn6 : n6 ≤ 5 := by have := rd_len r3; omega
      have hn1 : n1 ≤ 5 := by omega
      have m4 := rd_max r1
      have E2 : Hid (G = touchTo R n1 n6 n1) := Lib.hid (by rw [E2.out, rd_len r3])
      have L5 := Lib.hid (rd_len r2)
      have hblk : (ad.add (kr * 3)).block < w.heap.size := by rw [add_block]; exact hbl
      have UC := Lib.hid (fun W (B : Below w.heap.size w W) => usedBy_spec A4 n4 c4 R.cond n1 W (rd_tms.1 (Mem.rd_on r1 B)).2 m4)
      have ul0 := used_len R.cond n1
      have HZ := Lib.hid hz; clear hz L1 z1 z2 z3 z4 r1 hR
      have HR := Lib.hid hr; clear hr L2
      go_enter Try.func32, Try.ntmps32
      go_wp2_with fail
      refine (SV.out _).mono ?_
      rintro e w2 ⟨rfl, b2⟩
      rw [HZ.out]
      obtain ⟨B2, x0, x1⟩ := BX.out _ b2
      have l2 : w.heap.size < w2.heap.size := by have := b2.size; rw [World.size_alloc] at this; exact this
      have d0 := cell_below B2 hblk d0
      have d1 := cell_below (p := ⟨(ad.add (kr * 3)).block, (ad.add (kr * 3)).off + 1, none⟩) B2 hblk d1
      have d2 := cell_below (p := ⟨(ad.add (kr * 3)).block, (ad.add (kr * 3)).off + 2, none⟩) B2 hblk d2
      go_wp2_with fail
      refine (l1In_any _ _ _ _).mono ?_
      rintro e w3 ⟨rfl, rfl⟩
      rw [I.out, HR.out]
      have RX : Hid (∀ W, Below (w2.alloc (.cells #[.slice A4 n4 c4, .slice A5 n5 c5, .slice A6 n6 c6] 70)).heap.size (w2.alloc (.cells #[.slice A4 n4 c4, .slice A5 n5 c5, .slice A6 n6 c6] 70)) W →
          Below w.heap.size w W ∧ W.cell? ⟨w.heap.size, 0, none⟩ = some (.slice A1 n1 c1) ∧ W.cell? ⟨w2.heap.size, 0, none⟩ = some (.slice A4 n4 c4) ∧ W.cell? ⟨w2.heap.size, 1, none⟩ = some (.slice A5 n5 c5) ∧ W.cell? ⟨w2.heap.size, 2, none⟩ = some (.slice A6 n6 c6) ∧ w2.heap.size + 1 ≤ W.heap.size) := Lib.hid fun W hW => by
        have k0 := (Blk.new w2 #[.slice A4 n4 c4, .slice A5 n5 c5, .slice A6 n6 c6] 70).below hW (by rw [World.size_alloc]; exact Nat.lt_succ_self _)
        have hs := hW.size
        rw [World.size_alloc] at hs
        have q := below_call hW
        exact ⟨B2.trans (q.mono B2.size), cell_below q l2 x0, k0.cell 0, k0.cell 1, k0.cell 2, hs⟩
      have hown0 := World.ownsRow_lit (base := w2.heap.size + 1) (e := 3) (size := 1) (w2.alloc (.cells #[.slice A4 n4 c4, .slice A5 n5 c5, .slice A6 n6 c6] 70)) #[] 0 (by simp) (by unfold maxLen; omega) rfl
      rw [World.size_alloc] at hown0
      go_wp2
      go_loopg [7, 8] n5 (fun m v i wr => ∃ k : Nat, k + m = n5 ∧ i = .int .i64 k ∧ wr.ownsRow (w2.heap.size + 1) 3 1 v k (ints (R.sets.take k)) ∧ Below (w2.alloc (.cells #[.slice A4 n4 c4, .slice A5 n5 c5, .slice A6 n6 c6] 70)).heap.size (w2.alloc (.cells #[.slice A4 n4 c4, .slice A5 n5 c5, .slice A6 n6 c6] 70)) wr)
      case atStart => exact ⟨0, by omega, rfl, hown0, below_alloc _ _⟩
      case round =>
        clear hown0 d0 d1 d2 x0 x1
        obtain ⟨k, hk, rfl, ho, hb⟩ := hrel
        obtain ⟨B, y0, p0, p1, p2, lx⟩ := RX.out _ hb
        by_cases hlt : k < n5
        · obtain ⟨ad5, rfl, hbl5, d5⟩ := ((rd_ints.1 (Mem.rd_below r2 B)).2).int hlt
          have HO := Lib.hid ho
          clear ho
          go_wp2_with (first
            | (at_builtin; refine app_int_at rfl _ _ rfl (w2.heap.size + 1) _ k _ _ _ rfl (HO.out.alloc _) rfl (World.cell?_alloc_at _ _ _ _ (by simp)) (by omega) (by simp; omega) ?_; intro v' w4 ho4 hb4))
          go_roundg (n5 - (k + 1))
          case measure => omega
          case rel => exact ⟨k + 1, by omega, by go_num, by rw [take_el (by rw [L5.out]; omega)]; exact ho4, (hb.alloc hb.size _).trans (hb4.mono (by simp))⟩
        · obtain rfl : k = n5 := by omega
          rw [List.take_of_length_le (by rw [L5.out]; omega)] at ho
          obtain ⟨wo, rfl⟩ : ∃ wo : World, wo = wr := ⟨_, rfl⟩
          have HS := Lib.hid ho
          obtain ⟨As, cs, rfl, _, _⟩ := own_form ho
          have hown1 := World.ownsRow_lit (base := wo.heap.size) (e := 3) (size := 1) wo #[] 0 (Nat.le_refl _) (by unfold maxLen; omega) rfl
          clear ho
          go_wp2
          go_loopg [9, 10, 11, 12] n1 (fun m v i i11 i12 wr => ∃ kv j : Nat, kv + m = n1 ∧ i = .int .i64 kv ∧ wr.ownsRow wo.heap.size 3 1 v j (ints (touchTo R n1 n6 kv)) ∧ j ≤ kv ∧ Below wo.heap.size wo wr)
          case atStart => exact ⟨0, 0, by omega, rfl, hown1, Nat.le_refl _, below_alloc _ _⟩
          case round =>
            clear hown1 y0 p0 p1 p2
            obtain ⟨kv, j, hkv, rfl, ho, hj, hbo⟩ := hrel
            have hbr := hb.trans (hbo.mono hb.size)
            obtain ⟨B, y0, p0, p1, p2, lx⟩ := RX.out _ hbr
            have HO := Lib.hid ho
            clear ho
            by_cases hlv : kv < n1
            · obtain ⟨wq, rfl⟩ : ∃ wq : World, wq = wr := ⟨_, rfl⟩
              have UK := Lib.hid (UC.out wq B)
              obtain ⟨u, hu⟩ : ∃ u, u = (usedL R.cond n1).length := ⟨_, rfl⟩
              have HU := Lib.hid hu
              have hu40 : u ≤ 40 := by omega
              clear hu
              go_wp2_with fail
              refine UK.out.mono ?_
              rintro e w5 ⟨v5, rfl, o5, b5⟩
              rw [← HU.out] at o5
              obtain ⟨A8, c8, rfl, _, r8⟩ := own_form o5
              have LC := Lib.hid (l2Has_any A8 u c8 (usedL R.cond n1) kv w5 r8 (by omega))
              have hb5 := hbr.trans (b5.mono hbr.size)
              have O5 := Lib.hid (own_below HO.out b5)
              have bo5 := hbo.trans (b5.mono hbo.size)
              clear o5 r8 y0 p0 p1 p2 B
              obtain ⟨B, y0, p0, p1, p2, lx⟩ := RX.out _ hb5
              go_wp2_with fail
              refine LC.out.mono ?_
              rintro e w6 ⟨rfl, rfl⟩
              go_wp2
              go_loopg [11, 12] n6 (fun m b i wr => ∃ q : Nat, q + m = n6 ∧ i = .int .i64 q ∧ b = .bool (isTo R n1 kv q) ∧ Below w5.heap.size w5 wr)
              case atStart => exact ⟨0, by omega, rfl, rfl, Below.refl _ _⟩
              case round =>
                clear y0 p0 p1 p2 B
                obtain ⟨q, hq, rfl, rfl, hbq⟩ := hrel
                have hbr6 := hb5.trans (hbq.mono hb5.size)
                obtain ⟨B, y0, p0, p1, p2, lx⟩ := RX.out _ hbr6
                by_cases hlq : q < n6
                · cases hi : isTo R n1 kv q
                  · have NX : Hid (isTo R n1 kv (q + 1) = decide ((kv : Int) ∈ usedL (el R.terms q) n1)) := Lib.hid (by show (isTo R n1 kv q || useIn _ _ _) = _; rw [hi]; rfl)
                    obtain ⟨ad6, A7, n7, c7, rfl, hbl6, d6, r7⟩ := ll_at (Mem.rd_below r3 B) hlq
                    have UT := Lib.hid (usedBy_spec A7 n7 c7 (el R.terms q) n1 wr.drew (rd_tms.1 (Mem.rd_drew (Mem.rd_more r7 B.size))).2 (rd_max r7))
                    obtain ⟨x, hx⟩ : ∃ x, x = (usedL (el R.terms q) n1).length := ⟨_, rfl⟩
                    have HX := Lib.hid hx
                    have hx40 : x ≤ 40 := by have := used_len (el R.terms q) n1; omega
                    have hblB : (ad6.add q).block < wr.heap.size := by rw [add_block]; exact Nat.lt_of_lt_of_le hbl6 B.size
                    have lw2 : w2.heap.size < wr.heap.size := lx
                    have lw : w.heap.size < wr.heap.size := Nat.lt_trans l2 lx
                    have s2 : wr.drew.cell? ⟨w2.heap.size, 2, none⟩ = some (.slice (some ad6) n6 c6) := p2
                    have s6 : wr.drew.cell? (ad6.add q) = some (.slice A7 n7 c7) := d6
                    have s0 : wr.drew.cell? ⟨w.heap.size, 0, none⟩ = some (.slice A1 n1 c1) := y0
                    clear hx r7 hi
                    go_wp2
                    go_region_held3 (fun w' => w'.cell? ⟨w2.heap.size, 2, none⟩ = some (.slice (some ad6) n6 c6) ∧ w'.cell? (ad6.add q) = some (.slice A7 n7 c7) ∧ w'.cell? ⟨w.heap.size, 0, none⟩ = some (.slice A1 n1 c1))
                      (first | with_reducible exact ⟨s2, s6, s0⟩ | with_reducible exact ⟨t2, t6, t0⟩ | fail)
                      (first
                        | (go_at_call 63; refine (UT.out).mono ?_; rintro e w7 ⟨v7, rfl, o7, b7⟩
                           rw [← HX.out] at o7
                           obtain ⟨A9, c9, rfl, _, r9⟩ := own_form o7
                           have LT := Lib.hid (l2Has_any A9 x c9 (usedL (el R.terms q) n1) kv w7 r9 (by omega))
                           have t2 := cell_below b7 (p := ⟨w2.heap.size, 2, none⟩) lw2 s2
                           have t6 := cell_below b7 (p := ad6.add q) hblB s6
                           have t0 := cell_below b7 (p := ⟨w.heap.size, 0, none⟩) lw s0
                           have b7n : Below wr.heap.size wr w7 := ⟨b7.os, b7.tape, b7.output, b7.size, b7.block⟩
                           clear o7 r9)
                        | (go_at_call 62; refine LT.out.mono ?_; rintro e w8 ⟨rfl, rfl⟩))
                    go_wp2
                    go_roundg (n6 - (q + 1))
                    case measure => omega
                    case rel => exact ⟨q + 1, by omega, by go_num, by rw [NX.out], hbq.trans (b7n.mono hbq.size)⟩
                  · have NX : Hid (isTo R n1 kv (q + 1) = true) := Lib.hid (by show (isTo R n1 kv q || _) = true; rw [hi]; rfl)
                    go_wp2
                    go_quiet (fail)
                    go_wp2
                    go_roundg (n6 - (q + 1))
                    case measure => omega
                    case rel => exact ⟨q + 1, by omega, by go_num, by rw [NX.out], hbq.trans ⟨rfl, rfl, rfl, Nat.le_refl _, fun _ _ => rfl⟩⟩
                · obtain rfl : q = n6 := by omega
                  cases hi : isTo R n1 kv q
                  · have NX : Hid (touchTo R n1 q (kv + 1) = touchTo R n1 q kv) := Lib.hid (touch_no hi)
                    go_wp2
                    go_roundg (n1 - (kv + 1))
                    case measure => omega
                    case rel => exact ⟨kv + 1, j, by omega, by go_num, by rw [NX.out]; exact own_below O5.out hbq, by omega, bo5.trans (hbq.mono bo5.size)⟩
                  · have NX : Hid (touchTo R n1 q (kv + 1) = touchTo R n1 q kv ++ [(kv : Int)]) := Lib.hid (touch_yes hi)
                    have O6 := Lib.hid (own_below O5.out hbq)
                    have bo6 := bo5.trans (hbq.mono bo5.size)
                    go_wp2_with (first
                      | (at_builtin; refine app_int_at rfl _ _ rfl wo.heap.size _ j _ _ _ rfl (O6.out.alloc _) rfl (World.cell?_alloc_at _ _ _ _ (by simp)) (by omega) (by have := bo6.size; simp; omega) ?_; intro v' w7 ho7 hb7))
                    go_roundg (n1 - (kv + 1))
                    case measure => omega
                    case rel => exact ⟨kv + 1, j + 1, by omega, by go_num, by rw [NX.out]; exact ho7, by omega, (bo6.alloc bo6.size _).trans hb7⟩
            · obtain rfl : kv = n1 := by omega
              have OS := own_below HS.out hbo
              have OG := HO.out
              have hjl : j = G.length := by have := OG.1; rw [len_ints] at this; rw [E2.out]; omega
              have hkl : k = F.length := by rw [E1.out]; exact L5.out.symm
              rw [← E1.out] at OS
              rw [hjl, ← E2.out] at OG
              subst hkl
              obtain ⟨Ag, cg, rfl, _, _⟩ := own_form OG
              obtain ⟨f1, om1', nd1, lo1⟩ := mem_ints (by rw [← E1.out] at HS; exact HS.out) (by unfold maxLen; omega)
              have hi1 := Mem.own_lt om1'
              have om1 := Mem.own_below om1' hbo
              obtain ⟨f2, om2, nd2, lo2⟩ := mem_ints OG (by unfold maxLen; omega)
              have hsz : w.heap.size ≤ w2.heap.size + 1 := Nat.le_succ_of_le (Nat.le_of_lt l2)
              have hso : w.heap.size ≤ wo.heap.size := Nat.le_trans (Nat.le_of_lt l2) (by have := hb.size; rw [World.size_alloc] at this; omega)
              go_wp2
              refine bodyPost_ret (v := .tuple #[.slice As F.length cs, .slice Ag G.length cg]) (by simp [results, Try.results32, go_sem]) rfl ?_
              refine ⟨As, _, cs, Ag, _, cg, f1, f2, rfl, om1, om2, nodup_two nd1 nd2 hi1 lo2, fun x hx => ?_, B⟩
              rcases List.mem_append.1 hx with hx | hx
              · exact Nat.le_trans hsz (lo1 x hx)
              · exact Nat.le_trans hso (lo2 x hx)
end Go.Proofs.Ytpaagplopefklaa
