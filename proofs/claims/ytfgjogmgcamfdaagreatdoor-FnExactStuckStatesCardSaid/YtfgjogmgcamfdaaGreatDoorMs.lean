/- How many steps it is from marked states, of the model. -/
import Derived.Test.YtfgjogmgcamfdaaGreatDoorPf
import Derived.Test.YtfgjogmgcamfdaaGreatDoorNnS
namespace Go.Proofs.YtfgjogmgcamfdaaGreatDoor
open Go.RowKit

section
variable {W : World} {base q cap z : Nat} {f : Nat → Int}
theorem outR_cell (h : W.ownsRow base 3 1 (.slice (some ⟨q, 0, none⟩) z cap) z (ints (lsR f z))) {x : Nat} (hx : x < z) : W.cell? ⟨q, x, none⟩ = some (.int .i64 (f x)) := by
  rw [h.cellAt x (by rw [Nat.mul_one]; exact hx)]
  unfold ints
  rw [List.getElem?_map, lsR_at f hx]; rfl
theorem outR_set (h : W.ownsRow base 3 1 (.slice (some ⟨q, 0, none⟩) z cap) z (ints (lsR f z))) {x : Nat} (v : Int) (hx : x < z) : (W.setCell ⟨q, x, none⟩ (.int .i64 v)).ownsRow base 3 1 (.slice (some ⟨q, 0, none⟩) z cap) z (ints (lsR (upd f x v) z)) := by
  have := (h.stored x (.int .i64 v)).1
  rw [ints_set, lsR_set f v hx] at this
  exact this
end
/-- What stands behind d rounds; b: the last one told something. -/
def RoundsOk (E : Nat → Nat → Bool) (M : Nat → Bool) (z d : Nat) (b : Bool) : Prop :=
  (∀ k, k < d → (b = true ∨ k + 1 < d) → ∃ x, x < z ∧ dst E M z (k + 1) x ≠ dst E M z k x) ∧ (b = false → ∃ d', d = d' + 1 ∧ ∀ x, x < z → dst E M z (d' + 1) x = dst E M z d' x)
theorem rounds_zero (E : Nat → Nat → Bool) (M : Nat → Bool) (z : Nat) : RoundsOk E M z 0 true := ⟨fun k hk => absurd hk (by omega), fun h => by cases h⟩
theorem rounds_le {E : Nat → Nat → Bool} {M : Nat → Bool} {z d : Nat} (h : RoundsOk E M z d true) : d ≤ z :=
  Nat.le_trans (dst_rounds fun k hk => h.1 k hk (.inl rfl)) (cnt_le _ _)
theorem rounds_next {E : Nat → Nat → Bool} {M : Nat → Bool} {z d : Nat} {b : Bool} (h : RoundsOk E M z d true) (hb : b = true ↔ chg (dst E M z d) (dst E M z (d + 1)) z) : RoundsOk E M z (d + 1) b := by
  refine ⟨fun k hk hq => ?_, fun e => ⟨d, rfl, chg_none fun c => by rw [hb.2 c] at e; cases e⟩⟩
  by_cases e : k = d
  · subst e
    rcases hq with hq | hq
    · exact chg_some (hb.1 hq)
    · omega
  · exact h.1 k (by omega) (.inl rfl)
theorem rounds_end {E : Nat → Nat → Bool} {M : Nat → Bool} {z d : Nat} (h : RoundsOk E M z d false) : ∀ x, x < z → dst E M z d x = dst E M z z x := by
  obtain ⟨d', rfl, hs⟩ := h.2 rfl
  intro x hx
  rw [hs x hx]
  exact dst_end (fun k hk => h.1 k (by omega) (.inr (by omega))) hs x hx

set_option maxRecDepth 100000 in
set_option maxHeartbeats 8000000 in
theorem l5Steps_any (L : List (List Int)) (M : Nat → Bool) (A : Option Addr) (z c g : Nat) (w : World) (h : Mem.rd w w.heap.size [.slice A z c] L) (hM : Blk w g 4 (bools M z)) (hz : z ≤ 400) (h0 : 0 < z)
    (hr : ∀ n, n < z → ∀ k, k < (el L n).length → 0 ≤ ix (el L n) k ∧ ix (el L n) k < z) :
    Calls Tryz.prog 58 #[.slice A z c, .slice (some ⟨g, 0, none⟩) z z] w (GivesInts w (lsR (dst (rowE L) M z z) z)) := by
  have HM := Lib.hid hM
  have HG := Lib.hid hM.lt
  have HR := Lib.hid hr
  have HN : Hid (∀ n, n < z → ∀ k, k < (el L n).length → 0 ≤ ix (el L n) k) := Lib.hid fun n hn k hk => (hr n hn k hk).1
  have HZ4 := Lib.hid hz
  have HZ0 := Lib.hid h0
  have hown0 := World.ownsRow_lit (base := w.heap.size) (e := 3) (size := 1) w #[] 0 (Nat.le_refl _) (by unfold maxLen; omega) rfl
  obtain ⟨ad, _, _, _, rfl, _⟩ := ll_at h h0
  have HA := Lib.hid (fun n (hn : n < z) => ll_at h hn)
  obtain ⟨E, hE⟩ : ∃ E, E = rowE L := ⟨_, rfl⟩
  rw [← hE]
  have HE := Lib.hid hE
  have F0 : Hid (∀ x, dst E M z 0 x = if M x then 0 else -1) := Lib.hid fun x => rfl
  obtain ⟨f0, hf0⟩ : ∃ f0, f0 = dst E M z 0 := ⟨_, rfl⟩
  rw [← hf0] at F0
  have HF0 := Lib.hid hf0
  clear hM hr hE hf0
  go_enter Tryz.func58, Tryz.ntmps58
  go_wp2
  go_loopg [5, 6] z (fun m v i wr => ∃ k : Nat, k + m = z ∧ i = .int .i64 k ∧ Hid (wr.ownsRow w.heap.size 3 1 v k (ints (lsR f0 k))) ∧ Hid (Below w.heap.size w wr))
  case atStart => exact ⟨0, by omega, rfl, Lib.hid hown0, Lib.hid (below_alloc _ _)⟩
  case round =>
    clear hown0
    obtain ⟨k, hk, rfl, ho, hb⟩ := hrel
    by_cases hlt : k < z
    · have hc : wr.cell? ⟨g, k, none⟩ = some (.bool (M k)) := by rw [(HM.out.below hb.out HG.out).cell]; exact bools_at M hlt
      have hkz : (k : Int) < (z : Int) := by omega
      cases hp : M k
      · rw [hp] at hc
        have NX : Hid (lsR f0 (k + 1) = lsR f0 k ++ [-1]) := Lib.hid (by rw [lsR_succ, F0.out, hp]; rfl)
        clear hp
        go_wp2_with (first
          | (at_builtin; refine app_int_at rfl _ _ rfl w.heap.size _ k _ _ _ rfl (ho.out.alloc _) rfl (World.cell?_alloc_at _ _ _ _ (by simp)) (by omega) (by have := hb.out.size; simp; omega) ?_; intro v' w6 ho6 hb6))
        go_roundg (z - (k + 1))
        case measure => omega
        case rel => exact ⟨k + 1, by omega, by go_num, by rw [NX.out]; exact Lib.hid ho6, Lib.hid ((hb.out.alloc hb.out.size _).trans hb6)⟩
      · rw [hp] at hc
        have NX : Hid (lsR f0 (k + 1) = lsR f0 k ++ [0]) := Lib.hid (by rw [lsR_succ, F0.out, hp]; rfl)
        clear hp
        go_wp2_with (first
          | (at_builtin; refine app_int_at rfl _ _ rfl w.heap.size _ k _ _ _ rfl (ho.out.alloc _) rfl (World.cell?_alloc_at _ _ _ _ (by simp)) (by omega) (by have := hb.out.size; simp; omega) ?_; intro v' w6 ho6 hb6))
        go_roundg (z - (k + 1))
        case measure => omega
        case rel => exact ⟨k + 1, by omega, by go_num, by rw [NX.out]; exact Lib.hid ho6, Lib.hid ((hb.out.alloc hb.out.size _).trans hb6)⟩
    · have ek : k = z := by omega
      have nk : ¬ (k : Int) < (z : Int) := by omega
      have O4 := ho.out
      rw [ek] at O4
      obtain ⟨q, cap, rfl⟩ := row_form O4 HZ0.out
      rw [HF0.out] at O4
      have O4 := Lib.hid O4
      have B4 := hb
      have R4 := Lib.hid (rounds_zero E M z)
      clear ho hb ek F0
      go_wp2
      go_loopg [7, 8, 9, 10] (z + 1) (fun m v7 v8 i9 i10 wr => ∃ (d : Nat) (b : Bool), d + m = z + 1 ∧ v7 = .bool b ∧ v8 = .int .i64 d ∧ Hid (wr.ownsRow w.heap.size 3 1 (.slice (some ⟨q, 0, none⟩) z cap) z (ints (lsR (dst E M z d) z))) ∧ Hid (Below w.heap.size w wr) ∧ Hid (RoundsOk E M z d b))
      case atStart => exact ⟨0, true, by omega, rfl, rfl, O4, B4, R4⟩
      case round =>
        clear O4 B4 R4 nk hk
        obtain ⟨d, b, hd, rfl, rfl, ho, hb, hR⟩ := hrel
        cases b
        · have O5 := ho.out
          rw [lsR_congr (rounds_end hR.out)] at O5
          have O5 := Lib.hid O5
          clear ho hR
          go_wp2
          go_ret
          refine ⟨_, rfl, ?_, hb.out⟩
          rw [lsR_len]
          exact O5.out
        · have hdz := rounds_le hR.out
          have hd4 : d ≤ 400 := Nat.le_trans hdz HZ4.out
          have NX : Hid (midR L d (dst E M z d) z = dst E M z (d + 1)) := Lib.hid (by rw [HE.out]; exact dst_mid HN.out)
          have LW : Hid (∀ x, -1 ≤ dst E M z d x) := Lib.hid fun x => dst_low x
          have RN := Lib.hid (fun b => rounds_next (b := b) hR.out)
          clear hR
          obtain ⟨f1, hf1⟩ : ∃ f1, f1 = dst E M z (d + 1) := ⟨_, rfl⟩
          obtain ⟨f, hf⟩ : ∃ f, f = dst E M z d := ⟨_, rfl⟩
          rw [← hf1] at NX RN
          rw [← hf] at NX RN LW ho
          have HF1 := Lib.hid hf1
          clear hf1 hf
          have LO := Lib.hid (fun n (hn : n ≤ z) => midR_low (L := L) (d := d) LW.out HN.out hn)
          have KP := Lib.hid (fun n (hn : n ≤ z) x (hx : 0 ≤ f x) => midR_keep (L := L) (d := d) LW.out HN.out hn hx)
          have O5 := ho
          have B5 := hb
          have C5 : Hid (false = true ↔ chg f (midR L d f 0) z) := Lib.hid ⟨fun e => (by cases e), fun c => absurd c (chg_same fun x _ hx => hx)⟩
          clear ho hb
          go_wp2
          go_loopg [7, 9, 10] z (fun m v7 i9 i10 ws => ∃ (n : Nat) (b : Bool), n + m = z ∧ v7 = .bool b ∧ i9 = .int .i64 n ∧ Hid (ws.ownsRow w.heap.size 3 1 (.slice (some ⟨q, 0, none⟩) z cap) z (ints (lsR (midR L d f n) z))) ∧ Hid (Below w.heap.size w ws) ∧ Hid (b = true ↔ chg f (midR L d f n) z))
          case atStart => exact ⟨0, false, by omega, rfl, rfl, O5, B5, C5⟩
          case round =>
            clear O5 B5 C5
            obtain ⟨n, b, hn, rfl, rfl, ho, hb, hc⟩ := hrel
            by_cases hlt : n < z
            · have hnz : (n : Int) < (z : Int) := by omega
              obtain ⟨adk, A2, n2, c2, eA, hblk, d0, r2⟩ := HA.out n hlt
              injection eA with eA
              subst eA
              have l2 := rd_len r2
              have mx2 := rd_max r2
              unfold maxLen at mx2
              have HMX := Lib.hid mx2
              have HL2 := Lib.hid l2
              have DX := Lib.hid (fun W (B : Below w.heap.size w W) => cell_below B (p := ad.add n) (by rw [add_block]; exact hblk) d0)
              have RX := Lib.hid (fun W (B : Below w.heap.size w W) => Mem.rd_below r2 B)
              have HRn := Lib.hid (HR.out n hlt)
              have Y1 : Hid (midR L d f n n = d → midR L d f (n + 1) = inR (el L n) d (midR L d f n) n2) := Lib.hid (by rw [← l2]; exact midR_yes)
              have Y2 : Hid (¬ midR L d f n n = d → midR L d f (n + 1) = midR L d f n) := Lib.hid midR_no
              have LOn := Lib.hid (LO.out n (by omega))
              have KPn := Lib.hid (KP.out n (by omega))
              have HIN := Lib.hid (fun (i : Nat) (h : inR (el L n) d (midR L d f n) i (ix (el L n) i).toNat < 0) => inR_yes h)
              have HI0 := Lib.hid (fun (i : Nat) (h : ¬ inR (el L n) d (midR L d f n) i (ix (el L n) i).toNat < 0) => inR_no h)
              have HZr : Hid (inR (el L n) d (midR L d f n) 0 = midR L d f n) := Lib.hid rfl
              clear d0 r2 l2 mx2 hblk
              obtain ⟨row, hrow⟩ : ∃ row, row = el L n := ⟨_, rfl⟩
              obtain ⟨g1, hg1⟩ : ∃ g1, g1 = midR L d f (n + 1) := ⟨_, rfl⟩
              obtain ⟨gg, hgg⟩ : ∃ gg, gg = midR L d f n := ⟨_, rfl⟩
              rw [← hgg] at Y1 Y2 LOn HIN HI0 HZr ho hc
              simp only [← hgg] at KPn
              rw [← hg1] at Y1 Y2
              rw [← hrow] at Y1 HIN HI0 HZr HL2 RX HRn
              have HG1 := Lib.hid hg1
              clear hrow hg1 hgg
              have hcn := outR_cell ho.out hlt
              obtain ⟨wo, rfl⟩ : ∃ wo : World, wo = wr := ⟨_, rfl⟩
              by_cases e : gg n = d
              · have G1 := Y1.out e
                have KN : Hid (∀ i, inR row d gg i n = d) := Lib.hid fun i => by rw [inR_keep LOn.out i (by rw [e]; omega), e]
                have G1 := Lib.hid G1
                have CH : Hid (∀ i x, 0 ≤ f x → inR row d gg i x = f x) := Lib.hid fun i x hx => by
                  have := KPn.out x hx
                  rw [inR_keep LOn.out i (by rw [this]; exact hx), this]
                have O6 : Hid (wo.ownsRow w.heap.size 3 1 (.slice (some ⟨q, 0, none⟩) z cap) z (ints (lsR (inR row d gg 0) z))) := Lib.hid (by rw [HZr.out]; exact ho.out)
                have B6 := hb
                have C6 : Hid (b = true ↔ chg f (inR row d gg 0) z) := Lib.hid (by rw [HZr.out]; exact hc.out)
                clear ho hb hc e hcn Y1 Y2
                go_wp2
                go_loopg [7, 10] n2 (fun m v7 i10 wq => ∃ (i : Nat) (b : Bool), i + m = n2 ∧ v7 = .bool b ∧ i10 = .int .i64 i ∧ Hid (wq.ownsRow w.heap.size 3 1 (.slice (some ⟨q, 0, none⟩) z cap) z (ints (lsR (inR row d gg i) z))) ∧ Hid (Below w.heap.size w wq) ∧ Hid (b = true ↔ chg f (inR row d gg i) z))
                case atStart => exact ⟨0, b, by omega, rfl, rfl, O6, B6, C6⟩
                case round =>
                  clear O6 B6 C6
                  obtain ⟨i, b, hi, rfl, rfl, ho, hb, hc⟩ := hrel
                  have dq := DX.out _ hb.out
                  have hmx := HMX.out
                  have cn := outR_cell ho.out hlt
                  rw [KN.out] at cn
                  by_cases hit : i < n2
                  · have hin : (i : Int) < (n2 : Int) := by omega
                    obtain ⟨adr, e1, hblr, dr⟩ := ((rd_ints.1 (RX.out _ hb.out)).2).int hit
                    subst e1
                    obtain ⟨x, hx⟩ : ∃ x : Nat, ix row i = x := ⟨(ix row i).toNat, by have := HRn.out i (by rw [HL2.out]; exact hit); omega⟩
                    have hx4 : x < z := by have := HRn.out i (by rw [HL2.out]; exact hit); omega
                    have hx4' : (x : Int) < (z : Int) := by omega
                    have hxn : (ix row i).toNat = x := by omega
                    have I1 := HIN.out i
                    have I0 := HI0.out i
                    rw [hxn] at I1 I0
                    rw [hx] at dr
                    have cx := outR_cell ho.out hx4
                    by_cases q1 : inR row d gg i x < 0
                    · have NI := I1 q1
                      have fx : f x < 0 := by
                        by_cases p : 0 ≤ f x
                        · rw [CH.out i x p] at q1; omega
                        · omega
                      have CC : Hid (chg f (inR row d gg (i + 1)) z) := Lib.hid ⟨x, hx4, fx, by rw [NI, upd_at]; omega⟩
                      have OS := Lib.hid (outR_set ho.out (((d + 1 : Nat) : Int)) hx4)
                      have fz := ho.out.frozenAt x
                      have NI := Lib.hid NI
                      have QB := Lib.hid ((ho.out.lt q rfl).1)
                      clear I1 I0 hx hxn fx ho hc
                      go_wp2
                      go_roundg (n2 - (i + 1))
                      case measure => omega
                      case rel => exact ⟨i + 1, true, by omega, rfl, by go_num, by rw [NI.out]; exact OS, Lib.hid (hb.out.setCell QB.out _), Lib.hid ⟨fun _ => CC.out, fun _ => rfl⟩⟩
                    · have NI := Lib.hid (I0 (by omega))
                      clear I1 I0 hx hxn
                      go_wp2
                      go_roundg (n2 - (i + 1))
                      case measure => omega
                      case rel => exact ⟨i + 1, b, by omega, rfl, by go_num, by rw [NI.out]; exact ho, hb, by rw [NI.out]; exact hc⟩
                  · have ei : i = n2 := by omega
                    have nin : ¬ (i : Int) < (n2 : Int) := by omega
                    have O7 : Hid (wr.ownsRow w.heap.size 3 1 (.slice (some ⟨q, 0, none⟩) z cap) z (ints (lsR g1 z))) := Lib.hid (by rw [G1.out, ← ei]; exact ho.out)
                    have C7 : Hid (b = true ↔ chg f g1 z) := Lib.hid (by rw [G1.out, ← ei]; exact hc.out)
                    clear ho hc ei
                    go_wp2
                    go_roundg (z - (n + 1))
                    case measure => omega
                    case rel => exact ⟨n + 1, b, by omega, rfl, by go_num, by rw [← HG1.out]; exact O7, hb, by rw [← HG1.out]; exact C7⟩
              · have G1 := Y2.out e
                have e' : (gg n == d) = false := by simp [e]
                have O7 : Hid (wo.ownsRow w.heap.size 3 1 (.slice (some ⟨q, 0, none⟩) z cap) z (ints (lsR g1 z))) := Lib.hid (by rw [G1]; exact ho.out)
                have C7 : Hid (b = true ↔ chg f g1 z) := Lib.hid (by rw [G1]; exact hc.out)
                have dq := DX.out _ hb.out
                have hmx := HMX.out
                clear Y1 Y2 G1 ho hc e
                go_wp2
                go_loopg [7, 10] 0 (fun m v7 i10 wq => m = 0 ∧ v7 = .bool b ∧ i10 = .int .i64 0 ∧ wq = wo)
                case atStart => exact ⟨rfl, rfl, rfl, rfl⟩
                case round =>
                  obtain ⟨_, rfl, rfl, rfl⟩ := hrel
                  by_cases hit : 0 < n2
                  · have hin : (0 : Int) < (n2 : Int) := by omega
                    go_wp2
                    go_roundg (z - (n + 1))
                    case measure => omega
                    case rel => exact ⟨n + 1, b, by omega, rfl, by go_num, by rw [← HG1.out]; exact O7, hb, by rw [← HG1.out]; exact C7⟩
                  · have nin : ¬ (0 : Int) < (n2 : Int) := by omega
                    go_wp2
                    go_roundg (z - (n + 1))
                    case measure => omega
                    case rel => exact ⟨n + 1, b, by omega, rfl, by go_num, by rw [← HG1.out]; exact O7, hb, by rw [← HG1.out]; exact C7⟩
            · have en : n = z := by omega
              have nnz : ¬ (n : Int) < (z : Int) := by omega
              have O7 : Hid (wr.ownsRow w.heap.size 3 1 (.slice (some ⟨q, 0, none⟩) z cap) z (ints (lsR f1 z))) := Lib.hid (by have hh := ho.out; rw [en, NX.out] at hh; exact hh)
              have R7 : Hid (RoundsOk E M z (d + 1) b) := Lib.hid (RN.out b (by have hh := hc.out; rw [en, NX.out] at hh; exact hh))
              clear ho hc en
              go_wp2
              go_roundg (z + 1 - (d + 1))
              case measure => omega
              case rel => exact ⟨d + 1, b, by omega, rfl, by go_num, by rw [← HF1.out]; exact O7, hb, by exact R7⟩
end Go.Proofs.YtfgjogmgcamfdaaGreatDoor
