/- Systems: the model's SizeOf and FirstState. -/
import Derived.Test.YtnhjcokmajejcaaSysE
import Derived.Test.YtnhjcokmajejcaaIntApp
import Derived.Test.YtnhjcokmajejcaaEqSy
import Derived.Test.YtnhjcokmajejcaaSysC
import Derived.Deep.RegionHeld3
namespace Go.Proofs.Ytnhjcokmajejcaa
open Go.RowKit

set_option maxRecDepth 100000 in
set_option maxHeartbeats 4000000 in
theorem sysValid_spec (s : Sy) (A1 : Option Addr) (n1 c1 : Nat) (A2 : Option Addr) (n2 c2 : Nat) (w : World) (h1 : Mem.rd w w.heap.size [.slice A1 n1 c1] s.vars) (h2 : Mem.rd w w.heap.size [.slice A2 n2 c2] s.rules) :
    Calls Try.prog 110 #[.agg #[.slice A1 n1 c1, .slice A2 n2 c2]] w (GivesBool w (sysB s)) := by
  have m1 := rd_max h1
  have m2 := rd_max h2
  unfold maxLen at m1 m2
  have L1 := rd_len h1
  have L2 := rd_len h2
  cases q : inB n1 1 5
  · have HF := Lib.hid (sys_short (s := s) (by rw [L1, L2]; have := inB_not.1 q; omega))
    have Q := Lib.hid q
    clear L1 L2 q
    go_enter Try.func110, Try.ntmps110
    go_wp2_with fail
    refine (l1In_any _ _ _ _).mono ?_
    rintro e w2 ⟨rfl, rfl⟩
    rw [Q.out]
    go_wp2
    go_ret
    exact ⟨(congrArg (fun b => Ending.returned (.bool b)) HF.out).symm, below_alloc _ _⟩
  have Q := Lib.hid q
  have g12 := inB_iff.1 q
  clear q
  by_cases q3 : 8 < n2
  · have HF := Lib.hid (sys_short (s := s) (by rw [L1, L2]; omega))
    clear L1 L2 g12
    go_enter Try.func110, Try.ntmps110
    go_wp2_with fail
    refine (l1In_any _ _ _ _).mono ?_
    rintro e w2 ⟨rfl, rfl⟩
    rw [Q.out]
    go_wp2
    go_ret
    exact ⟨(congrArg (fun b => Ending.returned (.bool b)) HF.out).symm, below_alloc _ _⟩
  have g1 : 1 ≤ n1 := by omega
  have g2 : n1 ≤ 5 := by omega
  have g3 : n2 ≤ 8 := by omega
  clear g12 q3
  have hc1 : Hid (∀ k, k < n1 → varB (el s.vars k) = false → sysB s = false) := Lib.hid fun k hk h => sys_var (by rw [L1]; exact hk) h
  have hc2 : Hid (∀ k, k < n2 → ruleB (el s.rules k) n1 = false → sysB s = false) := Lib.hid fun k hk h => sys_rule (by rw [L2]; exact hk) (by rw [L1]; exact h)
  have hc3 : Hid (allTo (fun i => varB (el s.vars i)) n1 = true → allTo (fun i => ruleB (el s.rules i) n1) n2 = true → sysB s = decide (prodTo s.vars n1 ≤ 400)) :=
    Lib.hid fun a b => by
      have := sys_end (s := s) (by rw [L1, L2]; exact ⟨g1, g2, g3⟩) (by rw [L1]; exact a) (by rw [L1, L2]; exact b)
      rw [this]; unfold sizeB; rw [L1]
  clear L1 L2
  have BX := Lib.hid (sy_box (w := w) (v1 := .slice A1 n1 c1) (v2 := .slice A2 n2 c2))
  go_enter Try.func110, Try.ntmps110
  go_wp2_with fail
  refine (l1In_any _ _ _ _).mono ?_
  rintro e w2 ⟨rfl, rfl⟩
  rw [Q.out]
  go_wp2
  go_loopg [3, 4] n1 (fun m x i wr => ∃ k : Nat, k + m = n1 ∧ i = .int .i64 k ∧ x = .int .i64 (prodTo s.vars k) ∧ Hid (allTo (fun i => varB (el s.vars i)) k = true) ∧ Below (w.alloc (.cells #[.slice A1 n1 c1, .slice A2 n2 c2] 33)).heap.size (w.alloc (.cells #[.slice A1 n1 c1, .slice A2 n2 c2] 33)) wr)
  case atStart => exact ⟨0, by omega, rfl, rfl, Lib.hid rfl, Below.refl _ _⟩
  case round =>
    obtain ⟨k, hk, rfl, rfl, ha, hb⟩ := hrel
    obtain ⟨B, x0, x1⟩ := BX.out _ hb
    by_cases hlt : k < n1
    · obtain ⟨ad, rfl, hbl, d0, d1, d2⟩ := vr_at (Mem.rd_below h1 B) hlt
      have HO := Lib.hid (fun W => l2Var_any (el s.vars k) W)
      unfold Vr.v at HO
      cases hz : varB (el s.vars k)
      · have HF := Lib.hid (hc1.out k hlt hz)
        have HZ := Lib.hid hz; clear hz
        go_wp2_with fail
        refine (HO.out _).mono ?_
        rintro e w2 ⟨rfl, b2⟩
        rw [HZ.out]
        go_wp2
        go_ret
        exact ⟨(congrArg (fun b => Ending.returned (.bool b)) HF.out).symm, B.trans (b2.mono B.size)⟩
      · have hf : Hid (allTo (fun i => varB (el s.vars i)) (k + 1) = true) := Lib.hid (by show (allTo _ k && varB (el s.vars k)) = true; rw [ha.out, hz]; rfl)
        have hvk := varB_iff.1 hz
        have hp := prod_bd5 (l := s.vars) (k := k) ha.out (by omega)
        have HP : Hid (prodTo s.vars (k + 1) = prodTo s.vars k * ((el s.vars k).high - (el s.vars k).low + 1)) := Lib.hid rfl
        have HZ := Lib.hid hz; clear hz
        generalize el s.vars k = v at *
        obtain ⟨a, b, c⟩ := v
        dsimp only at HO HP hvk d0 d1 d2
        generalize prodTo s.vars k = p at *
        have hb1 : p * (b - a + 1) ≤ 3200000 * 20 := Int.mul_le_mul (by omega) (by omega) (by omega) (by omega)
        have hb0 : 0 ≤ p * (b - a + 1) := Int.mul_nonneg (by omega) (by omega)
        have wv1 : IntKind.i64.wrap (b - a) = b - a := IntWalk.i64_in _ (by omega)
        have wv2 : IntKind.i64.wrap (b - a + 1) = b - a + 1 := IntWalk.i64_in _ (by omega)
        have wv3 : IntKind.i64.wrap (p * (b - a + 1)) = p * (b - a + 1) := IntWalk.i64_in _ (by omega)
        go_wp2_with fail
        refine (HO.out _).mono ?_
        rintro e w2 ⟨rfl, b2⟩
        rw [HZ.out]
        obtain ⟨p0, p1, p2⟩ := three_below b2 (Nat.lt_of_lt_of_le hbl B.size) d0 d1 d2
        obtain ⟨B2, y0, y1⟩ := BX.out _ (hb.trans (b2.mono hb.size))
        clear x0 x1 d0 d1 d2
        go_wp2
        go_quiet (fail)
        go_wp2
        go_roundg (n1 - (k + 1))
        case measure => omega
        case rel => exact ⟨k + 1, by omega, by go_num, by rw [HP.out], hf, (hb.trans (b2.mono hb.size)).trans ⟨rfl, rfl, rfl, Nat.le_refl _, fun _ _ => rfl⟩⟩
    · obtain rfl : k = n1 := by omega
      clear hlt hk
      obtain ⟨wo, rfl⟩ : ∃ wo : World, wo = wr := ⟨_, rfl⟩
      go_wp2
      go_loopg [5] n2 (fun m i wr => ∃ j : Nat, j + m = n2 ∧ i = .int .i64 j ∧ Hid (allTo (fun i => ruleB (el s.rules i) k) j = true) ∧ Below (w.alloc (.cells #[.slice A1 k c1, .slice A2 n2 c2] 33)).heap.size (w.alloc (.cells #[.slice A1 k c1, .slice A2 n2 c2] 33)) wr)
      case atStart => exact ⟨0, by omega, rfl, Lib.hid rfl, hb⟩
      case round =>
        clear x0 x1
        obtain ⟨j, hj, rfl, ha2, hb2⟩ := hrel
        obtain ⟨B2, y0, y1⟩ := BX.out _ hb2
        have hsz : w.heap.size < wr.heap.size := by have := hb2.size; simp at this; omega
        by_cases hlt : j < n2
        · obtain ⟨ad, A4, n4, c4, A5, n5, c5, A6, n6, c6, rfl, hbl, d0, d1, d2, r1, r2, r3⟩ := rl_at (Mem.rd_below h2 B2) hlt
          have OV := Lib.hid (l2Rule_any (el s.rules j) A4 n4 c4 A5 n5 c5 A6 n6 c6 k wr.drew (Mem.rd_drew (Mem.rd_more r1 B2.size)) (Mem.rd_drew (Mem.rd_more r2 B2.size)) (Mem.rd_drew (Mem.rd_more r3 B2.size)) (by omega) (by omega))
          cases hz : ruleB (el s.rules j) k
          all_goals
            first
              | have HF := Lib.hid (hc2.out j hlt hz)
              | have hf : Hid (allTo (fun i => ruleB (el s.rules i) k) (j + 1) = true) := Lib.hid (by show (allTo _ j && ruleB (el s.rules j) k) = true; rw [ha2.out, hz]; rfl)
            have HZ := Lib.hid hz; clear hz
            go_wp2
            go_region_held3 (fun w' => w'.cell? ⟨w.heap.size, 0, none⟩ = some (.slice A1 k c1) ∧ w'.cell? ⟨w.heap.size, 1, none⟩ = some (.slice (some ad) n2 c2) ∧ w'.cell? (ad.add (j * 3)) = some (.slice A4 n4 c4) ∧ w'.cell? ⟨(ad.add (j * 3)).block, (ad.add (j * 3)).off + 1, none⟩ = some (.slice A5 n5 c5) ∧ w'.cell? ⟨(ad.add (j * 3)).block, (ad.add (j * 3)).off + 2, none⟩ = some (.slice A6 n6 c6)) (go_keep)
              ((go_at_call 127; refine OV.out.mono ?_; rintro e w4 ⟨rfl, b4⟩; rw [HZ.out]
                obtain ⟨p0, p1, p2⟩ := three_below b4 (Nat.lt_of_lt_of_le hbl B2.size) d0 d1 d2
                have p3 := cell_below b4 (p := ⟨w.heap.size, 0, none⟩) hsz y0
                have p4 := cell_below b4 (p := ⟨w.heap.size, 1, none⟩) hsz y1))
          · go_wp2
            go_ret
            exact ⟨(congrArg (fun b => Ending.returned (.bool b)) HF.out).symm, B2.trans (Below.mono (B' := w.heap.size) ⟨b4.os, b4.tape, b4.output, b4.size, b4.block⟩ B2.size)⟩
          · go_wp2
            go_roundg (n2 - (j + 1))
            case measure => omega
            case rel => exact ⟨j + 1, by omega, by go_num, hf, hb2.trans (Below.mono ⟨b4.os, b4.tape, b4.output, b4.size, b4.block⟩ hb2.size)⟩
        · obtain rfl : j = n2 := by omega
          have HE := Lib.hid (hc3.out ha.out ha2.out)
          go_wp2
          go_ret
          exact ⟨(congrArg (fun b => Ending.returned (.bool b)) HE.out).symm, B2⟩
end Go.Proofs.Ytnhjcokmajejcaa
namespace Go.Proofs.Ytnhjcokmajejcaa
open Go.RowKit


/-- The first values. -/
def firsts (l : List Vr) : List Int := l.map Vr.first
def firstB (s : Sy) : List Int := if sysB s then firsts s.vars else []
theorem firsts_succ {l : List Vr} {k : Nat} (h : k < l.length) : firsts (l.take (k + 1)) = firsts (l.take k) ++ [(el l k).first] := by
  unfold firsts; rw [take_el h, List.map_append]; rfl
theorem firsts_len (l : List Vr) : (firsts l).length = l.length := by simp [firsts]

end Go.Proofs.Ytnhjcokmajejcaa
namespace Go.Proofs.Ytnhjcokmajejcaa
open Go.RowKit

set_option maxRecDepth 100000 in
set_option maxHeartbeats 2000000 in
theorem first_spec (s : Sy) (A1 : Option Addr) (n1 c1 : Nat) (A2 : Option Addr) (n2 c2 : Nat) (w : World) (h1 : Mem.rd w w.heap.size [.slice A1 n1 c1] s.vars) (h2 : Mem.rd w w.heap.size [.slice A2 n2 c2] s.rules) :
    Calls Try.prog 81 #[.agg #[.slice A1 n1 c1, .slice A2 n2 c2]] w (GivesInts w (firstB s)) := by
  have m1 := rd_max h1
  unfold maxLen at m1
  have l1 := rd_len h1
  have L1 := Lib.hid l1
  have BX := Lib.hid (sy_box (w := w) (v1 := .slice A1 n1 c1) (v2 := .slice A2 n2 c2))
  have G5 := Lib.hid (fun h : sysB s = true => show n1 ≤ 5 by have := sys_ok h; omega)
  obtain ⟨g, hg⟩ : ∃ g, g = sysB s := ⟨_, rfl⟩
  have FB : Hid (firstB s = bif g then firsts s.vars else []) := Lib.hid (by unfold firstB; rw [← hg]; cases g <;> rfl)
  generalize firstB s = F at FB ⊢
  rw [← hg] at G5
  have HG := Lib.hid hg
  clear hg l1
  go_enter Try.func81, Try.ntmps81
  go_wp2
  have hown0 := World.ownsRow_lit (base := w.heap.size + 1) (e := 3) (size := 1) (w.alloc (.cells #[.slice A1 n1 c1, .slice A2 n2 c2] 33)) #[] 0 (by simp) (by unfold maxLen; omega) rfl
  rw [World.size_alloc] at hown0
  go_loopg [3, 4] n1 (fun m v i wr => ∃ k : Nat, k + m = n1 ∧ i = .int .i64 k ∧ wr.ownsRow (w.heap.size + 1) 3 1 v k (ints (firsts (s.vars.take k))) ∧ Hid (k = 0 ∨ g = true) ∧ Below (w.alloc (.cells #[.slice A1 n1 c1, .slice A2 n2 c2] 33)).heap.size (w.alloc (.cells #[.slice A1 n1 c1, .slice A2 n2 c2] 33)) wr)
  case atStart => exact ⟨0, by omega, rfl, hown0, Lib.hid (.inl rfl), below_alloc _ _⟩
  case round =>
    clear hown0
    obtain ⟨k, hk, rfl, ho, hg0, hb⟩ := hrel
    obtain ⟨B, x0, x1⟩ := BX.out _ hb
    by_cases hlt : k < n1
    · obtain ⟨ad, rfl, hbl, d0, d1, d2⟩ := vr_at (Mem.rd_below h1 B) hlt
      have SV := Lib.hid (sysValid_spec s (some ad) n1 c1 A2 n2 c2 wr (Mem.rd_on h1 B) (Mem.rd_on h2 B))
      cases hg : g
      · have k0 : k = 0 := by
          rcases hg0.out with h | h
          · exact h
          · rw [hg] at h; cases h
        have HG2 : Hid (sysB s = false) := Lib.hid (by rw [← HG.out, hg])
        clear HG
        subst hg
        go_wp2_with fail
        refine SV.out.mono ?_
        rintro e w2 ⟨rfl, b2⟩
        rw [HG2.out]
        go_wp2
        go_ret
        refine ⟨_, rfl, ?_, B.trans (b2.mono B.size)⟩
        have e := FB.out
        subst k0
        subst e
        exact own_lower (own_below ho b2) (by omega)
      · have HG2 : Hid (sysB s = true) := Lib.hid (by rw [← HG.out, hg])
        have g5 := G5.out hg
        clear HG
        subst hg
        have HF := Lib.hid (firsts_succ (l := s.vars) (k := k) (by rw [L1.out]; exact hlt))
        go_wp2_with fail
        refine SV.out.mono ?_
        rintro e w2 ⟨rfl, b2⟩
        rw [HG2.out]
        obtain ⟨p0, p1, p2⟩ := three_below b2 (Nat.lt_of_lt_of_le hbl B.size) d0 d1 d2
        obtain ⟨B2, y0, y1⟩ := BX.out _ (hb.trans (b2.mono hb.size))
        clear x0 x1 d0 d1 d2
        have HO := Lib.hid (own_below ho b2)
        go_wp2_with (first
          | (at_builtin; refine app_int_at rfl _ _ rfl (w.heap.size + 1) _ k _ _ _ rfl (HO.out.alloc _) rfl (World.cell?_alloc_at _ _ _ _ (by simp)) (by omega) (by have := hb.size; have := b2.size; simp at *; omega) ?_; intro v' w4 ho4 hb4))
        go_roundg (n1 - (k + 1))
        case measure => omega
        case rel => exact ⟨k + 1, by omega, by go_num, by rw [HF.out]; exact ho4, Lib.hid (by simp), ((hb.trans (b2.mono hb.size)).alloc (by have := hb.size; have := b2.size; simp at *; omega) _).trans (hb4.mono (by simp))⟩
    · obtain rfl : k = n1 := by omega
      cases hg : g
      · have k0 : k = 0 := by
          rcases hg0.out with h | h
          · exact h
          · rw [hg] at h; cases h
        subst hg
        go_wp2
        go_ret
        refine ⟨_, rfl, ?_, B⟩
        have e := FB.out
        subst k0
        subst e
        exact own_lower ho (by omega)
      · subst hg
        go_wp2
        go_ret
        refine ⟨_, rfl, ?_, B⟩
        have e : s.vars.take k = s.vars := List.take_of_length_le (by rw [L1.out]; exact Nat.le_refl _)
        rw [e] at ho
        have e2 : F = firsts s.vars := FB.out
        subst e2
        show wr.ownsRow w.heap.size 3 1 _ (firsts s.vars).length (ints (firsts s.vars))
        rw [firsts_len, L1.out]
        exact own_lower ho (by omega)
theorem firstB_len (s : Sy) : (firstB s).length ≤ 1000000 := by
  unfold firstB
  split
  · rename_i h; have := sys_ok h; rw [firsts_len]; omega
  · simp
end Go.Proofs.Ytnhjcokmajejcaa
