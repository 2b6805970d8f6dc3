/- Systems: the model's SizeOf and FirstState. -/
import Derived.Test.YtfgjogmgcamfdaaDoorSysE
import Derived.Test.YtfgjogmgcamfdaaDoorApp
import Derived.Test.YtfgjogmgcamfdaaDoorSysG
namespace Go.Proofs.YtfgjogmgcamfdaaDoor
open Go.RowKit


/-- The first values. -/
def firsts (l : List Vr) : List Int := l.map Vr.first
def firstB (s : Sy) : List Int := if sysB s then firsts s.vars else []
theorem firsts_succ {l : List Vr} {k : Nat} (h : k < l.length) : firsts (l.take (k + 1)) = firsts (l.take k) ++ [(el l k).first] := by
  unfold firsts; rw [take_el h, List.map_append]; rfl
theorem firsts_len (l : List Vr) : (firsts l).length = l.length := by simp [firsts]

set_option maxRecDepth 100000 in
set_option maxHeartbeats 1000000 in
theorem first_impl (s : Sy) (A1 : Option Addr) (n1 c1 : Nat) (A2 : Option Addr) (n2 c2 : Nat) (w : World) (h1 : Mem.rd w w.heap.size [.slice A1 n1 c1] s.vars) (h2 : Mem.rd w w.heap.size [.slice A2 n2 c2] s.rules) :
    Calls Tryd.prog 105 #[.agg #[.slice A1 n1 c1, .slice A2 n2 c2]] w (GivesInts w (firstB s)) := by
  have l1 := rd_len h1
  have L1 := Lib.hid l1
  have BX := Lib.hid (sy_box (w := w) (v1 := .slice A1 n1 c1) (v2 := .slice A2 n2 c2))
  have SV := Lib.hid (fun o => sysValid_impl s A1 n1 c1 A2 n2 c2 (w.alloc o) (Mem.rd_on_alloc h1 o) (Mem.rd_on_alloc h2 o))
  unfold firstB
  cases hz : sysB s
  · have HZ := Lib.hid hz; clear hz
    clear l1
    go_enter Tryd.func105, Tryd.ntmps105
    go_wp2_with fail
    refine (SV.out _).mono ?_
    rintro e w2 ⟨rfl, b2⟩
    rw [HZ.out]
    go_wp2
    go_ret
    exact ⟨_, rfl, World.ownsRow_nil _ _ _ _, below_call b2⟩
  · have ok := sys_ok hz
    have HZ := Lib.hid hz; clear hz
    have g2 : n1 ≤ 5 := by omega
    clear ok l1
    go_enter Tryd.func105, Tryd.ntmps105
    go_wp2_with fail
    refine (SV.out _).mono ?_
    rintro e w2 ⟨rfl, b2⟩
    rw [HZ.out]
    obtain ⟨B2, x0, x1⟩ := BX.out _ b2
    go_wp2_with (first
      | (at_make; refine wpList_make_own _ rfl _ _ 29 rfl w.heap.size 3 intRow _ 1 Tryd.underlying29 int_row.1 int_row.2.1 int_row.2.2.1 _ _ _ n1 rfl rfl (by omega) (by rw [int_row.2.2.2]; omega) (by unfold maxLen; omega) B2.size ?_; intro w3 hown hg
         have b3 : Below w2.heap.size w2 w3 := (Below.refl w2.heap.size w2).grown hg (Nat.le_refl _) (by simp)
         obtain ⟨B3, y0, y1⟩ := BX.out _ (b2.trans (b3.mono b2.size))
         clear x0 x1 hg))
    go_loopg [3, 16] n1 (fun m v i wr => ∃ k : Nat, k + m = n1 ∧ i = .int .i64 k ∧ wr.ownsRow w.heap.size 3 1 v k (ints (firsts (s.vars.take k))) ∧ Below w.heap.size w wr)
    case atStart => exact ⟨0, by omega, rfl, hown, B3⟩
    case round =>
      obtain ⟨k, hk, rfl, ho, hb⟩ := hrel
      clear hown
      by_cases hlt : k < n1
      · obtain ⟨ad, rfl, _, c0, c1', c2'⟩ := vr_at (Mem.rd_below h1 hb) hlt
        have HF := Lib.hid (firsts_succ (l := s.vars) (k := k) (by rw [L1.out]; exact hlt))
        have HO := Lib.hid (fun o => ho.alloc o)
        go_wp2_with (first
          | (at_builtin; refine app_int_at rfl _ _ rfl w.heap.size _ k _ _ _ rfl ((HO.out _).alloc _) rfl (World.cell?_alloc_at _ _ _ _ (by simp)) (by omega) (by have := hb.size; simp; omega) ?_; intro v' w4 ho4 hb4))
        go_roundg (n1 - (k + 1))
        case measure => omega
        case rel => exact ⟨k + 1, by omega, by go_num, by rw [HF.out]; exact ho4, ((hb.alloc hb.size _).alloc (by have := hb.size; simp; omega) _).trans hb4⟩
      · obtain rfl : k = n1 := by omega
        go_wp2
        go_ret
        refine ⟨_, rfl, ?_, hb⟩
        have e : s.vars.take k = s.vars := List.take_of_length_le (by rw [L1.out]; exact Nat.le_refl _)
        rw [e] at ho
        show wr.ownsRow w.heap.size 3 1 _ (firsts s.vars).length (ints (firsts s.vars))
        rw [firsts_len, L1.out]
        exact ho
end Go.Proofs.YtfgjogmgcamfdaaDoor
namespace Go.Proofs.YtfgjogmgcamfdaaDoor
open Go.RowKit

set_option maxRecDepth 100000 in
set_option maxHeartbeats 2000000 in
theorem first_spec (s : Sy) (A1 : Option Addr) (n1 c1 : Nat) (A2 : Option Addr) (n2 c2 : Nat) (w : World) (h1 : Mem.rd w w.heap.size [.slice A1 n1 c1] s.vars) (h2 : Mem.rd w w.heap.size [.slice A2 n2 c2] s.rules) :
    Calls Tryd.prog 52 #[.agg #[.slice A1 n1 c1, .slice A2 n2 c2]] w (GivesInts w (firstB s)) := by
  have m1 := rd_max h1
  unfold maxLen at m1
  have l1 := rd_len h1
  have L1 := Lib.hid l1
  have BX := Lib.hid (sy_box (w := w) (v1 := .slice A1 n1 c1) (v2 := .slice A2 n2 c2))
  have G5 := Lib.hid (fun h : sysB s = true => show n1 ≤ 5 by have := sys_ok h; omega)
  obtain ⟨g, hg⟩ : ∃ g, g = sysB s := ⟨_, rfl⟩
  have FB : Hid (firstB s = bif g then firsts s.vars else []) := Lib.hid (by unfold firstB; rw [← hg]; cases g <;> rfl)
  generalize firstB s = F at FB ⊢
  rw [← hg] at G5
  have HG := Lib.hid hg
  clear hg l1
  go_enter Tryd.func52, Tryd.ntmps52
  go_wp2
  have hown0 := World.ownsRow_lit (base := w.heap.size + 1) (e := 3) (size := 1) (w.alloc (.cells #[.slice A1 n1 c1, .slice A2 n2 c2] 34)) #[] 0 (by simp) (by unfold maxLen; omega) rfl
  rw [World.size_alloc] at hown0
  go_loopg [3, 4] n1 (fun m v i wr => ∃ k : Nat, k + m = n1 ∧ i = .int .i64 k ∧ wr.ownsRow (w.heap.size + 1) 3 1 v k (ints (firsts (s.vars.take k))) ∧ Hid (k = 0 ∨ g = true) ∧ Below (w.alloc (.cells #[.slice A1 n1 c1, .slice A2 n2 c2] 34)).heap.size (w.alloc (.cells #[.slice A1 n1 c1, .slice A2 n2 c2] 34)) wr)
  case atStart => exact ⟨0, by omega, rfl, hown0, Lib.hid (.inl rfl), below_alloc _ _⟩
  case round =>
    clear hown0
    obtain ⟨k, hk, rfl, ho, hg0, hb⟩ := hrel
    obtain ⟨B, x0, x1⟩ := BX.out _ hb
    by_cases hlt : k < n1
    · obtain ⟨ad, rfl, hbl, d0, d1, d2⟩ := vr_at (Mem.rd_below h1 B) hlt
      have SV := Lib.hid (sysValid_spec s (some ad) n1 c1 A2 n2 c2 wr (Mem.rd_on h1 B) (Mem.rd_on h2 B))
      cases hg : g
      · have k0 : k = 0 := by
          rcases hg0.out with h | h
          · exact h
          · rw [hg] at h; cases h
        have HG2 : Hid (sysB s = false) := Lib.hid (by rw [← HG.out, hg])
        clear HG
        subst hg
        go_wp2_with fail
        refine SV.out.mono ?_
        rintro e w2 ⟨rfl, b2⟩
        rw [HG2.out]
        go_wp2
        go_ret
        refine ⟨_, rfl, ?_, B.trans (b2.mono B.size)⟩
        have e := FB.out
        subst k0
        subst e
        exact own_lower (own_below ho b2) (by omega)
      · have HG2 : Hid (sysB s = true) := Lib.hid (by rw [← HG.out, hg])
        have g5 := G5.out hg
        clear HG
        subst hg
        have HF := Lib.hid (firsts_succ (l := s.vars) (k := k) (by rw [L1.out]; exact hlt))
        go_wp2_with fail
        refine SV.out.mono ?_
        rintro e w2 ⟨rfl, b2⟩
        rw [HG2.out]
        obtain ⟨p0, p1, p2⟩ := three_below b2 (Nat.lt_of_lt_of_le hbl B.size) d0 d1 d2
        obtain ⟨B2, y0, y1⟩ := BX.out _ (hb.trans (b2.mono hb.size))
        clear x0 x1 d0 d1 d2
        have HO := Lib.hid (own_below ho b2)
        go_wp2_with (first
          | (at_builtin; refine app_int_at rfl _ _ rfl (w.heap.size + 1) _ k _ _ _ rfl (HO.out.alloc _) rfl (World.cell?_alloc_at _ _ _ _ (by simp)) (by omega) (by have := hb.size; have := b2.size; simp at *; omega) ?_; intro v' w4 ho4 hb4))
        go_roundg (n1 - (k + 1))
        case measure => omega
        case rel => exact ⟨k + 1, by omega, by go_num, by rw [HF.out]; exact ho4, Lib.hid (by simp), ((hb.trans (b2.mono hb.size)).alloc (by have := hb.size; have := b2.size; simp at *; omega) _).trans (hb4.mono (by simp))⟩
    · obtain rfl : k = n1 := by omega
      cases hg : g
      · have k0 : k = 0 := by
          rcases hg0.out with h | h
          · exact h
          · rw [hg] at h; cases h
        subst hg
        go_wp2
        go_ret
        refine ⟨_, rfl, ?_, B⟩
        have e := FB.out
        subst k0
        subst e
        exact own_lower ho (by omega)
      · subst hg
        go_wp2
        go_ret
        refine ⟨_, rfl, ?_, B⟩
        have e : s.vars.take k = s.vars := List.take_of_length_le (by rw [L1.out]; exact Nat.le_refl _)
        rw [e] at ho
        have e2 : F = firsts s.vars := FB.out
        subst e2
        show wr.ownsRow w.heap.size 3 1 _ (firsts s.vars).length (ints (firsts s.vars))
        rw [firsts_len, L1.out]
        exact own_lower ho (by omega)
theorem firstB_len (s : Sy) : (firstB s).length ≤ 1000000 := by
  unfold firstB
  split
  · rename_i h; have := sys_ok h; rw [firsts_len]; omega
  · simp
end Go.Proofs.YtfgjogmgcamfdaaDoor
