/- The rules that may be used in a state, of the program. -/
import Derived.Test.YtpaagplopefklaaRep
namespace Go.Proofs.Ytpaagplopefklaa
open Go.RowKit

set_option maxRecDepth 100000 in
set_option maxHeartbeats 4000000 in
theorem usable_impl (s : Sy) (st : List Int) (A1 : Option Addr) (n1 c1 : Nat) (A2 : Option Addr) (n2 c2 : Nat) (A3 : Option Addr) (n3 c3 : Nat) (w : World) (h1 : Mem.rd w w.heap.size [.slice A1 n1 c1] s.vars) (h2 : Mem.rd w w.heap.size [.slice A2 n2 c2] s.rules) (h3 : Mem.rd w w.heap.size [.slice A3 n3 c3] st) :
    Calls Try.prog 29 #[.agg #[.slice A1 n1 c1, .slice A2 n2 c2], .slice A3 n3 c3] w (GivesL w (usableB s st)) := by
  have BX := Lib.hid (sy_box (w := w) (v1 := .slice A1 n1 c1) (v2 := .slice A2 n2 c2))
  have SV := Lib.hid (fun o => inRange_impl s st A1 n1 c1 A2 n2 c2 A3 n3 c3 (w.alloc o) (Mem.rd_on_alloc h1 o) (Mem.rd_on_alloc h2 o) (Mem.rd_on_alloc h3 o))
  have L2 := rd_len h2
  obtain ⟨F, hF⟩ : ∃ F, F = usableB s st := ⟨_, rfl⟩
  have hFl := usableB_len s st
  rw [← hF] at hFl ⊢
  have HF := Lib.hid hF
  clear hF
  cases hz : inRangeB s st
  · have E1 : Hid (F = []) := Lib.hid (by rw [HF.out]; unfold usableB; rw [hz]; rfl)
    have HZ := Lib.hid hz; clear hz L2
    go_enter Try.func29, Try.ntmps29
    go_wp2_with fail
    refine (SV.out _).mono ?_
    rintro e w2 ⟨rfl, b2⟩
    rw [HZ.out]
    go_wp2
    go_ret
    rw [E1.out]
    exact ⟨none, 0, 0, [], rfl, own_none _, List.nodup_nil, by simp, below_call b2⟩
  · obtain ⟨ok, hin⟩ := inRange_parts hz
    have E1 : Hid (F = usableTo s st n2) := Lib.hid (by rw [HF.out]; unfold usableB; rw [hz, L2]; rfl)
    have hn2 : n2 ≤ 8 := by have := ok.most; omega
    have hst : 1 ≤ st.length ∧ st.length ≤ 5 := by have := has_len hin; have := ok.lo; have := ok.hi; omega
    have hn3 : 1 ≤ n3 ∧ n3 ≤ 5 := by have := rd_len h3; omega
    have UC := Lib.hid (fun k (hk : k < n2) w (h1 : Mem.rd w w.heap.size [.slice A1 n1 c1] s.vars) h2 => useP_any s st k A1 n1 c1 A2 n2 c2 w h1 h2 ok hin (by omega))
    have PC := Lib.hid (fun w (h3 : Mem.rd w w.heap.size [.slice A3 n3 c3] st) => pointOf_any A3 n3 c3 st w (rd_ints.1 h3).2 hn3.1 hn3.2)
    unfold ptV at UC PC
    have HST := Lib.hid hst
    have HZ := Lib.hid hz; clear hz L2 hst
    go_enter Try.func29, Try.ntmps29
    go_wp2_with fail
    refine (SV.out _).mono ?_
    rintro e w2 ⟨rfl, b2⟩
    rw [HZ.out]
    obtain ⟨B2, x0, x1⟩ := BX.out _ b2
    go_wp2_with fail
    refine (PC.out _ (Mem.rd_on h3 B2)).mono ?_
    rintro e w3 ⟨rfl, b3⟩
    have b23 := b2.trans (b3.mono b2.size)
    clear x0 x1
    obtain ⟨B3, x0, x1⟩ := BX.out _ b23
    have l3 : w.heap.size < w3.heap.size := by have := b23.size; rw [World.size_alloc] at this; exact this
    have xa0 := fun o => cell_below (below_alloc w3 o) l3 x0
    have xa1 := fun o => cell_below (below_alloc w3 o) l3 x1
    have PB : Hid (∀ W, Below (w3.alloc (.cells #[.int .i64 (ix st 0), .int .i64 (ix st 1), .int .i64 (ix st 2), .int .i64 (ix st 3), .int .i64 (ix st 4), .int .i64 st.length] 84)).heap.size (w3.alloc (.cells #[.int .i64 (ix st 0), .int .i64 (ix st 1), .int .i64 (ix st 2), .int .i64 (ix st 3), .int .i64 (ix st 4), .int .i64 st.length] 84)) W →
        Below w3.heap.size w3 W ∧ Blk W w3.heap.size 84 (ptC st) ∧ w3.heap.size + 1 ≤ W.heap.size) := Lib.hid fun W hW => by
      refine ⟨below_call hW, (Blk.new w3 (ptC st).toArray 84).below hW (by rw [World.size_alloc]; exact Nat.lt_succ_self _), ?_⟩
      have := hW.size; rw [World.size_alloc] at this; exact this
    go_wp2
    go_loopg [6, 7, 8, 9, 19] n2 (fun m v i7 i8 i9 i wr => ∃ k j : Nat, k + m = n2 ∧ i = .int .i64 k ∧ wr.ownsRow (w3.heap.size + 1) 3 1 v j (ints (usableTo s st k)) ∧ j ≤ k ∧ Below (w3.alloc (.cells #[.int .i64 (ix st 0), .int .i64 (ix st 1), .int .i64 (ix st 2), .int .i64 (ix st 3), .int .i64 (ix st 4), .int .i64 st.length] 84)).heap.size (w3.alloc (.cells #[.int .i64 (ix st 0), .int .i64 (ix st 1), .int .i64 (ix st 2), .int .i64 (ix st 3), .int .i64 (ix st 4), .int .i64 st.length] 84)) wr)
    case atStart => exact ⟨0, 0, by omega, rfl, World.ownsRow_nil _ _ _ _, Nat.le_refl _, Below.refl _ _⟩
    case round =>
      clear x0 x1 xa0 xa1
      obtain ⟨k, j, hk, rfl, ho, hj, hb⟩ := hrel
      obtain ⟨p3, kP, lP⟩ := PB.out _ hb
      have b3r := b23.trans (p3.mono b23.size)
      obtain ⟨B, x0, x1⟩ := BX.out _ b3r
      have HO := Lib.hid ho; clear ho
      by_cases hlt : k < n2
      · have UK := Lib.hid (UC.out k hlt wr (Mem.rd_on h1 B) (Mem.rd_on h2 B))
        obtain ⟨U, hU⟩ : ∃ U, U = useL s st k := ⟨_, rfl⟩
        obtain ⟨u, hu⟩ : ∃ u, u = useB s st k := ⟨_, rfl⟩
        rw [← hU, ← hu] at UK
        have HB := Lib.hid hu
        clear hU hu
        obtain ⟨p0, p1, p2, p3, p4, p5⟩ := pt_cells kP
        clear kP
        cases u
        all_goals
          go_wp2_with fail
          refine (UK.out).mono ?_
          rintro e w4 ⟨rfl, b4⟩
          have O4 := own_below HO.out b4
          have hb4 := hb.trans (b4.mono hb.size)
        · have NX : Hid (usableTo s st (k + 1) = usableTo s st k) := Lib.hid (usable_no HB.out.symm)
          go_wp2
          go_roundg (n2 - (k + 1))
          case measure => omega
          case rel => exact ⟨k + 1, j, by omega, by go_num, by rw [NX.out]; exact O4.alloc _, by omega, hb4.alloc hb4.size _⟩
        · have O4 := Lib.hid (fun o => O4.alloc o)
          have NX : Hid (usableTo s st (k + 1) = usableTo s st k ++ [(k : Int)]) := Lib.hid (usable_yes HB.out.symm)
          have l4 : w3.heap.size + 1 ≤ w4.heap.size := Nat.le_trans lP b4.size
          have hb5 := fun o => hb4.alloc hb4.size o
          go_wp2_with (first
            | (at_builtin; refine app_int_at rfl _ _ rfl (w3.heap.size + 1) _ j _ _ _ rfl ((O4.out _).alloc _) rfl (World.cell?_alloc_at _ _ _ _ (by simp)) (by omega) (by simp; omega) ?_; intro v' w6 ho6 hb6))
          go_roundg (n2 - (k + 1))
          case measure => omega
          case rel => exact ⟨k + 1, j + 1, by omega, by go_num, by rw [NX.out]; exact ho6, by omega, ((hb5 _).alloc (hb5 _).size _).trans (hb6.mono (by rw [World.size_alloc]; exact Nat.le_refl _))⟩
      · obtain rfl : k = n2 := by omega
        go_wp2
        go_ret
        have hjl : j = F.length := by have := HO.out.1; rw [len_ints] at this; rw [E1.out]; omega
        have O := HO.out
        rw [hjl, ← E1.out] at O
        obtain ⟨A4, c4, rfl, _, _⟩ := own_form O
        obtain ⟨fp, om, nd, lo⟩ := mem_ints (own_lower O (Nat.le_succ_of_le B3.size : w.heap.size ≤ _)) (by unfold maxLen; omega)
        exact ⟨A4, _, c4, fp, rfl, om, nd, lo, B⟩
end Go.Proofs.Ytpaagplopefklaa
