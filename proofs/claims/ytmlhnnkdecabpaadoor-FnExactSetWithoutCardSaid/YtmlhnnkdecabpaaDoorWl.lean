/- A set of words from numbers, and its numbers: the program's words. -/
import Derived.Test.YtmlhnnkdecabpaaDoorWs
import Derived.Test.YtmlhnnkdecabpaaDoorOwnW
namespace Go.Proofs.YtmlhnnkdecabpaaDoor
open Go.RowKit

theorem seven_set {w : World} {g : Nat} {t : TypeId} {a b c d e f h a' b' c' d' e' f' h' : Value} (k : Blk w g t [a, b, c, d, e, f, h]) :
    Blk (((((((w.setCell ⟨g, 0, none⟩ a').setCell ⟨g, 1, none⟩ b').setCell ⟨g, 2, none⟩ c').setCell ⟨g, 3, none⟩ d').setCell ⟨g, 4, none⟩ e').setCell ⟨g, 5, none⟩ f').setCell ⟨g, 6, none⟩ h') g t [a', b', c', d', e', f', h'] :=
  ((((((k.set 0 a').set 1 b').set 2 c').set 3 d').set 4 e').set 5 f').set 6 h'
theorem seven_far {w : World} {g o : Nat} {a' b' c' d' e' f' h' : Value} (k : o ≠ g) :
    (((((((w.setCell ⟨g, 0, none⟩ a').setCell ⟨g, 1, none⟩ b').setCell ⟨g, 2, none⟩ c').setCell ⟨g, 3, none⟩ d').setCell ⟨g, 4, none⟩ e').setCell ⟨g, 5, none⟩ f').setCell ⟨g, 6, none⟩ h').heap[o]? = w.heap[o]? := by
  rw [setCell_heap _ _ _ k, setCell_heap _ _ _ k, setCell_heap _ _ _ k, setCell_heap _ _ _ k, setCell_heap _ _ _ k, setCell_heap _ _ _ k, setCell_heap _ _ _ k]

set_option maxRecDepth 100000 in
set_option maxHeartbeats 2000000 in
theorem setOf_any (l : List Int) (A : Option Addr) (n c : Nat) (w : World) (h : Mem.rd w w.heap.size [.slice A n c] l) (hr : ∀ k, k < l.length → 0 ≤ ix l k ∧ ix l k < 448) :
    Calls Tryd.prog 61 #[.slice A n c] w (GivesV w (wsV (memP l))) := by
  have hm := rd_max h
  unfold maxLen at hm
  have hl := rd_len h
  have HR := Lib.hid (fun k (hk : k < n) => hr k (by omega))
  have HN := Lib.hid (fun k (hk : k < n) (x : Nat) (hx : ix l k = x) => show addP (memP (l.take k)) x = memP (l.take (k + 1)) by rw [take_el (by omega), ← mem_snoc, ← hx]; rfl)
  have E : Hid (memP (l.take n) = memP l) := Lib.hid (by rw [List.take_of_length_le (by omega)])
  generalize memP l = F at E ⊢
  have h' := (rd_ints.1 h).2
  clear h hl hr
  obtain ⟨W0, hW0⟩ : ∃ W0, W0 = ((w.alloc (.cells #[.int .u64 0, .int .u64 0, .int .u64 0, .int .u64 0, .int .u64 0, .int .u64 0, .int .u64 0] 64)).alloc
    (.cells #[.int .u64 0, .int .u64 0, .int .u64 0, .int .u64 0, .int .u64 0, .int .u64 0, .int .u64 0] 64)) := ⟨_, rfl⟩
  have B0 : Below w.heap.size w W0 := by rw [hW0]; exact (below_alloc _ _).trans ((below_alloc _ _).mono (by simp))
  have Y0 : Blk W0 w.heap.size 64 [.int .u64 0, .int .u64 0, .int .u64 0, .int .u64 0, .int .u64 0, .int .u64 0, .int .u64 0] := by rw [hW0]; exact (Blk.new w _ _).alloc _
  have Z0 : Blk W0 (w.heap.size + 1) 64 (wsC (memP (l.take 0))) := by
    have e : wsC (memP (l.take 0)) = [.int .u64 0, .int .u64 0, .int .u64 0, .int .u64 0, .int .u64 0, .int .u64 0, .int .u64 0] := by
      show wsC (memP []) = _
      rw [mem_nil]; unfold wsC
      rw [wd_none, wd_none, wd_none, wd_none, wd_none, wd_none, wd_none]; rfl
    rw [hW0, e]
    have := Blk.new (w.alloc (.cells #[.int .u64 0, .int .u64 0, .int .u64 0, .int .u64 0, .int .u64 0, .int .u64 0, .int .u64 0] 64)) #[.int .u64 0, .int .u64 0, .int .u64 0, .int .u64 0, .int .u64 0, .int .u64 0, .int .u64 0] 64
    rw [World.size_alloc] at this
    exact this
  have B0 := Lib.hid B0
  have Z0 := Lib.hid Z0
  have Y0 := Lib.hid Y0
  go_enter Tryd.func61, Tryd.ntmps61
  go_wp2
  rw [← hW0]
  clear hW0
  go_loopg [5, 8] n (fun m i5 i wr => ∃ k : Nat, k + m = n ∧ i = .int .i64 k ∧ Hid (Blk wr (w.heap.size + 1) 64 (wsC (memP (l.take k)))) ∧ Hid (Blk wr w.heap.size 64 [.int .u64 0, .int .u64 0, .int .u64 0, .int .u64 0, .int .u64 0, .int .u64 0, .int .u64 0]) ∧ Hid (Below w.heap.size w wr))
  case atStart => exact ⟨0, by omega, rfl, Z0, Y0, B0⟩
  case round =>
    clear Z0 Y0 B0
    obtain ⟨k, hk, rfl, hz, hy, hb⟩ := hrel
    by_cases hlt : k < n
    · obtain ⟨ad, rfl, hbl, hc⟩ := (h'.below hb.out).int hlt
      obtain ⟨x, hx⟩ : ∃ x : Nat, ix l k = x := ⟨(ix l k).toNat, by have := HR.out k hlt; omega⟩
      have hx4 : x < 448 := by have := HR.out k hlt; omega
      rw [hx] at hc
      have NX := Lib.hid (HN.out k hlt x hx)
      have WA := Lib.hid (fun W => with_any (memP (l.take k)) x hx4 W)
      generalize memP (l.take k) = Q at *
      obtain ⟨q0, q1, q2, q3, q4, q5, q6⟩ := ws_cells hz.out
      have WA := Lib.hid WA.out
      unfold wsV at WA
      clear hx hx4
      go_wp2_with fail
      refine (WA.out wr).mono ?_
      rintro e w4 ⟨rfl, b4⟩
      have Z4 := Lib.hid (hz.out.below b4 hz.out.lt)
      have Y4 := Lib.hid (hy.out.below b4 hy.out.lt)
      have B4 := Lib.hid (hb.out.trans (b4.mono hb.out.size))
      obtain ⟨c0, c1, c2, c3, c4, c5, c6⟩ := ws_cells Z4.out
      obtain ⟨f0, f1, f2, f3, f4, f5, f6⟩ := seven_frozen Z4.out
      go_wp2
      go_roundg (n - (k + 1))
      case measure => omega
      case rel =>
        refine ⟨k + 1, by omega, by go_num, Lib.hid ?_, Lib.hid ((seven_far (by omega)).trans Y4.out), Lib.hid ?_⟩
        · rw [← NX.out]
          exact seven_set Z4.out
        · exact ((((((B4.out.setCell (by show w.heap.size ≤ w.heap.size + 1; omega) _).setCell (by show w.heap.size ≤ w.heap.size + 1; omega) _).setCell (by show w.heap.size ≤ w.heap.size + 1; omega) _).setCell (by show w.heap.size ≤ w.heap.size + 1; omega) _).setCell (by show w.heap.size ≤ w.heap.size + 1; omega) _).setCell (by show w.heap.size ≤ w.heap.size + 1; omega) _).setCell (by show w.heap.size ≤ w.heap.size + 1; omega) _
    · obtain rfl : k = n := by omega
      have Z := hz.out
      rw [E.out] at Z
      obtain ⟨q0, q1, q2, q3, q4, q5, q6⟩ := ws_cells Z
      obtain ⟨y0, y1, y2, y3, y4, y5, y6⟩ := seven_cells hy.out
      obtain ⟨f0, f1, f2, f3, f4, f5, f6⟩ := seven_frozen hy.out
      clear Z
      go_wp2_with fail
      refine bodyPost_ret (v := wsV F) (by simp [results, Tryd.results61, go_sem, y0, y1, y2, y3, y4, y5, y6, wsV]) rfl ⟨rfl, ?_⟩
      exact ((((((hb.out.setCell (Nat.le_refl _) _).setCell (Nat.le_refl _) _).setCell (Nat.le_refl _) _).setCell (Nat.le_refl _) _).setCell (Nat.le_refl _) _).setCell (Nat.le_refl _) _).setCell (Nat.le_refl _) _

set_option maxRecDepth 100000 in
set_option maxHeartbeats 2000000 in
theorem setList_any (P : Nat → Bool) (w : World) (hT : DoorAt w) :
    Calls Tryd.prog 46 #[wsV P] w (GivesInts w (pick P 448)) := by
  have HT := Lib.hid hT
  clear hT
  unfold wsV
  go_enter Tryd.func46, Tryd.ntmps46
  go_wp2
  go_loopg [3, 4, 5, 7] 7 (fun m v i4 i5 i wr => ∃ k : Nat, k + m = 7 ∧ i = .int .i64 k ∧ Hid (wr.ownsRow w.heap.size 3 1 v (pick P (64 * k)).length (ints (pick P (64 * k)))) ∧ Hid (Below w.heap.size w wr))
  case atStart => exact ⟨0, by omega, rfl, Lib.hid (World.ownsRow_nil _ _ _ _), Lib.hid (below_alloc _ _)⟩
  case round =>
    obtain ⟨k, hk, rfl, ho, hb⟩ := hrel
    by_cases hlt : k < 7
    · have HAT := fun W => run_ws_at P W k hlt
      have hlt' : (k : Int) < 7 := by omega
      obtain ⟨wo, rfl⟩ : ∃ wo : World, wo = wr := ⟨_, rfl⟩
      have e0 : wd P k = wd (fromP P (64 * k)) k := wd_from.symm
      rw [e0] at HAT
      clear e0
      go_wp2
      go_loopg [3, 5] 64 (fun m v x wr => ∃ t : Nat, t + m = 64 * k + 64 ∧ 64 * k ≤ t ∧ x = .int .u64 (wd (fromP P t) k) ∧ Hid (wr.ownsRow w.heap.size 3 1 v (pick P t).length (ints (pick P t))) ∧ Hid (Below w.heap.size w wr))
      case atStart => exact ⟨64 * k, by omega, Nat.le_refl _, rfl, ho, hb⟩
      case round =>
        clear ho hb
        obtain ⟨t, ht, h1, rfl, ho, hb⟩ := hrel
        by_cases hx0 : wd (fromP P t) k = 0
        · have HE := Lib.hid (wd_end h1 (by omega) hx0)
          rw [hx0]
          clear hx0
          have O := ho
          go_wp2
          go_roundg (7 - (k + 1))
          case measure => omega
          case rel =>
            refine ⟨k + 1, by omega, by go_num, Lib.hid ?_, hb⟩
            rw [show 64 * (k + 1) = 64 * k + 64 by omega, HE.out]
            exact O.out
        · obtain ⟨m, hm, e1, e2, e3, e4⟩ := wd_round h1 hx0
          have hxl := wd_lt (fromP P t) k
          have TZ := Lib.hid (fun W (hT : DoorAt W) => tz_any (wd (fromP P t) k) hx0 hxl W hT)
          rw [e1] at TZ
          generalize hX : wd (fromP P t) k = X at *
          have hne : ((X : Int) != 0) = true := by simp; omega
          have hsub : IntKind.u64.wrap ((X : Int) - 1) = ((X - 1 : Nat) : Int) := by rw [IntKind.wrap_u64]; omega
          have hand' : bits BinOp.and IntKind.u64 (X : Int) ((X - 1 : Nat) : Int) = ((wd (fromP P (64 * k + m + 1)) k : Nat) : Int) := by
            rw [bits_and_u64_nat _ _ hxl (by omega), e4]
          have hw1 : IntKind.i64.wrap ((k : Int) * 64) = (k : Int) * 64 := IntWalk.i64_in _ (by omega)
          have hw2 : IntKind.i64.wrap ((k : Int) * 64 + (m : Int)) = ((64 * k + m : Nat) : Int) := by
            rw [show (k : Int) * 64 + (m : Int) = ((64 * k + m : Nat) : Int) by omega]; exact IntWalk.i64_in _ (by omega)
          have E3 := Lib.hid e3
          have hpl : (pick P t).length ≤ 448 := Nat.le_trans (pick_len P t) (by omega)
          have HPL := Lib.hid hpl
          have DT := Lib.hid (HT.out.on hb.out)
          clear hX hx0 hxl e1 e3 e4 hpl
          go_wp2_with fail
          refine (TZ.out _ DT.out).mono ?_
          rintro e w4 ⟨rfl, rfl⟩
          go_wp2_with (first
            | (at_builtin; refine app_int_at rfl _ _ rfl w.heap.size _ (pick P t).length _ _ _ rfl (ho.out.alloc _) rfl (World.cell?_alloc_at _ _ _ _ (by simp)) (by have := HPL.out; omega) (by have := hb.out.size; simp; omega) ?_; intro v' w6 ho6 hb6))
          go_roundg (64 * k + 64 - (64 * k + m + 1))
          case measure => omega
          case rel =>
            have hz : (64 * (k : Int) + (m : Int)) = ((64 * k + m : Nat) : Int) := by omega
            rw [hz] at ho6
            refine ⟨64 * k + m + 1, by omega, by omega, rfl, Lib.hid ?_, Lib.hid ((hb.out.alloc hb.out.size _).trans hb6)⟩
            rw [E3.out, List.length_append]
            exact ho6
    · obtain rfl : k = 7 := by omega
      have O := ho.out
      go_wp2
      go_ret
      exact ⟨_, rfl, O, hb.out⟩
end Go.Proofs.YtmlhnnkdecabpaaDoor
