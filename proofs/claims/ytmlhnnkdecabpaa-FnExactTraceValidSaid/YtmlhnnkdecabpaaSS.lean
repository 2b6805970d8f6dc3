/- Lists of lists of numbers: the exact laws' helpers. -/
import Derived.Test.YtmlhnnkdecabpaaMarkSy
import Derived.Test.YtmlhnnkdecabpaaEqSy
import Derived.Test.YtmlhnnkdecabpaaOpenSy
import Derived.Test.YtmlhnnkdecabpaaSzEq
namespace Go.Proofs.Ytmlhnnkdecabpaa
open Go.RowKit

def szII (L : List (List Int)) : Nat := L.length + sumTo (fun i => (el L i).length) L.length
/-- How many marks. -/
def mkII (L : List (List Int)) : Nat := sumTo (fun i => (el L i).length) L.length
theorem ii_fits {L : List (List Int)} (h : szII L ≤ 1048576) : L.length ≤ 1048576 ∧ ∀ k, k < L.length → (el L k).length ≤ 1048576 := by
  unfold szII at h
  refine ⟨by omega, fun k hk => ?_⟩
  have := sumTo_one (f := fun i => (el L i).length) hk

  omega
theorem ii_fits3 {L : List (List Int)} {n : Nat} (h : szII L ≤ 1048576) (hl : L.length = n) : n ≤ 1048576 ∧ (∀ k, k < n → (el L k).length ≤ 1048576) ∧ ∀ k, k < L.length → (el L k).length ≤ 1048576 := by
  subst hl; exact ⟨(ii_fits h).1, (ii_fits h).2, (ii_fits h).2⟩
theorem mkII_le {L : List (List Int)} (h : szII L ≤ 1048576) : mkII L ≤ 1048576 := by unfold mkII; unfold szII at h; omega
theorem inS_info : (Try.prog.info? 24).map (fun i => (i.zero, i.size, i.bytes)) = some (some (.slice none 0 0), 1, 24) := by kernel_rfl
noncomputable def inSRow : TypeInfo := Classical.choose (info_parts inS_info)
theorem inS_row : Try.prog.info? 24 = some inSRow ∧ inSRow.zero = some (.slice none 0 0) ∧ inSRow.size = 1 ∧ inSRow.bytes = 24 := Classical.choose_spec (info_parts inS_info)

set_option maxHeartbeats 1000000 in
theorem szIntSS_any (A : Option Addr) (n c : Nat) (L : List (List Int)) (left : Int) (w : World) (h : Mem.rd w w.heap.size [.slice A n c] L) (h0 : 0 ≤ left) (h1 : left ≤ 1048576) :
    Calls Try.prog 41 #[.slice A n c, .int .i64 left] w (fun e w' => e = .returned (.int .i64 (rest left (szII L))) ∧ w = w') := by
  have hm := rd_max h
  unfold maxLen at hm
  have hl := Lib.hid (rd_len h)
  by_cases hs : left < n
  · rw [rest_no (by unfold szII; have := hl.out; omega)]
    go_enter Try.func41, Try.ntmps41
    go_wp2
    go_ret
    exact ⟨rfl, rfl⟩
  · have hT : ∃ T : Nat, Hid (T = szII L) := ⟨_, Lib.hid rfl⟩
    obtain ⟨T, HT⟩ := hT
    rw [← HT.out]
    go_enter Try.func41, Try.ntmps41
    go_wp2
    go_loopg [1, 5] n (fun m lf i wr => ∃ k x : Nat, k + m = n ∧ i = .int .i64 k ∧ lf = .int .i64 (left - n - x) ∧ Hid (x = sumTo (fun i => (el L i).length) k) ∧ n + x ≤ left ∧ wr = w)
    case atStart => exact ⟨0, 0, by omega, rfl, by simp, Lib.hid rfl, by omega, rfl⟩
    case round =>
      obtain ⟨k, x, hk, rfl, rfl, HX, hx, rfl⟩ := hrel
      by_cases hlt : k < n
      · obtain ⟨ad, A1, n1, c1, rfl, _, hc, hr⟩ := ll_at h hlt
        have hm1 := rd_max hr
        have hX1 : x + n1 = sumTo (fun i => (el L i).length) (k + 1) := by rw [HX.out, ← rd_len hr]; rfl
        have HX1 := Lib.hid hX1
        clear hX1
        by_cases hs1 : left - n - x < n1
        · go_wp2_with fail
          refine (szIntS_M A1 n1 c1 (left - n - x) hm1 (by omega) (by omega) _).mono ?_
          rintro e w' ⟨rfl, rfl⟩
          rw [rest_no hs1]
          go_wp2
          go_ret
          have : left < T := by
            have := sumTo_mono (f := fun i => (el L i).length) (show k + 1 ≤ n from hlt)
            rw [HT.out]; unfold szII; rw [hl.out]; rw [← HX1.out] at this; omega
          rw [rest_no this]
          exact ⟨rfl, rfl⟩
        · go_wp2_with fail
          refine (szIntS_M A1 n1 c1 (left - n - x) hm1 (by omega) (by omega) _).mono ?_
          rintro e w' ⟨rfl, rfl⟩
          rw [rest_yes (by omega)]
          go_wp2
          go_roundg (n - (k + 1))
          case measure => omega
          case rel => exact ⟨k + 1, x + n1, by omega, by go_num, by congr 1; omega, HX1, by omega, rfl⟩
      · obtain rfl : k = n := by omega
        go_wp2
        go_ret
        have : T = k + x := by rw [HT.out, HX.out]; unfold szII; rw [hl.out]
        rw [rest_yes (by omega)]
        exact ⟨congrArg (fun z => Ending.returned (.int .i64 z)) (by omega), rfl⟩


set_option maxHeartbeats 1000000 in
theorem toIntSS_any (A : Option Addr) (n c : Nat) (l : List (List Int)) (w : World) (h : Mem.rd w w.heap.size [.slice A n c] l) (hn : n ≤ 1048576) (hs : ∀ k, k < n → (el l k).length ≤ 1048576) :
    Calls Try.prog 50 #[.slice A n c] w (GivesL w l) := by
  go_enter Try.func50, Try.ntmps50
  go_wp2_with (first | (at_make; refine wpList_make_full _ rfl _ _ 37 rfl w.heap.size 24 inSRow _ 1 Try.underlying37 inS_row.1 inS_row.2.1 inS_row.2.2.1 _ _ _ _ n rfl rfl rfl rfl (by rw [inS_row.2.2.2]; omega) (by unfold maxLen; omega) (Nat.le_refl _) ?_; intro w1 hown hg))
  have hbw := (Below.refl w.heap.size w).grown hg (Nat.le_refl _) (by simp)
  have hblk := (Blk.of_own hown).1
  have hblk : Blk w1 w.heap.size 24 (cat (fun _ => [.slice none 0 0]) n) := made_cat #[.slice none 0 0] n ▸ hblk
  have hmade := MadeL.zero (l := l) hblk
  clear hg hown hblk
  go_loopg [4] n (fun m i wr => ∃ k : Nat, k + m = n ∧ i = .int .i64 k ∧ MadeL wr w.heap.size 24 [.slice none 0 0] n k l ∧ Below w.heap.size w wr)
  case atStart => exact ⟨0, by omega, rfl, hmade, hbw⟩
  case round =>
    clear hmade hbw
    obtain ⟨k, hk, rfl, hm, hb⟩ := hrel
    by_cases hlt : k < n
    · obtain ⟨ad, A1, n1, c1, rfl, _, h0, hr⟩ := ll_at (Mem.rd_below h hb) hlt
      have hn1 : n1 ≤ 1048576 := by rw [← rd_len hr]; exact hs k hlt
      have hr := Mem.rd_more hr hb.size
      obtain ⟨X, Y, hblk, hX, hstep⟩ := hm.room hlt
      have hX3 : X.length = k := hX.trans (Nat.mul_one k)
      have HX := Lib.hid hX3
      have HS := Lib.hid hstep
      clear hm hX hX3 hstep
      go_wp2_with (first | (go_at_call 26; refine (toIntS_M A1 n1 c1 (el l k) _ hr hn1).mono ?_; rintro e w2 ⟨A2, n2, c2, fp, rfl, o2, nd2, lo2, hb2⟩
                            have HK := Lib.hid (hblk.below hb2 hblk.lt)
                            have f0 := HK.out.frozen k
                            have c0 : w2.cell? ⟨w.heap.size, k, none⟩ = some (.slice none 0 0) := (HK.out.cell k).trans (by rw [List.getElem?_append_right (by rw [HX.out]; omega), HX.out]; simp)))
      go_roundg (n - (k + 1))
      case measure => omega
      case rel =>
        refine ⟨k + 1, by omega, by go_num, HS.out _ fp w2 _ hb2 o2 nd2 lo2 ?_ ?_, ?_⟩
        · rw [← set_one HX.out (.slice none 0 0)]
          exact HK.out.set _ _
        · intro b hb'
          rw [setCell_heap _ _ _ hb']
        · exact (hb.trans (hb2.mono hb.size)).setCell (Nat.le_refl _) _
    · obtain rfl : k = n := by omega
      go_wp2
      go_ret
      obtain ⟨fp, o, nd, lo⟩ := hm.all (rd_len h) (rd_max h)
      exact ⟨_, _, _, fp, rfl, o, nd, lo, hb⟩


set_option maxHeartbeats 1000000 in
theorem eqIntSS_same (A A' : Option Addr) (n c n' c' : Nat) (l : List (List Int)) (w : World) (h : Mem.rd w w.heap.size [.slice A n c] l) (h' : Mem.rd w w.heap.size [.slice A' n' c'] l) (hs : ∀ k, k < l.length → (el l k).length ≤ 1048576) :
    Calls Try.prog 56 #[.slice A n c, .slice A' n' c'] w (GivesBool w true) := by
  have e1 := rd_len h
  have e2 := rd_len h'
  obtain rfl : n = n' := by omega
  rw [e1] at hs
  have hm := rd_max h
  unfold maxLen at hm
  clear e1 e2
  go_enter Try.func56, Try.ntmps56
  go_wp2
  go_loopg [5] n (fun m i wr => ∃ k : Nat, k + m = n ∧ i = .int .i64 k ∧ Below w.heap.size w wr)
  case atStart => exact ⟨0, by omega, rfl, Below.refl _ _⟩
  case round =>
    obtain ⟨k, hk, rfl, hb⟩ := hrel
    by_cases hlt : k < n
    · obtain ⟨ad, A1, n1, c1, rfl, b1, h0, r1⟩ := ll_at (Mem.rd_below h hb) hlt
      obtain ⟨ad', A2, n2, c2, rfl, b2, i0, r2⟩ := ll_at (Mem.rd_below h' hb) hlt
      have hs1 := hs k hlt
      have r1 := Mem.rd_more r1 hb.size
      have r2 := Mem.rd_more r2 hb.size
      go_wp2
      go_region_held3 (fun w' => w'.cell? (ad.add k) = some (.slice A1 n1 c1) ∧ w'.cell? (ad'.add k) = some (.slice A2 n2 c2)) (go_keep)
        ((go_at_call 12; refine (eqIntS_M A1 A2 n1 c1 n2 c2 (el l k) _ (Mem.rd_drew r1) (Mem.rd_drew r2)).mono ?_; rintro e w2 ⟨rfl, hb2⟩
          have p0 := cell_below hb2 (p := ad.add k) (by rw [add_block]; exact Nat.lt_of_lt_of_le b1 hb.size) h0
          have q0 := cell_below hb2 (p := ad'.add k) (by rw [add_block]; exact Nat.lt_of_lt_of_le b2 hb.size) i0))
      all_goals
        go_wp2
        go_roundg (n - (k + 1))
        case measure => omega
        case rel => exact ⟨k + 1, by omega, by go_num, hb.trans (Below.mono (B' := w.heap.size) ⟨hb2.os, hb2.tape, hb2.output, hb2.size, hb2.block⟩ hb.size)⟩
    · obtain rfl : k = n := by omega
      go_wp2
      go_ret
      exact ⟨rfl, hb⟩


section
open Go.ChangeShapes Go.WideShapes Go.ChangeAt Go.Deep
variable {H : Type} {enc : TypeId × Value → H} {w : World} {base : Nat} {spare : Nat → Bool} {held : Bool}
theorem opens_IntSS : Opens enc Try.prog w base spare held 37 (List (List Int)) := opens_slice Try.underlying37 (by kernel_rfl) (by decide) opens_IntS
set_option maxRecDepth 100000 in
theorem open_intSS {v : Value} {d : DataW H} {p : List MemPlace} {r : Reach} {b0 : Nat} (hv : Value.okWide Try.prog w r b0 37 v) (h : DataW.Trod enc Try.prog w base spare held 37 v d p) :
    ∃ A n c, ∃ l : List (List Int), v = .slice A n c ∧ Mem.rd w w.heap.size [.slice A n c] l := by
  obtain ⟨fuel, h⟩ := h
  obtain ⟨A0, n0, c0, rfl⟩ := okWide_slice Try.underlying37 hv
  obtain ⟨l, hl⟩ := opens_IntSS _ _ _ h
  exact ⟨A0, n0, c0, l, rfl, hl⟩
end
end Go.Proofs.Ytmlhnnkdecabpaa
