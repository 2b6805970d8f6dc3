/- Rows of numbers that a call owns, beside others: append. -/
import Derived.Test.YthlkbkomecnbaaaMarkSy
import Derived.Test.YthlkbkomecnbaaaEqSy
import Derived.Test.YthlkbkomecnbaaaOpenSy
import Derived.Maps.AppendAt
import Derived.Test.YthlkbkomecnbaaaLaw3
import Derived.Deep.AppendLies
import Derived.Deep.RegionLaw
namespace Go.Proofs.Ythlkbkomecnbaaa
open Go.RowKit

def szII (L : List (List Int)) : Nat := L.length + sumTo (fun i => (el L i).length) L.length
/-- How many marks. -/
def mkII (L : List (List Int)) : Nat := sumTo (fun i => (el L i).length) L.length
theorem ii_fits {L : List (List Int)} (h : szII L ≤ 1048576) : L.length ≤ 1048576 ∧ ∀ k, k < L.length → (el L k).length ≤ 1048576 := by
  unfold szII at h
  refine ⟨by omega, fun k hk => ?_⟩
  have := sumTo_one (f := fun i => (el L i).length) hk

  omega
theorem ii_fits3 {L : List (List Int)} {n : Nat} (h : szII L ≤ 1048576) (hl : L.length = n) : n ≤ 1048576 ∧ (∀ k, k < n → (el L k).length ≤ 1048576) ∧ ∀ k, k < L.length → (el L k).length ≤ 1048576 := by
  subst hl; exact ⟨(ii_fits h).1, (ii_fits h).2, (ii_fits h).2⟩
theorem mkII_le {L : List (List Int)} (h : szII L ≤ 1048576) : mkII L ≤ 1048576 := by unfold mkII; unfold szII at h; omega
theorem inS_info : (Try.prog.info? 22).map (fun i => (i.zero, i.size, i.bytes)) = some (some (.slice none 0 0), 1, 24) := by kernel_rfl
noncomputable def inSRow : TypeInfo := Classical.choose (info_parts inS_info)
theorem inS_row : Try.prog.info? 22 = some inSRow ∧ inSRow.zero = some (.slice none 0 0) ∧ inSRow.size = 1 ∧ inSRow.bytes = 24 := Classical.choose_spec (info_parts inS_info)

set_option maxHeartbeats 1000000 in
theorem szIntSS_any (A : Option Addr) (n c : Nat) (L : List (List Int)) (left : Int) (w : World) (h : Mem.rd w w.heap.size [.slice A n c] L) (h0 : 0 ≤ left) (h1 : left ≤ 1048576) :
    Calls Try.prog 51 #[.slice A n c, .int .i64 left] w (fun e w' => e = .returned (.int .i64 (rest left (szII L))) ∧ w = w') := by
  have hm := rd_max h
  unfold maxLen at hm
  have hl := Lib.hid (rd_len h)
  by_cases hs : left < n
  · rw [rest_no (by unfold szII; have := hl.out; omega)]
    go_enter Try.func51, Try.ntmps51
    go_wp2
    go_ret
    exact ⟨rfl, rfl⟩
  · have hT : ∃ T : Nat, Hid (T = szII L) := ⟨_, Lib.hid rfl⟩
    obtain ⟨T, HT⟩ := hT
    rw [← HT.out]
    go_enter Try.func51, Try.ntmps51
    go_wp2
    go_loopg [1, 5] n (fun m lf i wr => ∃ k x : Nat, k + m = n ∧ i = .int .i64 k ∧ lf = .int .i64 (left - n - x) ∧ Hid (x = sumTo (fun i => (el L i).length) k) ∧ n + x ≤ left ∧ wr = w)
    case atStart => exact ⟨0, 0, by omega, rfl, by simp, Lib.hid rfl, by omega, rfl⟩
    case round =>
      obtain ⟨k, x, hk, rfl, rfl, HX, hx, rfl⟩ := hrel
      by_cases hlt : k < n
      · obtain ⟨ad, A1, n1, c1, rfl, _, hc, hr⟩ := ll_at h hlt
        have hm1 := rd_max hr
        have hX1 : x + n1 = sumTo (fun i => (el L i).length) (k + 1) := by rw [HX.out, ← rd_len hr]; rfl
        have HX1 := Lib.hid hX1
        clear hX1
        by_cases hs1 : left - n - x < n1
        · go_wp2_with fail
          refine (szIntS_M A1 n1 c1 (left - n - x) hm1 (by omega) (by omega) _).mono ?_
          rintro e w' ⟨rfl, rfl⟩
          rw [rest_no hs1]
          go_wp2
          go_ret
          have : left < T := by
            have := sumTo_mono (f := fun i => (el L i).length) (show k + 1 ≤ n from hlt)
            rw [HT.out]; unfold szII; rw [hl.out]; rw [← HX1.out] at this; omega
          rw [rest_no this]
          exact ⟨rfl, rfl⟩
        · go_wp2_with fail
          refine (szIntS_M A1 n1 c1 (left - n - x) hm1 (by omega) (by omega) _).mono ?_
          rintro e w' ⟨rfl, rfl⟩
          rw [rest_yes (by omega)]
          go_wp2
          go_roundg (n - (k + 1))
          case measure => omega
          case rel => exact ⟨k + 1, x + n1, by omega, by go_num, by congr 1; omega, HX1, by omega, rfl⟩
      · obtain rfl : k = n := by omega
        go_wp2
        go_ret
        have : T = k + x := by rw [HT.out, HX.out]; unfold szII; rw [hl.out]
        rw [rest_yes (by omega)]
        exact ⟨congrArg (fun z => Ending.returned (.int .i64 z)) (by omega), rfl⟩


set_option maxHeartbeats 1000000 in
theorem toIntSS_any (A : Option Addr) (n c : Nat) (l : List (List Int)) (w : World) (h : Mem.rd w w.heap.size [.slice A n c] l) (hn : n ≤ 1048576) (hs : ∀ k, k < n → (el l k).length ≤ 1048576) :
    Calls Try.prog 52 #[.slice A n c] w (GivesL w l) := by
  go_enter Try.func52, Try.ntmps52
  go_wp2_with (first | (at_make; refine wpList_make_full _ rfl _ _ 26 rfl w.heap.size 22 inSRow _ 1 Try.underlying26 inS_row.1 inS_row.2.1 inS_row.2.2.1 _ _ _ _ n rfl rfl rfl rfl (by rw [inS_row.2.2.2]; omega) (by unfold maxLen; omega) (Nat.le_refl _) ?_; intro w1 hown hg))
  have hbw := (Below.refl w.heap.size w).grown hg (Nat.le_refl _) (by simp)
  have hblk := (Blk.of_own hown).1
  have hblk : Blk w1 w.heap.size 22 (cat (fun _ => [.slice none 0 0]) n) := made_cat #[.slice none 0 0] n ▸ hblk
  have hmade := MadeL.zero (l := l) hblk
  clear hg hown hblk
  go_loopg [4] n (fun m i wr => ∃ k : Nat, k + m = n ∧ i = .int .i64 k ∧ MadeL wr w.heap.size 22 [.slice none 0 0] n k l ∧ Below w.heap.size w wr)
  case atStart => exact ⟨0, by omega, rfl, hmade, hbw⟩
  case round =>
    clear hmade hbw
    obtain ⟨k, hk, rfl, hm, hb⟩ := hrel
    by_cases hlt : k < n
    · obtain ⟨ad, A1, n1, c1, rfl, _, h0, hr⟩ := ll_at (Mem.rd_below h hb) hlt
      have hn1 : n1 ≤ 1048576 := by rw [← rd_len hr]; exact hs k hlt
      have hr := Mem.rd_more hr hb.size
      obtain ⟨X, Y, hblk, hX, hstep⟩ := hm.room hlt
      have hX3 : X.length = k := hX.trans (Nat.mul_one k)
      have HX := Lib.hid hX3
      have HS := Lib.hid hstep
      clear hm hX hX3 hstep
      go_wp2_with (first | (go_at_call 12; refine (toIntS_M A1 n1 c1 (el l k) _ hr hn1).mono ?_; rintro e w2 ⟨A2, n2, c2, fp, rfl, o2, nd2, lo2, hb2⟩
                            have HK := Lib.hid (hblk.below hb2 hblk.lt)
                            have f0 := HK.out.frozen k
                            have c0 : w2.cell? ⟨w.heap.size, k, none⟩ = some (.slice none 0 0) := (HK.out.cell k).trans (by rw [List.getElem?_append_right (by rw [HX.out]; omega), HX.out]; simp)))
      go_roundg (n - (k + 1))
      case measure => omega
      case rel =>
        refine ⟨k + 1, by omega, by go_num, HS.out _ fp w2 _ hb2 o2 nd2 lo2 ?_ ?_, ?_⟩
        · rw [← set_one HX.out (.slice none 0 0)]
          exact HK.out.set _ _
        · intro b hb'
          rw [setCell_heap _ _ _ hb']
        · exact (hb.trans (hb2.mono hb.size)).setCell (Nat.le_refl _) _
    · obtain rfl : k = n := by omega
      go_wp2
      go_ret
      obtain ⟨fp, o, nd, lo⟩ := hm.all (rd_len h) (rd_max h)
      exact ⟨_, _, _, fp, rfl, o, nd, lo, hb⟩


set_option maxHeartbeats 1000000 in
theorem eqIntSS_same (A A' : Option Addr) (n c n' c' : Nat) (l : List (List Int)) (w : World) (h : Mem.rd w w.heap.size [.slice A n c] l) (h' : Mem.rd w w.heap.size [.slice A' n' c'] l) (hs : ∀ k, k < l.length → (el l k).length ≤ 1048576) :
    Calls Try.prog 53 #[.slice A n c, .slice A' n' c'] w (GivesBool w true) := by
  have e1 := rd_len h
  have e2 := rd_len h'
  obtain rfl : n = n' := by omega
  rw [e1] at hs
  have hm := rd_max h
  unfold maxLen at hm
  clear e1 e2
  go_enter Try.func53, Try.ntmps53
  go_wp2
  go_loopg [5] n (fun m i wr => ∃ k : Nat, k + m = n ∧ i = .int .i64 k ∧ Below w.heap.size w wr)
  case atStart => exact ⟨0, by omega, rfl, Below.refl _ _⟩
  case round =>
    obtain ⟨k, hk, rfl, hb⟩ := hrel
    by_cases hlt : k < n
    · obtain ⟨ad, A1, n1, c1, rfl, b1, h0, r1⟩ := ll_at (Mem.rd_below h hb) hlt
      obtain ⟨ad', A2, n2, c2, rfl, b2, i0, r2⟩ := ll_at (Mem.rd_below h' hb) hlt
      have hs1 := hs k hlt
      have r1 := Mem.rd_more r1 hb.size
      have r2 := Mem.rd_more r2 hb.size
      go_wp2
      go_region_held3 (fun w' => w'.cell? (ad.add k) = some (.slice A1 n1 c1) ∧ w'.cell? (ad'.add k) = some (.slice A2 n2 c2)) (go_keep)
        ((go_at_call 14; refine (eqIntS_M A1 A2 n1 c1 n2 c2 (el l k) _ (Mem.rd_drew r1) (Mem.rd_drew r2)).mono ?_; rintro e w2 ⟨rfl, hb2⟩
          have p0 := cell_below hb2 (p := ad.add k) (by rw [add_block]; exact Nat.lt_of_lt_of_le b1 hb.size) h0
          have q0 := cell_below hb2 (p := ad'.add k) (by rw [add_block]; exact Nat.lt_of_lt_of_le b2 hb.size) i0))
      all_goals
        go_wp2
        go_roundg (n - (k + 1))
        case measure => omega
        case rel => exact ⟨k + 1, by omega, by go_num, hb.trans (Below.mono (B' := w.heap.size) ⟨hb2.os, hb2.tape, hb2.output, hb2.size, hb2.block⟩ hb.size)⟩
    · obtain rfl : k = n := by omega
      go_wp2
      go_ret
      exact ⟨rfl, hb⟩


set_option maxHeartbeats 1000000 in
theorem markIntSS_M (A : Option Addr) (n c : Nat) (L : List (List Int)) (fp : List Nat) (q : Int) (w : World) (h : Mem.own w fp [.slice A n c] L) (nd : fp.Nodup) (hq : 0 ≤ q) (hq' : q ≤ 100000000000) (hs : szII L ≤ 1048576) :
    Calls Try.prog 77 #[.slice A n c, .int .i64 q] w (MarksL w fp (q + mkII L)) := by
  have hb : ∀ k, k < L.length → (el L k).length ≤ 1048576 := fun k hk => by
    have := sumTo_one (f := fun i => (el L i).length) hk
    unfold szII at hs
    omega
  obtain ⟨hm, hl, h0 | ⟨g, t, ecs, fps, rfl, ho, rfl, he⟩⟩ := own_row h
  · subst h0
    have e : mkII L = 0 := by unfold mkII; rw [hl]; rfl
    rw [e]
    clear h hl e hb
    go_enter Try.func77, Try.ntmps77
    go_wp2
    go_loopg [1, 5] 0 (fun m j i wr => i = .int .i64 0 ∧ j = .int .i64 q ∧ wr = w)
    case atStart => exact ⟨rfl, rfl, rfl⟩
    case round =>
      obtain ⟨rfl, rfl, rfl⟩ := hrel
      go_wp2
      go_ret
      exact ⟨by simp, Only.refl _ _⟩
  · have hn : n ≤ 1048576 := by unfold szII at hs; omega
    have HM : Hid (mkII L = sumTo (fun i => (el L i).length) n) := Lib.hid (by unfold mkII; rw [hl])
    have HB : Hid (∀ k, k ≤ n → sumTo (fun i => (el L i).length) k ≤ 1048576) := Lib.hid fun k hk => by
      have := sumTo_mono (f := fun i => (el L i).length) hk
      unfold szII at hs
      rw [hl] at hs
      omega
    rw [hl] at hb
    have HE := Lib.hid he
    have ND := Lib.hid nd
    obtain ⟨hg, nd'⟩ := List.nodup_cons.1 nd
    have HD := Lib.hid (nodup_cat nd')
    have HG : Hid (∀ k, k < n → g ∉ cat fps k) := Lib.hid fun k hk hc => by
      obtain ⟨i, hi, hm⟩ := mem_cat.1 hc
      exact hg (mem_cat.2 ⟨i, by omega, hm⟩)
    have HO := Lib.hid ho
    have HC : Hid (∀ k, k < n → ∃ A1 n1 c1, ecs k = [.slice A1 n1 c1] ∧ w.cell? ⟨g, k, none⟩ = some (.slice A1 n1 c1)) := Lib.hid fun k hk => by
      obtain ⟨A1, n1, c1, e, _⟩ := he k hk
      refine ⟨A1, n1, c1, e, ?_⟩
      rw [ho.cellAt k (by show k < n * 1; omega)]
      have := cat_at (f := ecs) (s := 1) (n := n) (fun i hi => Mem.rd_len (Mem.own_rd (he i hi))) (k := k) (j := 0) hk (by omega)
      rw [Nat.mul_one, Nat.add_zero] at this
      rw [this, e]; rfl
    have HL := Lib.hid (ownsRow_lt ho)
    clear h he nd nd' hg ho hl
    go_enter Try.func77, Try.ntmps77
    go_wp2
    go_loopg [1, 5] n (fun m j i wr => ∃ k x : Nat, k + m = n ∧ i = .int .i64 k ∧ j = .int .i64 (q + x) ∧ Hid (x = sumTo (fun i => (el L i).length) k) ∧ Only (cat fps k) w wr)
    case atStart => exact ⟨0, 0, by omega, rfl, by simp, Lib.hid rfl, Only.refl _ _⟩
    case round =>
      obtain ⟨k, x, hk, rfl, rfl, HX, hon⟩ := hrel
      by_cases hlt : k < n
      · obtain ⟨A1, n1, c1, e1, hc⟩ := HC.out k hlt
        have hx : x ≤ 1048576 := by have := HB.out k (by omega); rw [← HX.out] at this; exact this
        have ow := HE.out k hlt
        rw [e1] at ow
        have ow := Mem.own_only ow hon (HD.out k hlt).2
        have hc : wr.cell? ⟨g, k, none⟩ = some (.slice A1 n1 c1) := (World.cell?_of_block (hon.block g HL.out (HG.out k hlt))).trans hc
        have hb1 := hb k hlt
        have HX1 : Hid (x + (el L k).length = sumTo (fun i => (el L i).length) (k + 1)) := Lib.hid (by rw [HX.out]; rfl)
        clear e1
        go_wp2_with fail
        refine (markIntS_M A1 n1 c1 (el L k) (fps k) (q + x) wr ow (by omega) (by omega) hb1).mono ?_
        rintro e w2 ⟨rfl, ho2⟩
        go_wp2
        go_roundg (n - (k + 1))
        case measure => omega
        case rel => exact ⟨k + 1, _, by omega, by go_num, by congr 1; omega, HX1, (hon.mono fun b hb => by rw [cat_succ]; simp [hb]).trans (ho2.mono fun b hb => by rw [cat_succ]; simp [hb])⟩
      · obtain rfl : k = n := by omega
        go_wp2
        go_ret
        exact ⟨congrArg (fun z => Ending.returned (.int .i64 z)) (by rw [HM.out, HX.out]), hon.mono fun b hb => List.mem_cons_of_mem _ hb⟩

section
open Go.ChangeShapes Go.WideShapes Go.ChangeAt Go.Deep
variable {H : Type} {enc : TypeId × Value → H} {w : World} {base : Nat} {spare : Nat → Bool} {held : Bool}
theorem opens_IntSS : Opens enc Try.prog w base spare held 26 (List (List Int)) := opens_slice Try.underlying26 (by kernel_rfl) (by decide) opens_IntS
set_option maxRecDepth 100000 in
theorem open_intSS {v : Value} {d : DataW H} {p : List MemPlace} {r : Reach} {b0 : Nat} (hv : Value.okWide Try.prog w r b0 26 v) (h : DataW.Trod enc Try.prog w base spare held 26 v d p) :
    ∃ A n c, ∃ l : List (List Int), v = .slice A n c ∧ Mem.rd w w.heap.size [.slice A n c] l := by
  obtain ⟨fuel, h⟩ := h
  obtain ⟨A0, n0, c0, rfl⟩ := okWide_slice Try.underlying26 hv
  obtain ⟨l, hl⟩ := opens_IntSS _ _ _ h
  exact ⟨A0, n0, c0, l, rfl, hl⟩
end
end Go.Proofs.Ythlkbkomecnbaaa
namespace Go.Proofs.Ythlkbkomecnbaaa
open Go.RowKit

/-- The call gives a new slice that is its own, and a truth. -/
def GivesLB (w : World) (l : List Int) (b : Bool) (e : Ending) (w' : World) : Prop :=
  ∃ A n c fp, e = .returned (.tuple #[.slice A n c, .bool b]) ∧ Mem.own w' fp [.slice A n c] l ∧ fp.Nodup ∧ (∀ x ∈ fp, w.heap.size ≤ x) ∧ Below w.heap.size w w'
/-- The call gives two new slices that are its own. -/
def GivesLL (w : World) (l1 l2 : List Int) (e : Ending) (w' : World) : Prop :=
  ∃ A n c A' n' c' f1 f2, e = .returned (.tuple #[.slice A n c, .slice A' n' c']) ∧ Mem.own w' f1 [.slice A n c] l1 ∧ Mem.own w' f2 [.slice A' n' c'] l2 ∧ (f1 ++ f2).Nodup ∧ (∀ x ∈ f1 ++ f2, w.heap.size ≤ x) ∧ Below w.heap.size w w'
theorem lit_lt {n : Int} (h : (Lit.int .i64 n).wf = true) : n < 9223372036854775808 := by
  have h1 : (decide (IntKind.i64.min ≤ n) && decide (n ≤ IntKind.i64.max)) = true := h
  simp only [Bool.and_eq_true, decide_eq_true_eq] at h1
  have e : IntKind.i64.max = 9223372036854775807 := by decide
  omega
theorem own_none (w : World) : Mem.own w [] [.slice none 0 0] ([] : List Int) := ⟨none, 0, 0, rfl, Nat.zero_le _, rfl, .inl ⟨rfl, rfl⟩⟩
def MarksIntsU (u : TypeId) (w : World) (base : Nat) (v : Value) (n : Nat) (q : Int) (e : Ending) (w' : World) : Prop :=
  e = .returned (.int .i64 (q + n)) ∧ w'.ownsRow base u 1 v n (ints (seqFrom q n)) ∧ w.grownBy w' v.ownBlock

set_option maxHeartbeats 1000000 in
theorem markIntS_u (u : TypeId) (base : Nat) (A : Option Addr) (n c : Nat) (l : List Int) (q : Int) (w : World) (hown : w.ownsRow base u 1 (.slice A n c) n (ints l)) (hq : 0 ≤ q) (hq' : q ≤ 1000000000000) (hn : n ≤ 1000000000000) :
    Calls Try.prog 22 #[.slice A n c, .int .i64 q] w (MarksIntsU u w base (.slice A n c) n q) := by
  have hl : l.length = n := by have := hown.1; rw [len_ints] at this; omega
  have hl := Lib.hid hl
  go_enter Try.func22, Try.ntmps22
  go_wp2
  go_loopg [1, 5] n (fun m j i wr => ∃ k : Nat, k + m = n ∧ i = .int .i64 k ∧ j = .int .i64 (q + k) ∧ wr.ownsRow base u 1 (.slice A n c) n (ints (marked l q k)) ∧ w.grownBy wr (Value.slice A n c).ownBlock)
  case atStart => exact ⟨0, by omega, rfl, by simp, hown, World.grownBy.refl _ _⟩
  case round =>
    obtain ⟨k, hk, rfl, rfl, ho, hg⟩ := hrel
    clear hown
    by_cases hlt : k < n
    · rcases ho.2 with ⟨_, h0⟩ | ⟨g, cap, cur, hv, _⟩
      · omega
      injection hv with hA _ hc
      subst hA
      subst hc
      have f0 := ho.frozenAt k
      have c0 : wr.cell? ⟨g, k, none⟩ = some (.int .i64 (ix (marked l q k) k)) := by
        rw [ho.cellAt k (by omega)]
        have : k < (marked l q k).length := by rw [marked_len (by rw [hl.out]; omega), hl.out]; exact hlt
        unfold ints
        rw [List.getElem?_map, List.getElem?_eq_getElem this, ix_lt this]; rfl
      have hs := Lib.hid (ho.stored k (.int .i64 (q + k)))
      go_wp2
      go_roundg (n - (k + 1))
      case measure => omega
      case rel =>
        refine ⟨k + 1, by omega, by go_num, by go_num, ?_, grown_trans hg hs.out.2⟩
        rw [← marked_succ (by rw [hl.out]; exact hlt)]
        exact hs.out.1
    · obtain rfl : k = n := by omega
      go_wp2
      go_ret
      rw [marked_all hl.out] at ho
      exact ⟨rfl, ho, hg⟩


theorem cat_ints {ecs : Nat → List Value} {l : List Int} : ∀ {n : Nat}, n ≤ l.length → (∀ k, k < n → ecs k = [.int .i64 (el l k)]) → cat ecs n = ints (l.take n)
  | 0, _, _ => by simp [cat_zero, ints]
  | n + 1, hn, h => by
    rw [cat_succ, cat_ints (n := n) (by omega) fun k hk => h k (by omega), h n (by omega), take_el (by omega)]
    simp [ints]
/-- What is owned as numbers is a row of its own. -/
theorem own_ints {w : World} {fp : List Nat} {A : Option Addr} {n c : Nat} {l : List Int} (h : Mem.own w fp [.slice A n c] l) (h0 : n ≠ 0) :
    ∃ g t, A = some ⟨g, 0, none⟩ ∧ w.ownsRow 0 t 1 (.slice A n c) n (ints l) ∧ fp = [g] := by
  obtain ⟨_, hl, h1 | ⟨g, t, ecs, fps, rfl, ho, rfl, he⟩⟩ := own_row h
  · exact absurd h1 h0
  · have e : cat ecs n = ints l := by rw [cat_ints (by omega) fun k hk => (he k hk).2, List.take_of_length_le (by omega)]
    have e2 : cat fps n = [] := by
      have : ∀ k, k < n → fps k = (fun _ => []) k := fun k hk => (he k hk).1
      rw [cat_congr this]; simp [cat]
    rw [e2]
    rw [e] at ho
    exact ⟨g, t, rfl, ho, rfl⟩
theorem own_at {w : World} {base g n c : Nat} {t : TypeId} {l : List Int} (h : w.ownsRow base t 1 (.slice (some ⟨g, 0, none⟩) n c) n (ints l)) (hl : l.length = n) (hm : n ≤ maxLen) : Mem.own w [g] [.slice (some ⟨g, 0, none⟩) n c] l := by
  refine ⟨_, n, c, rfl, hm, hl, .inr ⟨g, t, fun k => [.int .i64 (el l k)], fun _ => [], rfl, ?_, by simp [cat], fun k _ => ⟨rfl, rfl⟩⟩⟩
  have e : cat (fun k => [Value.int .i64 (el l k)]) n = ints l := by rw [cat_ints (by omega) fun _ _ => rfl, List.take_of_length_le (by omega)]
  rw [e]
  exact ⟨h.1, by rcases h.2 with h | ⟨g', r, s, a, _, b⟩; exact .inl h; exact .inr ⟨g', r, s, a, Nat.zero_le _, b⟩⟩
/-- A row of numbers is owned. -/
theorem mem_ints {w : World} {B c : Nat} {t : TypeId} {A : Option Addr} {l : List Int} (h : w.ownsRow B t 1 (.slice A l.length c) l.length (ints l)) (hl : l.length ≤ maxLen) :
    ∃ fp, Mem.own w fp [.slice A l.length c] l ∧ fp.Nodup ∧ ∀ b ∈ fp, B ≤ b := by
  rw [← fl_ints] at h
  exact own_flat (α := Int) h rfl hl
theorem givesL_of {w w' : World} {l : List Int} {e : Ending} (h : GivesInts w l e w') (hl : l.length ≤ maxLen) : GivesL w l e w' := by
  obtain ⟨v, rfl, ho, hb⟩ := h
  obtain ⟨A, c, rfl, _, _⟩ := own_form ho
  obtain ⟨fp, o, nd, lo⟩ := mem_ints ho hl
  exact ⟨A, _, c, fp, rfl, o, nd, lo, hb⟩

theorem markIntS_W (A : Option Addr) (n c : Nat) (l : List Int) (fp : List Nat) (q : Int) (w : World) (h : Mem.own w fp [.slice A n c] l) (hq : 0 ≤ q) (hq' : q ≤ 1000000000000) (hn : l.length ≤ 1048576) :
    Calls Try.prog 22 #[.slice A n c, .int .i64 q] w (fun e w' => e = .returned (.int .i64 (q + l.length)) ∧ Mem.own w' fp [.slice A n c] (seqFrom q l.length) ∧ Only fp w w') := by
  have hl : l.length = n := rd_len (Mem.own_rd h)
  by_cases h0 : n = 0
  · subst h0
    obtain rfl : l = [] := List.length_eq_zero_iff.1 hl
    clear hl hn
    have HH := Lib.hid h
    clear h
    go_enter Try.func22, Try.ntmps22
    go_wp2
    go_loopg [1, 5] 0 (fun m j i wr => i = .int .i64 0 ∧ j = .int .i64 q ∧ wr = w)
    case atStart => exact ⟨rfl, rfl, rfl⟩
    case round =>
      obtain ⟨rfl, rfl, rfl⟩ := hrel
      go_wp2
      go_ret
      exact ⟨by simp, HH.out, Only.refl _ _⟩
  · obtain ⟨g, t, rfl, ho, rfl⟩ := own_ints h h0
    refine (markIntS_u t 0 _ n c l q w ho hq hq' (by omega)).mono ?_
    rintro e w' ⟨rfl, ho', hg⟩
    rw [hl]
    exact ⟨rfl, own_at ho' (len_seq q n) (by have := rd_max (Mem.own_rd h); exact this), Only.of_grown hg fun k hk => by simp [Value.ownBlock] at hk; simp [hk]⟩
theorem heldIntS_W (A : Option Addr) (n c : Nat) (q : Int) (m : Nat) (w : World) (h : Mem.rd w w.heap.size [.slice A n c] (seqFrom q m)) (hq : 0 ≤ q) (hq' : q ≤ 1000000000000) (hm : m ≤ 1048576) :
    Calls Try.prog 23 #[.slice A n c, .int .i64 q] w (fun e w' => e = .returned (.int .i64 (q + m)) ∧ Below w.heap.size w w') := by
  obtain rfl : m = n := by have := rd_len h; rw [len_seq] at this; omega
  exact heldIntS_any A m c q w (rd_ints.1 h).2 hq hq' (by omega)
end Go.Proofs.Ythlkbkomecnbaaa
namespace Go.Proofs.Ythlkbkomecnbaaa
open Go.RowKit

theorem el_left {α : Type} [Inhabited α] {L M : List α} {i : Nat} (h : i < L.length) : el (L ++ M) i = el L i := by unfold el; rw [List.getElem?_append_left h]
theorem el_last {α : Type} [Inhabited α] {L : List α} {x : α} : el (L ++ [x]) L.length = x := by unfold el; simp

/-- The block of a row, if it has one. -/
def bl (v : Value) : List Nat := match v.ownBlock with | none => [] | some g => [g]
theorem mem_bl {v : Value} {b : Nat} : b ∈ bl v ↔ v.ownBlock = some b := by
  unfold bl
  cases v.ownBlock with
  | none => simp
  | some g => simp; exact eq_comm
/-- A row of slices of the call's own, each of which owns its numbers: fp are all of its blocks. -/
def LL (w : World) (base : Nat) (e : TypeId) (v : Value) (k : Nat) (L : List (List Int)) (fp : List Nat) : Prop :=
  L.length = k ∧ fp.Nodup ∧ ∃ (ecs : Nat → List Value) (fps : Nat → List Nat), w.ownsRow base e 1 v k (cat ecs k) ∧ (∀ i, i < k → Mem.own w (fps i) (ecs i) (el L i)) ∧ fp = bl v ++ cat fps k ∧ ∀ b ∈ fp, base ≤ b
/-- A row of numbers of the call's own. -/
def IL (w : World) (base : Nat) (e : TypeId) (v : Value) (k : Nat) (l : List Int) (fp : List Nat) : Prop := w.ownsRow base e 1 v k (ints l) ∧ fp = bl v

section
variable {w w' W : World} {base k : Nat} {e : TypeId} {v : Value} {L : List (List Int)} {l : List Int} {fp fq : List Nat}
theorem row_only {size : Nat} {xs : List Value} (h : w.ownsRow base e size v k xs) (ho : Only fq w w') (hd : ∀ b ∈ bl v, b ∉ fq) : w'.ownsRow base e size v k xs := by
  refine ⟨h.1, ?_⟩
  rcases h.2 with h0 | ⟨g, cap, cur, hv, hb, hg, r⟩
  · exact .inl h0
  · have hlt : g < w.heap.size := (Array.getElem?_eq_some_iff.1 hg).1
    exact .inr ⟨g, cap, cur, hv, hb, (ho.block g hlt (hd g (mem_bl.2 (by rw [hv]; rfl)))).trans hg, r⟩
theorem LL.nil (w : World) (base : Nat) (e : TypeId) : LL w base e (.slice none 0 0) 0 [] [] :=
  ⟨rfl, List.nodup_nil, fun _ => [], fun _ => [], World.ownsRow_nil _ _ _ _, fun i hi => absurd hi (by omega), by simp [cat, bl, Value.ownBlock], by simp⟩
theorem LL.lt (h : LL w base e v k L fp) : ∀ b ∈ fp, base ≤ b ∧ b < w.heap.size := by
  obtain ⟨_, _, ecs, fps, ho, he, rfl, lo⟩ := h
  intro b hb
  refine ⟨lo b hb, ?_⟩
  rcases List.mem_append.1 hb with hb | hb
  · exact (ho.lt b (mem_bl.1 hb)).2
  · obtain ⟨j, hj, hm⟩ := mem_cat.1 hb
    exact Mem.own_lt (he j hj) b hm
theorem LL.below (h : LL w base e v k L fp) (hb : Below w.heap.size w w') : LL w' base e v k L fp := by
  obtain ⟨hl, nd, ecs, fps, ho, he, hf, lo⟩ := h
  exact ⟨hl, nd, ecs, fps, own_below ho hb, fun i hi => Mem.own_below (he i hi) hb, hf, lo⟩
theorem LL.only (h : LL w base e v k L fp) (ho : Only fq w w') (hd : ∀ b ∈ fp, b ∉ fq) : LL w' base e v k L fp := by
  obtain ⟨hl, nd, ecs, fps, hr, he, rfl, lo⟩ := h
  exact ⟨hl, nd, ecs, fps, row_only hr ho fun b hb => hd b (List.mem_append_left _ hb), fun i hi => Mem.own_only (he i hi) ho fun b hb => hd b (List.mem_append_right _ (mem_cat.2 ⟨i, hi, hb⟩)), rfl, lo⟩
theorem IL.lt (h : IL w base e v k l fp) : ∀ b ∈ fp, base ≤ b ∧ b < w.heap.size := by
  obtain ⟨ho, rfl⟩ := h
  exact fun b hb => ho.lt b (mem_bl.1 hb)
theorem IL.below (h : IL w base e v k l fp) (hb : Below w.heap.size w w') : IL w' base e v k l fp := ⟨own_below h.1 hb, h.2⟩
theorem IL.only (h : IL w base e v k l fp) (ho : Only fq w w') (hd : ∀ b ∈ fp, b ∉ fq) : IL w' base e v k l fp := by
  obtain ⟨hr, rfl⟩ := h
  exact ⟨row_only hr ho hd, rfl⟩
theorem IL.nil (w : World) (base : Nat) (e : TypeId) : IL w base e (.slice none 0 0) 0 [] [] := ⟨World.ownsRow_nil _ _ _ _, rfl⟩
/-- What is handed out. -/
theorem LL.out (h : LL w base e v k L fp) (hm : k ≤ maxLen) : Mem.own w fp [v] L := by
  obtain ⟨hl, nd, ecs, fps, ho, he, rfl, lo⟩ := h
  rcases ho.2 with ⟨rfl, h0⟩ | ⟨g, cap, cur, rfl, hb, r⟩
  · subst h0
    exact ⟨none, 0, 0, rfl, Nat.zero_le _, hl, .inl ⟨rfl, by simp [cat, bl, Value.ownBlock]⟩⟩
  · exact ⟨_, k, cap, rfl, hm, hl, .inr ⟨g, e, ecs, fps, rfl, ⟨ho.1, .inr ⟨g, cap, cur, rfl, Nat.zero_le _, r⟩⟩, rfl, he⟩⟩
/-- The element at a place, in memory. -/
theorem LL.at (h : LL w base e v k L fp) {i : Nat} (hi : i < k) : ∃ g cap A n c, v = .slice (some ⟨g, 0, none⟩) k cap ∧ w.cell? ⟨g, i, none⟩ = some (.slice A n c) ∧ Mem.rd w w.heap.size [.slice A n c] (el L i) := by
  obtain ⟨hl, nd, ecs, fps, ho, he, _, lo⟩ := h
  have hi' := he i hi
  have hc : (cat ecs k)[i]? = (ecs i)[0]? := by
    have := cat_at (f := ecs) (s := 1) (n := k) (fun j hj => Mem.rd_len (Mem.own_rd (he j hj))) (k := i) (j := 0) hi (by omega)
    rw [Nat.mul_one, Nat.add_zero] at this
    exact this
  obtain ⟨A, n, c, e1, _⟩ := hi'
  rcases ho.2 with ⟨_, h0⟩ | ⟨g, cap, cur, rfl, _⟩
  · omega
  · refine ⟨g, cap, A, n, c, rfl, ?_, ?_⟩
    · rw [ho.cellAt i (by rw [Nat.mul_one]; exact hi), hc, e1]; rfl
    · rw [← e1]; exact Mem.own_rd (he i hi)

/-- 'append' of one slice that was made behind the row. -/
theorem LL.app {P : Program} {t ty : TypeId} {i : TypeInfo} (ht : P.underlying t = some (.slice e)) (hi : P.info? e = some i) (hz : i.zero = some (.slice none 0 0)) (hs : i.size = 1) (hby : i.bytes = 24)
    (h : LL w base e v k L fp) (hb : Below w.heap.size w W) {A : Option Addr} {n c : Nat} (o : Mem.own W fq [.slice A n c] l) (nq : fq.Nodup) (lo : ∀ b ∈ fq, w.heap.size ≤ b)
    {ad : Addr} (hc : W.cell? ad = some (.slice A n c)) (hk : k ≤ 1000000000) (hbase : base ≤ w.heap.size) :
    ∃ v' w' fp', (Builtin.append_ #[t, t] ty #[v, .slice (some ad) 1 1]).run P W = .ok v' w' ∧ LL w' base e v' (k + 1) (L ++ [l]) fp' ∧ Only fp W w' ∧ ∀ b ∈ fp', b ∈ fp ∨ b ∈ fq ∨ b = W.heap.size := by
  have hlt := h.lt
  obtain ⟨hl, nd, ecs0, fps0, ho0, he0, rfl, lo0⟩ := h
  have ho := own_below ho0 hb
  have he := fun j (hj : j < k) => Mem.own_below (he0 j hj) hb
  have hcell : ∀ (j : Nat) (u : Value), [Value.slice A n c][j]? = some u → W.cell? (ad.add j) = some u := by
    intro j u hu
    cases j with
    | zero => rw [add_zero', hc]; simpa using hu
    | succ j => simp at hu
  obtain ⟨v', w', hr, ho', hg, _, hblk⟩ := run_append_own_at (P := P) W base t ty e i (.slice none 0 0) 1 24 ht hi hz hs hby rfl (by decide) v k _ ho ad 1 1 [.slice A n c] rfl hcell (by intro u hu; simp at hu; subst hu; rfl) (by unfold maxLen; omega) (by omega) (Nat.le_trans hbase hb.size)
  have honly : Only (bl v) W w' := Only.of_grown hg fun g e => mem_bl.2 e
  have hold : ∀ b ∈ cat fps0 k, b ∉ bl v := fun b hm hm2 => (List.nodup_append.1 nd).2.2 b hm2 b hm rfl
  have hnew : ∀ b ∈ fq, b ∉ bl v := fun b hm hm2 => by have := (hlt b (List.mem_append_left _ hm2)).2; have := lo b hm; omega
  have hbl : ∀ b ∈ bl v', b ∈ bl v ∨ b = W.heap.size := fun b hm => by
    have hm := mem_bl.1 hm
    rcases hblk with q | q
    · exact .inl (mem_bl.2 (by rw [← q]; exact hm))
    · rw [q] at hm; injection hm with hm; exact .inr hm.symm
  have hin : ∀ b ∈ cat fps0 k ++ fq, b < W.heap.size := fun b hm => by
    rcases List.mem_append.1 hm with hm | hm
    · have := (hlt b (List.mem_append_right _ hm)).2; have := hb.size; omega
    · exact Mem.own_lt o b hm
  have nd2 : (bl v').Nodup := by unfold bl; cases v'.ownBlock <;> simp
  refine ⟨v', w', bl v' ++ (cat fps0 k ++ fq), hr, ⟨by simp [hl], ?_, upd ecs0 k [.slice A n c], upd fps0 k fq, by rw [cat_upd]; exact ho', fun j hj => ?_, by rw [cat_upd], fun b hm => ?_⟩, honly.mono fun b hm => List.mem_append_left _ hm, fun b hm => ?_⟩
  · rw [List.nodup_append]
    refine ⟨nd2, ?_, fun a ha b hm e => ?_⟩
    · rw [List.nodup_append]
      exact ⟨(List.nodup_append.1 nd).2.1, nq, fun a ha b hm e => by subst e; have := (hlt a (List.mem_append_right _ ha)).2; have := lo a hm; omega⟩
    · subst e
      rcases hbl a ha with q | q
      · rcases List.mem_append.1 hm with hm | hm
        · exact hold a hm q
        · exact hnew a hm q
      · have := hin a hm; omega
  · by_cases q : j = k
    · subst q
      rw [upd_at, upd_at, ← hl, el_last]
      exact Mem.own_only o honly hnew
    · have hjk : j < k := by omega
      rw [upd_ne _ _ hjk, upd_ne _ _ hjk, el_left (by omega)]
      exact Mem.own_only (he j hjk) honly fun b hm => hold b (mem_cat.2 ⟨j, hjk, hm⟩)
  · rcases List.mem_append.1 hm with hm | hm
    · rcases hbl b hm with q | q
      · exact lo0 b (List.mem_append_left _ q)
      · have := hb.size; omega
    · rcases List.mem_append.1 hm with hm | hm
      · exact lo0 b (List.mem_append_right _ hm)
      · have := lo b hm; omega
  · rcases List.mem_append.1 hm with hm | hm
    · rcases hbl b hm with q | q
      · exact .inl (List.mem_append_left _ q)
      · exact .inr (.inr q)
    · rcases List.mem_append.1 hm with hm | hm
      · exact .inl (List.mem_append_right _ hm)
      · exact .inr (.inl hm)

/-- 'append' of one number. -/
theorem IL.app {P : Program} {t ty : TypeId} {i : TypeInfo} (ht : P.underlying t = some (.slice e)) (hi : P.info? e = some i) (hz : i.zero = some (.int .i64 0)) (hs : i.size = 1) (hby : i.bytes = 8)
    (h : IL W base e v k l fp) {ad : Addr} {z : Int} (hc : W.cell? ad = some (.int .i64 z)) (hk : k ≤ 1000000000) (hbase : base ≤ W.heap.size) :
    ∃ v' w' fp', (Builtin.append_ #[t, t] ty #[v, .slice (some ad) 1 1]).run P W = .ok v' w' ∧ IL w' base e v' (k + 1) (l ++ [z]) fp' ∧ Only fp W w' ∧ ∀ b ∈ fp', b ∈ fp ∨ b = W.heap.size := by
  obtain ⟨ho, rfl⟩ := h
  have hcell : ∀ (j : Nat) (u : Value), [Value.int .i64 z][j]? = some u → W.cell? (ad.add j) = some u := by
    intro j u hu
    cases j with
    | zero => rw [add_zero', hc]; simpa using hu
    | succ j => simp at hu
  obtain ⟨v', w', hr, ho', hg, _, hblk⟩ := run_append_own_at (P := P) W base t ty e i (.int .i64 0) 1 8 ht hi hz hs hby rfl (by decide) v k _ ho ad 1 1 [.int .i64 z] rfl hcell (by intro u hu; simp at hu; subst hu; rfl) (by unfold maxLen; omega) (by omega) hbase
  refine ⟨v', w', bl v', hr, ⟨by simpa [ints] using ho', rfl⟩, Only.of_grown hg fun g e => mem_bl.2 e, fun b hm => ?_⟩
  have hm := mem_bl.1 hm
  rcases hblk with q | q
  · exact .inl (mem_bl.2 (by rw [← q]; exact hm))
  · rw [q] at hm; injection hm with hm; exact .inr hm.symm
end
end Go.Proofs.Ythlkbkomecnbaaa
namespace Go.Proofs.Ythlkbkomecnbaaa
open Go.RowKit

theorem row_slice {w : World} {base size k : Nat} {e : TypeId} {v : Value} {xs : List Value} (h : w.ownsRow base e size v k xs) : ∃ A c, v = .slice A k c := by
  obtain ⟨A, c, rfl, _⟩ := own_form h
  exact ⟨A, c, rfl⟩
theorem Blk.only {w w' : World} {g : Nat} {t : TypeId} {cs : List Value} {fq : List Nat} (h : Blk w g t cs) (ho : Only fq w w') (hg : g ∉ fq) : Blk w' g t cs := (ho.block g h.lt hg).trans h
theorem app_il {ops : Array Oper} {rest : List Oper} {o : Oper} {a : Act} {Q : Exit → Act → World → Prop} {W : World} {base k : Nat} {v : Value} {l : List Int} {z : Int} {fp : List Nat} {ad : Addr} (hgd : o.guard = none) (s x : Operand)
    (ho : o.op = .call { callee := .builtin .append, args := #[s, x], argTypes := #[22, 22] }) (hs : a.eval s = v) (h : IL W base 3 v k l fp)
    (hx : a.eval x = .slice (some ad) 1 1) (hc : W.cell? ad = some (.int .i64 z)) (hk : k ≤ 1000000000) (hbase : base ≤ W.heap.size)
    (hK : ∀ v' w' fp', IL w' base 3 v' (k + 1) (l ++ [z]) fp' → Only fp W w' → (∀ b ∈ fp', b ∈ fp ∨ b = W.heap.size) → wpList Try.prog ops Q rest (a.put o.dst v') w') : wpList Try.prog ops Q (o :: rest) a W := by
  obtain ⟨v', w', fp', hr, q1, q2, q3⟩ := IL.app (P := Try.prog) (t := 22) (ty := o.type) Try.underlying22 int_row.1 int_row.2.1 int_row.2.2.1 int_row.2.2.2 h hc hk hbase
  refine wpList_plain hgd fun K hK' => ?_
  unfold Oper.wp execOp
  simp only [ho, resolve, invoke, builtin, Sem.run_bind, Sem.run_pure, Result.andThen_ok, List.map_toArray, List.map_cons, List.map_nil, hs, hx, hr]
  exact hK' _ _ (hK v' w' fp' q1 q2 q3)
theorem IL.out {w : World} {base k : Nat} {e : TypeId} {v : Value} {l : List Int} {fp : List Nat} (h : IL w base e v k l fp) (hm : k ≤ maxLen) : Mem.own w fp [v] l ∧ fp.Nodup := by
  obtain ⟨ho, rfl⟩ := h
  have hl : l.length = k := by have := ho.1; rw [len_ints] at this; omega
  rcases ho.2 with ⟨rfl, h0⟩ | ⟨g, cap, cur, rfl, hb, r⟩
  · subst h0
    obtain rfl : l = [] := List.length_eq_zero_iff.1 hl
    exact ⟨own_none w, by simp [bl, Value.ownBlock]⟩
  · exact ⟨own_at ho hl hm, by simp [bl, Value.ownBlock]⟩
theorem app_ll {ops : Array Oper} {rest : List Oper} {o : Oper} {a : Act} {Q : Exit → Act → World → Prop} {W w : World} {base k n c : Nat} {v : Value} {L : List (List Int)} {l : List Int} {fp fq : List Nat} {A : Option Addr} {ad : Addr} (hgd : o.guard = none) (s x : Operand)
    (ho : o.op = .call { callee := .builtin .append, args := #[s, x], argTypes := #[26, 26] }) (hs : a.eval s = v) (h : LL w base 22 v k L fp) (hb : Below w.heap.size w W) (own : Mem.own W fq [.slice A n c] l) (nq : fq.Nodup) (lo : ∀ b ∈ fq, w.heap.size ≤ b)
    (hx : a.eval x = .slice (some ad) 1 1) (hc : W.cell? ad = some (.slice A n c)) (hk : k ≤ 1000000000) (hbase : base ≤ w.heap.size)
    (hK : ∀ v' w' fp', LL w' base 22 v' (k + 1) (L ++ [l]) fp' → Only fp W w' → (∀ b ∈ fp', b ∈ fp ∨ b ∈ fq ∨ b = W.heap.size) → wpList Try.prog ops Q rest (a.put o.dst v') w') : wpList Try.prog ops Q (o :: rest) a W := by
  obtain ⟨v', w', fp', hr, q1, q2, q3⟩ := LL.app (P := Try.prog) (t := 26) (ty := o.type) Try.underlying26 inS_row.1 inS_row.2.1 inS_row.2.2.1 inS_row.2.2.2 h hb own nq lo hc hk hbase
  refine wpList_plain hgd fun K hK' => ?_
  unfold Oper.wp execOp
  simp only [ho, resolve, invoke, builtin, Sem.run_bind, Sem.run_pure, Result.andThen_ok, List.map_toArray, List.map_cons, List.map_nil, hs, hx, hr]
  exact hK' _ _ (hK v' w' fp' q1 q2 q3)
theorem step_il {ops : Array Oper} {o : Oper} {a : Act} {K : Act → World → Prop} {Q : Exit → Act → World → Prop} {E : Prop} {W : World} {base k : Nat} {v : Value} {l : List Int} {z : Int} {fp : List Nat} {ad : Addr} (hgd : o.guard = none) (s x : Operand)
    (ho : o.op = .call { callee := .builtin .append, args := #[s, x], argTypes := #[22, 22] }) (hs : a.eval s = v) (h : IL W base 3 v k l fp)
    (hx : a.eval x = .slice (some ad) 1 1) (hc : W.cell? ad = some (.int .i64 z)) (hk : k ≤ 1000000000) (hbase : base ≤ W.heap.size)
    (hK : ∀ A' c' w' fp', IL w' base 3 (.slice A' (k + 1) c') (k + 1) (l ++ [z]) fp' → Only fp W w' → (∀ b ∈ fp', b ∈ fp ∨ b = W.heap.size) → K (a.put o.dst (.slice A' (k + 1) c')) w') :
    if Region.wanted o (yielded ops a.tmps) = true then Oper.wp Try.prog o a W K Q else E := by
  have hw : Region.wanted o (yielded ops a.tmps) = true := by simp [Region.wanted, hgd]
  rw [if_pos hw]
  obtain ⟨v', w', fp', hr, q1, q2, q3⟩ := IL.app (P := Try.prog) (t := 22) (ty := o.type) Try.underlying22 int_row.1 int_row.2.1 int_row.2.2.1 int_row.2.2.2 h hc hk hbase
  obtain ⟨A', c', rfl⟩ := row_slice q1.1
  unfold Oper.wp execOp
  simp only [ho, resolve, invoke, builtin, Sem.run_bind, Sem.run_pure, Result.andThen_ok, List.map_toArray, List.map_cons, List.map_nil, hs, hx, hr]
  exact hK _ _ w' fp' q1 q2 q3
theorem LL.lit (w : World) (e : TypeId) {base : Nat} (hB : base ≤ w.heap.size) : LL (w.alloc (.cells #[] e)) base e (.slice (some ⟨w.heap.size, 0, none⟩) 0 0) 0 [] [w.heap.size] :=
  ⟨rfl, by simp, fun _ => [], fun _ => [], World.ownsRow_lit (base := base) (e := e) (size := 1) w #[] 0 hB (by unfold maxLen; omega) rfl, fun i hi => absurd hi (by omega), by simp [cat, bl, Value.ownBlock], by intro b hb; simp at hb; subst hb; exact hB⟩
theorem IL.lit (w : World) (e : TypeId) {base : Nat} (hB : base ≤ w.heap.size) : IL (w.alloc (.cells #[] e)) base e (.slice (some ⟨w.heap.size, 0, none⟩) 0 0) 0 [] [w.heap.size] :=
  ⟨World.ownsRow_lit (base := base) (e := e) (size := 1) w #[] 0 hB (by unfold maxLen; omega) rfl, by simp [bl, Value.ownBlock]⟩
end Go.Proofs.Ythlkbkomecnbaaa
