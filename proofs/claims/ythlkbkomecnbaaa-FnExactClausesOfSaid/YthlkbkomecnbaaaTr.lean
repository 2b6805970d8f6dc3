/- Lists of lists of numbers that a call owns: marked, and found again; runs: the exact laws' helpers for results. -/
import Derived.Test.YthlkbkomecnbaaaIl
import Derived.Test.YthlkbkomecnbaaaSysB
namespace Go.Proofs.Ythlkbkomecnbaaa
open Go.RowKit

/-- What marking leaves. -/
def seqII (q : Int) (L : List (List Int)) : List (List Int) := (List.range L.length).map fun k => seqFrom (q + sumTo (fun i => (el L i).length) k) (el L k).length
theorem seqII_len (q : Int) (L : List (List Int)) : (seqII q L).length = L.length := by simp [seqII]
theorem seqII_at (q : Int) {L : List (List Int)} {k : Nat} (h : k < L.length) : el (seqII q L) k = seqFrom (q + sumTo (fun i => (el L i).length) k) (el L k).length := by
  rw [el_lt (by rw [seqII_len]; exact h)]; simp [seqII]

theorem row_far {w w' : World} {base size n c g : Nat} {t : TypeId} {xs : List Value} {fq : List Nat} (h : w.ownsRow base t size (.slice (some ⟨g, 0, none⟩) n c) n xs) (ho : Only fq w w') (hd : g ∉ fq) : w'.ownsRow base t size (.slice (some ⟨g, 0, none⟩) n c) n xs := by
  refine ⟨h.1, ?_⟩
  rcases h.2 with h0 | ⟨g', cap, cur, hv, hb, hg, r⟩
  · exact .inl h0
  · injection hv with h1 _ h3
    injection h1 with h1
    injection h1 with h1 _ _
    subst h1; subst h3
    exact .inr ⟨g, c, cur, rfl, hb, (ho.block g (Array.getElem?_eq_some_iff.1 hg).1 hd).trans hg, r⟩

set_option maxHeartbeats 1000000 in
theorem markIntSS_W (A : Option Addr) (n c : Nat) (L : List (List Int)) (fp : List Nat) (q : Int) (w : World) (h : Mem.own w fp [.slice A n c] L) (nd : fp.Nodup) (hq : 0 ≤ q) (hq' : q ≤ 100000000000) (hs : szII L ≤ 1048576) :
    Calls Try.prog 77 #[.slice A n c, .int .i64 q] w (fun e w' => e = .returned (.int .i64 (q + mkII L)) ∧ Mem.own w' fp [.slice A n c] (seqII q L) ∧ Only fp w w') := by
  have hb : ∀ k, k < L.length → (el L k).length ≤ 1048576 := fun k hk => by
    have := sumTo_one (f := fun i => (el L i).length) hk
    unfold szII at hs
    omega
  obtain ⟨hm, hl, h0 | ⟨g, t, ecs, fps, rfl, ho, rfl, he⟩⟩ := own_row h
  · subst h0
    have e : mkII L = 0 := by unfold mkII; rw [hl]; rfl
    obtain rfl : L = [] := List.length_eq_zero_iff.1 hl
    have e2 : seqII q [] = [] := rfl
    rw [e, e2]
    have HH := Lib.hid h
    clear h hl e hb e2
    go_enter Try.func77, Try.ntmps77
    go_wp2
    go_loopg [1, 5] 0 (fun m j i wr => i = .int .i64 0 ∧ j = .int .i64 q ∧ wr = w)
    case atStart => exact ⟨rfl, rfl, rfl⟩
    case round =>
      obtain ⟨rfl, rfl, rfl⟩ := hrel
      go_wp2
      go_ret
      exact ⟨by simp, HH.out, Only.refl _ _⟩
  · have hn : n ≤ 1048576 := by unfold szII at hs; omega
    have HM : Hid (mkII L = sumTo (fun i => (el L i).length) n) := Lib.hid (by unfold mkII; rw [hl])
    have HB : Hid (∀ k, k ≤ n → sumTo (fun i => (el L i).length) k ≤ 1048576) := Lib.hid fun k hk => by
      have := sumTo_mono (f := fun i => (el L i).length) hk
      unfold szII at hs
      rw [hl] at hs
      omega
    rw [hl] at hb
    have HE := Lib.hid he
    have ND := Lib.hid nd
    obtain ⟨hg, nd'⟩ := List.nodup_cons.1 nd
    have HD := Lib.hid (nodup_cat nd')
    have HG : Hid (∀ k, k ≤ n → g ∉ cat fps k) := Lib.hid fun k hk hc => by
      obtain ⟨i, hi, hm⟩ := mem_cat.1 hc
      exact hg (mem_cat.2 ⟨i, by omega, hm⟩)
    have HO := Lib.hid ho
    have HC : Hid (∀ k, k < n → ∃ A1 n1 c1, ecs k = [.slice A1 n1 c1] ∧ w.cell? ⟨g, k, none⟩ = some (.slice A1 n1 c1)) := Lib.hid fun k hk => by
      obtain ⟨A1, n1, c1, e, _⟩ := he k hk
      refine ⟨A1, n1, c1, e, ?_⟩
      rw [ho.cellAt k (by show k < n * 1; omega)]
      have := cat_at (f := ecs) (s := 1) (n := n) (fun i hi => Mem.rd_len (Mem.own_rd (he i hi))) (k := k) (j := 0) hk (by omega)
      rw [Nat.mul_one, Nat.add_zero] at this
      rw [this, e]; rfl
    have HL := Lib.hid (ownsRow_lt ho)
    have HLn := Lib.hid hl
    have HN := Lib.hid hm
    clear h he nd nd' hg ho hl
    go_enter Try.func77, Try.ntmps77
    go_wp2
    go_loopg [1, 5] n (fun m j i wr => ∃ k x : Nat, k + m = n ∧ i = .int .i64 k ∧ j = .int .i64 (q + x) ∧ Hid (x = sumTo (fun i => (el L i).length) k) ∧ Only (cat fps k) w wr ∧ Hid (∀ i, i < k → Mem.own wr (fps i) (ecs i) (el (seqII q L) i)))
    case atStart => exact ⟨0, 0, by omega, rfl, by simp, Lib.hid rfl, Only.refl _ _, Lib.hid (fun i hi => absurd hi (by omega))⟩
    case round =>
      obtain ⟨k, x, hk, rfl, rfl, HX, hon, HP⟩ := hrel
      by_cases hlt : k < n
      · obtain ⟨A1, n1, c1, e1, hc⟩ := HC.out k hlt
        have hx : x ≤ 1048576 := by have := HB.out k (by omega); rw [← HX.out] at this; exact this
        have ow := HE.out k hlt
        rw [e1] at ow
        have ow := Mem.own_only ow hon (HD.out k hlt).2
        have hc : wr.cell? ⟨g, k, none⟩ = some (.slice A1 n1 c1) := (World.cell?_of_block (hon.block g HL.out (HG.out k (Nat.le_of_lt hlt)))).trans hc
        have hb1 := hb k hlt
        have HX1 : Hid (x + (el L k).length = sumTo (fun i => (el L i).length) (k + 1)) := Lib.hid (by rw [HX.out]; rfl)
        have E1 := Lib.hid e1
        clear e1
        go_wp2_with fail
        refine (markIntS_W A1 n1 c1 (el L k) (fps k) (q + x) wr ow (by omega) (by omega) hb1).mono ?_
        rintro e w2 ⟨rfl, hw2, ho2⟩
        have HP2 : Hid (∀ i, i < k + 1 → Mem.own w2 (fps i) (ecs i) (el (seqII q L) i)) := Lib.hid fun i hi => by
          by_cases z : i = k
          · subst z
            rw [seqII_at q (by rw [HLn.out]; exact hlt), ← HX.out, E1.out]
            exact hw2
          · have hik : i < k := by omega
            exact Mem.own_only (HP.out i hik) ho2 fun b hb2 hc2 => (HD.out k hlt).2 b hc2 (mem_cat.2 ⟨i, hik, hb2⟩)
        go_wp2
        go_roundg (n - (k + 1))
        case measure => omega
        case rel => exact ⟨k + 1, _, by omega, by go_num, by congr 1; omega, HX1, (hon.mono fun b hb => by rw [cat_succ]; simp [hb]).trans (ho2.mono fun b hb => by rw [cat_succ]; simp [hb]), HP2⟩
      · obtain rfl : k = n := by omega
        go_wp2
        go_ret
        refine ⟨congrArg (fun z => Ending.returned (.int .i64 z)) (by rw [HM.out, HX.out]), ⟨_, _, c, rfl, HN.out, by rw [seqII_len]; exact HLn.out, .inr ⟨g, t, ecs, fps, rfl, ?_, rfl, HP.out⟩⟩, hon.mono fun b hb => List.mem_cons_of_mem _ hb⟩
        exact row_far HO.out hon (HG.out _ (Nat.le_refl _))


set_option maxHeartbeats 1000000 in
theorem heldIntSS_W (A : Option Addr) (n c : Nat) (L : List (List Int)) (q : Int) (w : World) (h : Mem.rd w w.heap.size [.slice A n c] (seqII q L)) (hq : 0 ≤ q) (hq' : q ≤ 100000000000) (hs : szII L ≤ 1048576) :
    Calls Try.prog 78 #[.slice A n c, .int .i64 q] w (fun e w' => e = .returned (.int .i64 (q + mkII L)) ∧ Below w.heap.size w w') := by
  have hl := rd_len h
  rw [seqII_len] at hl
  have hm := rd_max h
  unfold maxLen at hm
  have hb : ∀ k, k < L.length → (el L k).length ≤ 1048576 := (ii_fits hs).2
  have hn : n ≤ 1048576 := by unfold szII at hs; omega
  have HM : Hid (mkII L = sumTo (fun i => (el L i).length) n) := Lib.hid (by unfold mkII; rw [hl])
  have HB : Hid (∀ k, k ≤ n → sumTo (fun i => (el L i).length) k ≤ 1048576) := Lib.hid fun k hk => by
    have := sumTo_mono (f := fun i => (el L i).length) hk
    unfold szII at hs
    rw [hl] at hs
    omega
  rw [hl] at hb
  have HB1 := Lib.hid hb
  have HLn := Lib.hid hl
  clear hb hl hs
  go_enter Try.func78, Try.ntmps78
  go_wp2
  go_loopg [1, 5] n (fun m j i wr => ∃ k x : Nat, k + m = n ∧ i = .int .i64 k ∧ j = .int .i64 (q + x) ∧ Hid (x = sumTo (fun i => (el L i).length) k) ∧ Below w.heap.size w wr)
  case atStart => exact ⟨0, 0, by omega, rfl, by simp, Lib.hid rfl, Below.refl _ _⟩
  case round =>
    obtain ⟨k, x, hk, rfl, rfl, HX, hbw⟩ := hrel
    by_cases hlt : k < n
    · obtain ⟨ad, A1, n1, c1, rfl, _, hc, hr⟩ := ll_at (Mem.rd_below h hbw) hlt
      rw [seqII_at q (by rw [HLn.out]; exact hlt), ← HX.out] at hr
      have hx : x ≤ 1048576 := by have := HB.out k (by omega); rw [← HX.out] at this; exact this
      have CC := Lib.hid (heldIntS_W A1 n1 c1 (q + x) (el L k).length wr (Mem.rd_more hr hbw.size) (by omega) (by omega) (HB1.out k hlt))
      have HX1 : Hid (x + (el L k).length = sumTo (fun i => (el L i).length) (k + 1)) := Lib.hid (by rw [HX.out]; rfl)
      obtain ⟨y, hy⟩ : ∃ y, y = (el L k).length := ⟨_, rfl⟩
      have hy2 := HB1.out k hlt
      rw [← hy] at CC HX1 hy2
      clear hr hy
      go_wp2_with fail
      refine CC.out.mono ?_
      rintro e w2 ⟨rfl, b2⟩
      go_wp2
      go_roundg (n - (k + 1))
      case measure => omega
      case rel => exact ⟨k + 1, _, by omega, by go_num, by congr 1; omega, HX1, hbw.trans (b2.mono hbw.size)⟩
    · obtain rfl : k = n := by omega
      go_wp2
      go_ret
      exact ⟨congrArg (fun z => Ending.returned (.int .i64 z)) (by rw [HM.out, HX.out]), hbw⟩

end Go.Proofs.Ythlkbkomecnbaaa
