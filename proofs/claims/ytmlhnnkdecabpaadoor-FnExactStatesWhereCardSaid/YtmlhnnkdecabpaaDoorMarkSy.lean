/- The marks of the exact laws over systems. -/
import Derived.Test.YtmlhnnkdecabpaaDoorMark
namespace Go.Proofs.YtmlhnnkdecabpaaDoor
open Go.RowKit

def mkRl (r : Rl) : Nat := 4 * r.cond.length + (r.sets.length + mkLL r.terms)
theorem mkRl_le (r : Rl) : mkRl r ≤ 4 * szRl r := by have := mkLL_le r.terms; unfold mkRl szRl; omega
def mkRls (L : List Rl) : Nat := sumTo (fun i => mkRl (el L i)) L.length
theorem mkRls_le (L : List Rl) : mkRls L ≤ 4 * szRls L := by
  have := sum_le (f := fun i => mkRl (el L i)) (g := fun i => 4 * szRl (el L i)) (n := L.length) fun k _ => mkRl_le _
  rw [sum_four] at this
  unfold mkRls szRls; omega

set_option maxHeartbeats 2000000 in
theorem markRuleS_M (A : Option Addr) (n c : Nat) (L : List Rl) (fp : List Nat) (q : Int) (w : World) (h : Mem.own w fp [.slice A n c] L) (nd : fp.Nodup) (hq : 0 ≤ q) (hq' : q ≤ 10000000000) (hs : szRls L ≤ 1048576) :
    Calls Tryd.prog 51 #[.slice A n c, .int .i64 q] w (MarksL w fp (q + mkRls L)) := by
  have hle := mkRls_le L
  have hb : ∀ k, k < L.length → szRl (el L k) ≤ 1048576 := fun k hk => by
    have := sumTo_one (f := fun i => szRl (el L i)) hk
    unfold szRls at hs
    omega
  obtain ⟨hm, hl, h0 | ⟨g, t, ecs, fps, rfl, ho, rfl, he⟩⟩ := own_row h
  · subst h0
    have e : mkRls L = 0 := by unfold mkRls; rw [hl]; rfl
    rw [e]
    clear h hl e hle hb
    go_enter Tryd.func51, Tryd.ntmps51
    go_wp2
    go_loopg [1, 5] 0 (fun m j i wr => i = .int .i64 0 ∧ j = .int .i64 q ∧ wr = w)
    case atStart => exact ⟨rfl, rfl, rfl⟩
    case round =>
      obtain ⟨rfl, rfl, rfl⟩ := hrel
      go_wp2
      go_ret
      exact ⟨by simp, Only.refl _ _⟩
  · have hn : n ≤ 1048576 := by unfold szRls at hs; omega
    have HM : Hid (mkRls L = sumTo (fun i => mkRl (el L i)) n) := Lib.hid (by unfold mkRls; rw [hl])
    have HB : Hid (∀ k, k ≤ n → sumTo (fun i => mkRl (el L i)) k ≤ 4 * 1048576) := Lib.hid fun k hk => by
      have := sumTo_mono (f := fun i => mkRl (el L i)) hk
      have e := HM.out
      omega
    rw [hl] at hb
    have HE := Lib.hid he
    obtain ⟨hg, nd'⟩ := List.nodup_cons.1 nd
    have HD := Lib.hid (nodup_cat nd')
    have HG : Hid (∀ k, k ≤ n → g ∉ cat fps k) := Lib.hid fun k hk hc => by
      obtain ⟨i, hi, hm⟩ := mem_cat.1 hc
      exact hg (mem_cat.2 ⟨i, by omega, hm⟩)
    have HC : Hid (∀ k, k < n → ∃ A1 n1 c1 A2 n2 c2 A3 n3 c3 f1 f2 f3, fps k = f1 ++ (f2 ++ f3) ∧ Mem.own w f1 [.slice A1 n1 c1] (el L k).cond ∧ Mem.own w f2 [.slice A2 n2 c2] (el L k).sets ∧ Mem.own w f3 [.slice A3 n3 c3] (el L k).terms ∧
        w.cell? ⟨g, k * 3, none⟩ = some (.slice A1 n1 c1) ∧ w.cell? ⟨g, k * 3 + 1, none⟩ = some (.slice A2 n2 c2) ∧ w.cell? ⟨g, k * 3 + 2, none⟩ = some (.slice A3 n3 c3)) := Lib.hid fun k hk => by
      obtain ⟨x1, x2, f1, f23, ec, ef, o1, y1, y2, f2, f3, ec2, ef2, o2, o3⟩ := he k hk
      subst ec2; subst ef2
      have o1' := o1; have o2' := o2; have o3' := o3
      obtain ⟨A1, n1, c1, rfl, _⟩ := o1'
      obtain ⟨A2, n2, c2, rfl, _⟩ := o2'
      obtain ⟨A3, n3, c3, rfl, _⟩ := o3'
      have hat : ∀ j, j < 3 → w.cell? ⟨g, k * 3 + j, none⟩ = (ecs k)[j]? := fun j hj => by
        rw [ho.cellAt (k * 3 + j) (by show k * 3 + j < n * 3; omega)]
        exact cat_at (f := ecs) (s := 3) (n := n) (fun i hi => Mem.rd_len (Mem.own_rd (he i hi))) hk hj
      refine ⟨A1, n1, c1, A2, n2, c2, A3, n3, c3, f1, f2, f3, ef, o1, o2, o3, ?_, ?_, ?_⟩
      · have := hat 0 (by omega); rw [ec] at this; exact this
      · have := hat 1 (by omega); rw [ec] at this; exact this
      · have := hat 2 (by omega); rw [ec] at this; exact this
    have HL := Lib.hid (ownsRow_lt ho)
    clear h he nd nd' hg ho hl hle
    go_enter Tryd.func51, Tryd.ntmps51
    go_wp2
    go_loopg [1, 5] n (fun m j i wr => ∃ k x : Nat, k + m = n ∧ i = .int .i64 k ∧ j = .int .i64 (q + x) ∧ Hid (x = sumTo (fun i => mkRl (el L i)) k) ∧ Only (cat fps k) w wr)
    case atStart => exact ⟨0, 0, by omega, rfl, by simp, Lib.hid rfl, Only.refl _ _⟩
    case round =>
      obtain ⟨k, x, hk, rfl, rfl, HX, hon⟩ := hrel
      by_cases hlt : k < n
      · obtain ⟨A1, n1, c1, A2, n2, c2, A3, n3, c3, f1, f2, f3, ef, o1, o2, o3, d0, d1, d2⟩ := HC.out k hlt
        have hx : x ≤ 4 * 1048576 := by have := HB.out k (by omega); rw [← HX.out] at this; exact this
        have nd1 := (HD.out k hlt).1
        have dj := (HD.out k hlt).2
        rw [ef] at nd1 dj
        have hgk : g ∉ f1 ++ (f2 ++ f3) := fun hc => HG.out (k + 1) (by omega) (by rw [cat_succ, ef]; exact List.mem_append_right _ hc)
        rw [List.nodup_append] at nd1
        obtain ⟨n1', n23, d1'⟩ := nd1
        rw [List.nodup_append] at n23
        obtain ⟨n2', n3', d2'⟩ := n23
        have hb1 := hb k hlt
        unfold szRl at hb1
        have HX1 : Hid (x + (4 * (el L k).cond.length + ((el L k).sets.length + mkLL (el L k).terms)) = sumTo (fun i => mkRl (el L i)) (k + 1)) := Lib.hid (by rw [HX.out]; rfl)
        have heap0 : wr.heap[g]? = w.heap[g]? := hon.block g HL.out (HG.out k (by omega))
        have o1 := Mem.own_only o1 hon fun b hb => dj b (by simp [hb])
        have o2 := Mem.own_only o2 hon fun b hb => dj b (by simp [hb])
        have o3 := Mem.own_only o3 hon fun b hb => dj b (by simp [hb])
        have e0 : wr.cell? ⟨g, k * 3, none⟩ = some (.slice A1 n1 c1) := (World.cell?_of_block heap0).trans d0
        have hgw : g < wr.heap.size := Nat.lt_of_lt_of_le HL.out hon.size
        go_wp2_with fail
        refine (markTermS_M A1 n1 c1 (el L k).cond f1 (q + x) wr o1 (by omega) (by omega) (by omega)).mono ?_
        rintro e w2 ⟨rfl, p2⟩
        have heap1 : w2.heap[g]? = w.heap[g]? := (p2.block g hgw fun hc => hgk (by simp [hc])).trans heap0
        have o2 := Mem.own_only o2 p2 fun b hb hc => d1' b hc b (by simp [hb]) rfl
        have o3 := Mem.own_only o3 p2 fun b hb hc => d1' b hc b (by simp [hb]) rfl
        have e1 : w2.cell? ⟨g, k * 3 + 1, none⟩ = some (.slice A2 n2 c2) := (World.cell?_of_block heap1).trans d1
        have hgw2 : g < w2.heap.size := Nat.lt_of_lt_of_le hgw p2.size
        go_wp2_with fail
        refine (markIntS_M A2 n2 c2 (el L k).sets f2 (q + x + 4 * (el L k).cond.length) w2 o2 (by omega) (by omega) (by omega)).mono ?_
        rintro e w3 ⟨rfl, p3⟩
        have heap2 : w3.heap[g]? = w.heap[g]? := (p3.block g hgw2 fun hc => hgk (by simp [hc])).trans heap1
        have o3 := Mem.own_only o3 p3 fun b hb hc => d2' b hc b hb rfl
        have e2 : w3.cell? ⟨g, k * 3 + 2, none⟩ = some (.slice A3 n3 c3) := (World.cell?_of_block heap2).trans d2
        go_wp2_with fail
        refine (markTermSS_M A3 n3 c3 (el L k).terms f3 (q + x + 4 * (el L k).cond.length + (el L k).sets.length) w3 o3 n3' (by omega) (by omega) (by omega)).mono ?_
        rintro e w4 ⟨rfl, p4⟩
        go_wp2
        go_roundg (n - (k + 1))
        case measure => omega
        case rel =>
          refine ⟨k + 1, _, by omega, by go_num, by congr 1; omega, HX1, ?_⟩
          have u : ∀ f : List Nat, (∀ b ∈ f, b ∈ f1 ++ (f2 ++ f3)) → ∀ b ∈ f, b ∈ cat fps (k + 1) := fun f hf b hb => by rw [cat_succ, ef]; exact List.mem_append_right _ (hf b hb)
          exact (((hon.mono fun b hb => by rw [cat_succ]; exact List.mem_append_left _ hb).trans (p2.mono (u f1 fun b hb => by simp [hb]))).trans (p3.mono (u f2 fun b hb => by simp [hb]))).trans (p4.mono (u f3 fun b hb => by simp [hb]))
      · obtain rfl : k = n := by omega
        go_wp2
        go_ret
        exact ⟨congrArg (fun z => Ending.returned (.int .i64 z)) (by rw [HM.out, HX.out]), hon.mono fun b hb => List.mem_cons_of_mem _ hb⟩

def mkSy (s : Sy) : Nat := 3 * s.vars.length + mkRls s.rules
set_option maxHeartbeats 1000000 in
theorem markSystem_M (s : Sy) (A1 : Option Addr) (n1 c1 : Nat) (A2 : Option Addr) (n2 c2 : Nat) (f1 f2 : List Nat) (q : Int) (w : World) (h1 : Mem.own w f1 [.slice A1 n1 c1] s.vars) (h2 : Mem.own w f2 [.slice A2 n2 c2] s.rules) (nd : (f1 ++ f2).Nodup)
    (hq : 0 ≤ q) (hq' : q ≤ 1000000) (hs : szSy s ≤ 1048576) :
    Calls Tryd.prog 18 #[.agg #[.slice A1 n1 c1, .slice A2 n2 c2], .int .i64 q] w (MarksL w (f1 ++ f2) (q + mkSy s)) := by
  unfold szSy at hs
  rw [List.nodup_append] at nd
  obtain ⟨_, nd2, dj⟩ := nd
  have hz : w.heap.size ∉ f1 := fun hc => by have := Mem.own_lt h1 _ hc; omega
  go_enter Tryd.func18, Tryd.ntmps18
  go_wp2_with fail
  refine (markVarS_M A1 n1 c1 s.vars f1 q _ (Mem.own_below h1 (below_alloc _ _)) (by omega) (by omega) (by omega)).mono ?_
  rintro e w2 ⟨rfl, p2⟩
  have x1 : w2.cell? ⟨w.heap.size, 1, none⟩ = some (.slice A2 n2 c2) := (World.cell?_of_block (p2.block w.heap.size (by simp) hz)).trans (by simp [go_sem])
  have o2 := Mem.own_only (Mem.own_below h2 (below_alloc w (.cells #[.slice A1 n1 c1, .slice A2 n2 c2] 34))) p2 fun b hb hc => dj b hc b hb rfl
  go_wp2_with fail
  refine (markRuleS_M A2 n2 c2 s.rules f2 (q + 3 * s.vars.length) w2 o2 nd2 (by omega) (by omega) (by omega)).mono ?_
  rintro e w3 ⟨rfl, p3⟩
  go_wp2
  go_ret
  refine ⟨congrArg (fun z => Ending.returned (.int .i64 z)) (by unfold mkSy; omega), ?_⟩
  have z0 : Only (f1 ++ f2) w (w.alloc (.cells #[.slice A1 n1 c1, .slice A2 n2 c2] 34)) := Only.of_below (below_alloc _ _) _
  exact (z0.trans (p2.mono fun b hb => by simp [hb])).trans (p3.mono fun b hb => by simp [hb])
end Go.Proofs.YtmlhnnkdecabpaaDoor
