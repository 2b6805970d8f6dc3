/- The exact laws' copies of systems. -/
import Derived.Test.YtfgjogmgcamfdaaDoorTo
namespace Go.Proofs.YtfgjogmgcamfdaaDoor
open Go.RowKit

theorem vr_info : (Tryd.prog.info? 98).map (fun i => (i.zero, i.size, i.bytes)) = some (some (.agg #[.int .i64 0, .int .i64 0, .int .i64 0]), 3, 24) := by kernel_rfl
noncomputable def vrRow : TypeInfo := Classical.choose (info_parts vr_info)
theorem vr_row : Tryd.prog.info? 98 = some vrRow ∧ vrRow.zero = some (.agg #[.int .i64 0, .int .i64 0, .int .i64 0]) ∧ vrRow.size = 3 ∧ vrRow.bytes = 24 := Classical.choose_spec (info_parts vr_info)
theorem rl_info : (Tryd.prog.info? 102).map (fun i => (i.zero, i.size, i.bytes)) = some (some (.agg #[.slice none 0 0, .slice none 0 0, .slice none 0 0]), 3, 72) := by kernel_rfl
noncomputable def rlRow : TypeInfo := Classical.choose (info_parts rl_info)
theorem rl_row : Tryd.prog.info? 102 = some rlRow ∧ rlRow.zero = some (.agg #[.slice none 0 0, .slice none 0 0, .slice none 0 0]) ∧ rlRow.size = 3 ∧ rlRow.bytes = 72 := Classical.choose_spec (info_parts rl_info)
theorem tmS_info : (Tryd.prog.info? 36).map (fun i => (i.zero, i.size, i.bytes)) = some (some (.slice none 0 0), 1, 24) := by kernel_rfl
noncomputable def tmSRow : TypeInfo := Classical.choose (info_parts tmS_info)
theorem tmS_row : Tryd.prog.info? 36 = some tmSRow ∧ tmSRow.zero = some (.slice none 0 0) ∧ tmSRow.size = 1 ∧ tmSRow.bytes = 24 := Classical.choose_spec (info_parts tmS_info)

theorem toTermS_M (A : Option Addr) (n c : Nat) (l : List Tm) (w : World) (h : Mem.rd w w.heap.size [.slice A n c] l) (hn : n ≤ 1048576) :
    Calls Tryd.prog 10 #[.slice A n c] w (GivesL w l) := by
  refine (toTermS_any A n c l w (rd_tms.1 h).2 hn).mono ?_
  rintro e w' ⟨v, rfl, ho, hb⟩
  obtain ⟨A', c', rfl, _, _⟩ := own_form ho
  have hl : l.length ≤ maxLen := by rw [rd_len h]; unfold maxLen; omega
  rw [← fl_tms] at ho
  obtain ⟨fp, o, nd, lo⟩ := own_flat (α := Tm) ho rfl hl
  exact ⟨A', _, c', fp, rfl, o, nd, lo, hb⟩
theorem toIntS_M (A : Option Addr) (n c : Nat) (l : List Int) (w : World) (h : Mem.rd w w.heap.size [.slice A n c] l) (hn : n ≤ 1048576) :
    Calls Tryd.prog 22 #[.slice A n c] w (GivesL w l) := by
  refine (toIntS_any A n c l w (rd_ints.1 h).2 hn).mono ?_
  rintro e w' ⟨v, rfl, ho, hb⟩
  obtain ⟨A', c', rfl, _, _⟩ := own_form ho
  have hl : l.length ≤ maxLen := by rw [rd_len h]; unfold maxLen; omega
  rw [← fl_ints] at ho
  obtain ⟨fp, o, nd, lo⟩ := own_flat (α := Int) ho rfl hl
  exact ⟨A', _, c', fp, rfl, o, nd, lo, hb⟩

theorem toVar_any (t : Vr) (w : World) : Calls Tryd.prog 65 #[t.v] w fun e w' => e = .returned t.v ∧ Below w.heap.size w w' := by
  obtain ⟨a, b, c⟩ := t
  show Calls _ _ #[.agg #[.int .i64 a, .int .i64 b, .int .i64 c]] w _
  go_enter Tryd.func65, Tryd.ntmps65
  go_wp2
  exact bodyPost_ret (v := .agg #[.int .i64 a, .int .i64 b, .int .i64 c]) (by simp [results, Tryd.results65, go_sem]) rfl ⟨rfl, ((((Below.refl _ _).alloc (Nat.le_refl _) _).alloc (by simp) _).alloc (by simp; omega) _)⟩

set_option maxHeartbeats 1000000 in
theorem toVarS_any (A : Option Addr) (n c : Nat) (l : List Vr) (w : World) (h : Mem.rd w w.heap.size [.slice A n c] l) (hn : n ≤ 1048576) :
    Calls Tryd.prog 31 #[.slice A n c] w (GivesL w l) := by
  go_enter Tryd.func31, Tryd.ntmps31
  go_wp2_with (first | (at_make; refine wpList_make_full _ rfl _ _ 31 rfl w.heap.size 98 vrRow _ 3 Tryd.underlying31 vr_row.1 vr_row.2.1 vr_row.2.2.1 _ _ _ _ n rfl rfl rfl rfl (by rw [vr_row.2.2.2]; omega) (by unfold maxLen; omega) (Nat.le_refl _) ?_; intro w1 hown hg))
  have hbw := (Below.refl w.heap.size w).grown hg (Nat.le_refl _) (by simp)
  have hblk := (Blk.of_own hown).1
  have hblk : Blk w1 w.heap.size 98 (cat (fun _ => [.int .i64 0, .int .i64 0, .int .i64 0]) n) := made_cat #[.int .i64 0, .int .i64 0, .int .i64 0] n ▸ hblk
  have hmade := MadeL.zero (l := l) hblk
  clear hg hown hblk
  go_loopg [4] n (fun m i wr => ∃ k : Nat, k + m = n ∧ i = .int .i64 k ∧ MadeL wr w.heap.size 98 [.int .i64 0, .int .i64 0, .int .i64 0] n k l ∧ Below w.heap.size w wr)
  case atStart => exact ⟨0, by omega, rfl, hmade, hbw⟩
  case round =>
    clear hmade hbw
    obtain ⟨k, hk, rfl, hm, hb⟩ := hrel
    by_cases hlt : k < n
    · obtain ⟨ad, rfl, _, h0, h1, h2⟩ := vr_at (Mem.rd_below h hb) hlt
      obtain ⟨X, Y, hblk, hX, hstep⟩ := hm.room hlt
      have hX3 : X.length = k * 3 := hX
      have HX := Lib.hid hX3
      have HS := Lib.hid hstep
      clear hm hX hX3 hstep
      go_wp2_with (first | (go_at_call 65; refine (toVar_any (el l k) _).mono ?_; rintro e w2 ⟨rfl, hb2⟩; unfold Vr.v
                            have HK := Lib.hid (hblk.below hb2 hblk.lt)
                            have f0 := HK.out.frozen (k * 3)
                            have f1 := HK.out.frozen (k * 3 + 1)
                            have f2 := HK.out.frozen (k * 3 + 2)
                            have c0 : w2.cell? ⟨w.heap.size, k * 3, none⟩ = some (.int .i64 0) := (HK.out.cell (k * 3)).trans (by rw [List.getElem?_append_right (by rw [HX.out]; omega), HX.out]; simp)
                            have c1 : w2.cell? ⟨w.heap.size, k * 3 + 1, none⟩ = some (.int .i64 0) := (HK.out.cell (k * 3 + 1)).trans (by rw [List.getElem?_append_right (by rw [HX.out]; omega), HX.out]; simp)
                            have c2 : w2.cell? ⟨w.heap.size, k * 3 + 2, none⟩ = some (.int .i64 0) := (HK.out.cell (k * 3 + 2)).trans (by rw [List.getElem?_append_right (by rw [HX.out]; omega), HX.out]; simp)))
      go_roundg (n - (k + 1))
      case measure => omega
      case rel =>
        refine ⟨k + 1, by omega, by go_num, HS.out (el l k).cs [] w2 _ hb2 ⟨rfl, rfl⟩ (by simp) (by simp) ?_ ?_, ?_⟩
        · unfold Vr.cs
          rw [← set_three HX.out]
          exact ((HK.out.set _ _).set _ _).set _ _
        · intro b hb'
          rw [setCell_heap _ _ _ hb', setCell_heap _ _ _ hb', setCell_heap _ _ _ hb']
        · exact (((hb.trans (hb2.mono hb.size)).setCell (Nat.le_refl _) _).setCell (Nat.le_refl _) _).setCell (Nat.le_refl _) _
    · obtain rfl : k = n := by omega
      go_wp2
      go_ret
      obtain ⟨fp, o, nd, lo⟩ := hm.all (rd_len h) (rd_max h)
      exact ⟨_, _, _, fp, rfl, o, nd, lo, hb⟩

set_option maxHeartbeats 1000000 in
theorem toTermSS_any (A : Option Addr) (n c : Nat) (l : List (List Tm)) (w : World) (h : Mem.rd w w.heap.size [.slice A n c] l) (hn : n ≤ 1048576) (hs : ∀ k, k < n → (el l k).length ≤ 1048576) :
    Calls Tryd.prog 95 #[.slice A n c] w (GivesL w l) := by
  go_enter Tryd.func95, Tryd.ntmps95
  go_wp2_with (first | (at_make; refine wpList_make_full _ rfl _ _ 100 rfl w.heap.size 36 tmSRow _ 1 Tryd.underlying100 tmS_row.1 tmS_row.2.1 tmS_row.2.2.1 _ _ _ _ n rfl rfl rfl rfl (by rw [tmS_row.2.2.2]; omega) (by unfold maxLen; omega) (Nat.le_refl _) ?_; intro w1 hown hg))
  have hbw := (Below.refl w.heap.size w).grown hg (Nat.le_refl _) (by simp)
  have hblk := (Blk.of_own hown).1
  have hblk : Blk w1 w.heap.size 36 (cat (fun _ => [.slice none 0 0]) n) := made_cat #[.slice none 0 0] n ▸ hblk
  have hmade := MadeL.zero (l := l) hblk
  clear hg hown hblk
  go_loopg [4] n (fun m i wr => ∃ k : Nat, k + m = n ∧ i = .int .i64 k ∧ MadeL wr w.heap.size 36 [.slice none 0 0] n k l ∧ Below w.heap.size w wr)
  case atStart => exact ⟨0, by omega, rfl, hmade, hbw⟩
  case round =>
    clear hmade hbw
    obtain ⟨k, hk, rfl, hm, hb⟩ := hrel
    by_cases hlt : k < n
    · obtain ⟨ad, A1, n1, c1, rfl, _, h0, hr⟩ := ll_at (Mem.rd_below h hb) hlt
      have hn1 : n1 ≤ 1048576 := by rw [← rd_len hr]; exact hs k hlt
      have hr := Mem.rd_more hr hb.size
      obtain ⟨X, Y, hblk, hX, hstep⟩ := hm.room hlt
      have hX3 : X.length = k := hX.trans (Nat.mul_one k)
      have HX := Lib.hid hX3
      have HS := Lib.hid hstep
      clear hm hX hX3 hstep
      go_wp2_with (first | (go_at_call 10; refine (toTermS_M A1 n1 c1 (el l k) _ hr hn1).mono ?_; rintro e w2 ⟨A2, n2, c2, fp, rfl, o2, nd2, lo2, hb2⟩
                            have HK := Lib.hid (hblk.below hb2 hblk.lt)
                            have f0 := HK.out.frozen k
                            have c0 : w2.cell? ⟨w.heap.size, k, none⟩ = some (.slice none 0 0) := (HK.out.cell k).trans (by rw [List.getElem?_append_right (by rw [HX.out]; omega), HX.out]; simp)))
      go_roundg (n - (k + 1))
      case measure => omega
      case rel =>
        refine ⟨k + 1, by omega, by go_num, HS.out _ fp w2 _ hb2 o2 nd2 lo2 ?_ ?_, ?_⟩
        · rw [← set_one HX.out (.slice none 0 0)]
          exact HK.out.set _ _
        · intro b hb'
          rw [setCell_heap _ _ _ hb']
        · exact (hb.trans (hb2.mono hb.size)).setCell (Nat.le_refl _) _
    · obtain rfl : k = n := by omega
      go_wp2
      go_ret
      obtain ⟨fp, o, nd, lo⟩ := hm.all (rd_len h) (rd_max h)
      exact ⟨_, _, _, fp, rfl, o, nd, lo, hb⟩

/-- The call gives a new rule. -/
def GivesRl (w : World) (r : Rl) (e : Ending) (w' : World) : Prop :=
  ∃ A1 n1 c1 A2 n2 c2 A3 n3 c3 fp, e = .returned (.agg #[.slice A1 n1 c1, .slice A2 n2 c2, .slice A3 n3 c3]) ∧ Mem.own w' fp [.slice A1 n1 c1, .slice A2 n2 c2, .slice A3 n3 c3] r ∧ fp.Nodup ∧ (∀ b ∈ fp, w.heap.size ≤ b) ∧ Below w.heap.size w w'
/-- A rule that is not too large. -/
structure Rl.Fits (r : Rl) : Prop where
  cond : r.cond.length ≤ 1048576
  sets : r.sets.length ≤ 1048576
  terms : r.terms.length ≤ 1048576
  term : ∀ k, k < r.terms.length → (el r.terms k).length ≤ 1048576

theorem nodup_two {f1 f2 : List Nat} {m : Nat} (h1 : f1.Nodup) (h2 : f2.Nodup) (l1 : ∀ b ∈ f1, b < m) (l2 : ∀ b ∈ f2, m ≤ b) : (f1 ++ f2).Nodup :=
  List.nodup_append.2 ⟨h1, h2, fun a ha b hb e => by have := l1 a ha; have := l2 b hb; omega⟩

set_option maxHeartbeats 1000000 in
theorem toRule_any (r : Rl) (A1 : Option Addr) (n1 c1 : Nat) (A2 : Option Addr) (n2 c2 : Nat) (A3 : Option Addr) (n3 c3 : Nat) (w : World) (h1 : Mem.rd w w.heap.size [.slice A1 n1 c1] r.cond) (h2 : Mem.rd w w.heap.size [.slice A2 n2 c2] r.sets)
    (h3 : Mem.rd w w.heap.size [.slice A3 n3 c3] r.terms) (hf : r.Fits) : Calls Tryd.prog 66 #[.agg #[.slice A1 n1 c1, .slice A2 n2 c2, .slice A3 n3 c3]] w (GivesRl w r) := by
  have i1 : n1 ≤ 1048576 := by rw [← rd_len h1]; exact hf.cond
  have i2 : n2 ≤ 1048576 := by rw [← rd_len h2]; exact hf.sets
  have i3 : n3 ≤ 1048576 := by rw [← rd_len h3]; exact hf.terms
  have i4 := Lib.hid hf.term
  have i5 := Lib.hid (rd_len h3)
  clear hf
  go_enter Tryd.func66, Tryd.ntmps66
  go_wp2_with fail
  refine (toTermS_M A1 n1 c1 r.cond _ (Mem.rd_on_alloc (Mem.rd_on_alloc (Mem.rd_on_alloc h1 _) _) _) i1).mono ?_
  rintro e w2 ⟨B1, m1, d1, f1, rfl, o1, nd1, lo1, b1⟩
  obtain ⟨hc1, hf1⟩ := bcell b1
  have hz1 := b1.size
  have L1 : Below w.heap.size w w2 := (((below_alloc w _).alloc (by simp) _).alloc (by simp; omega) _).trans (b1.mono (by simp; omega))
  have g1 : ∀ b ∈ f1, b < w2.heap.size := Mem.own_lt o1
  simp only [World.size_alloc] at lo1 hz1
  have q1 : w.heap.size + 1 + 1 < w2.heap.size := by omega
  have p1 : w.heap.size + 1 < w2.heap.size := by omega
  have q1' : w.heap.size < w2.heap.size := by omega
  go_wp2_with fail
  have L2 := L1.setCell (p := ⟨w.heap.size + 1 + 1, 0, none⟩) (by simp; omega) (.slice B1 m1 d1)
  refine (toIntS_M A2 n2 c2 r.sets _ (Mem.rd_on h2 L2) i2).mono ?_
  rintro e w3 ⟨B2, m2, d2, f2, rfl, o2, nd2, lo2, b2⟩
  obtain ⟨hc2, hf2⟩ := bcell b2
  have hz2 := b2.size
  have g2 : ∀ b ∈ f2, b < w3.heap.size := Mem.own_lt o2
  simp only [World.size_setCell] at lo2 hz2
  have q2 : w.heap.size + 1 + 1 < w3.heap.size := by omega
  have p2 : w.heap.size + 1 < w3.heap.size := by omega
  have q2' : w.heap.size < w3.heap.size := by omega
  have L3 := L2.trans (b2.mono (by simp; omega))
  go_wp2_with fail
  have L4 := L3.setCell (p := ⟨w.heap.size + 1 + 1, 1, none⟩) (by simp; omega) (.slice B2 m2 d2)
  refine (toTermSS_any A3 n3 c3 r.terms _ (Mem.rd_on h3 L4) i3 (fun k hk => i4.out k (by rw [i5.out]; exact hk))).mono ?_
  rintro e w4 ⟨B3, m3, d3, f3, rfl, o3, nd3, lo3, b3⟩
  obtain ⟨hc3, hf3⟩ := bcell b3
  have hz3 := b3.size
  simp only [World.size_setCell] at lo3 hz3
  have q3 : w.heap.size + 1 + 1 < w4.heap.size := by omega
  have p3 : w.heap.size + 1 < w4.heap.size := by omega
  have L5 := L4.trans (b3.mono (by simp; omega))
  have k1 := Mem.own_below (Mem.own_keep o1 (w' := w2.setCell ⟨w.heap.size + 1 + 1, 0, none⟩ (.slice B1 m1 d1)) fun b hb => setCell_heap _ _ _ (by have := lo1 b hb; show b ≠ w.heap.size + 1 + 1; omega)) b2
  have k1 := Mem.own_below (Mem.own_keep k1 (w' := w3.setCell ⟨w.heap.size + 1 + 1, 1, none⟩ (.slice B2 m2 d2)) fun b hb => setCell_heap _ _ _ (by have := lo1 b hb; show b ≠ w.heap.size + 1 + 1; omega)) b3
  have k2 := Mem.own_below (Mem.own_keep o2 (w' := w3.setCell ⟨w.heap.size + 1 + 1, 1, none⟩ (.slice B2 m2 d2)) fun b hb => setCell_heap _ _ _ (by have := lo2 b hb; show b ≠ w.heap.size + 1 + 1; omega)) b3
  go_wp2_with fail
  have keep : ∀ b, w.heap.size + 1 + 1 < b → ((((w4.setCell ⟨w.heap.size + 1 + 1, 2, none⟩ (Value.slice B3 m3 d3)).setCell ⟨w.heap.size + 1, 0, none⟩ (Value.slice B1 m1 d1)).setCell ⟨w.heap.size + 1, 1, none⟩ (Value.slice B2 m2 d2)).setCell ⟨w.heap.size + 1, 2, none⟩ (Value.slice B3 m3 d3)).heap[b]? = w4.heap[b]? := by
    intro b hb
    rw [setCell_heap _ _ _ (show b ≠ w.heap.size + 1 by omega), setCell_heap _ _ _ (show b ≠ w.heap.size + 1 by omega), setCell_heap _ _ _ (show b ≠ w.heap.size + 1 by omega), setCell_heap _ _ _ (show b ≠ w.heap.size + 1 + 1 by omega)]
  refine bodyPost_ret (v := .agg #[.slice B1 m1 d1, .slice B2 m2 d2, .slice B3 m3 d3]) (by simp [results, Tryd.results66, go_sem, hc3, hc2, hc1, p1, p2]) rfl ⟨B1, m1, d1, B2, m2, d2, B3, m3, d3, f1 ++ (f2 ++ f3), rfl,
    ⟨[_], [_, _], f1, f2 ++ f3, rfl, rfl, Mem.own_keep k1 fun b hb => keep b (by have := lo1 b hb; omega), [_], [_], f2, f3, rfl, rfl, Mem.own_keep k2 fun b hb => keep b (by have := lo2 b hb; omega), Mem.own_keep o3 fun b hb => keep b (by have := lo3 b hb; omega)⟩, ?_, ?_, ?_⟩
  · exact nodup_two nd1 (nodup_two nd2 nd3 g2 lo3) g1 fun b hb => by
      rcases List.mem_append.1 hb with hb | hb
      · have := lo2 b hb; omega
      · have := lo3 b hb; omega
  · intro b hb
    rcases List.mem_append.1 hb with hb | hb
    · have := lo1 b hb; omega
    · rcases List.mem_append.1 hb with hb | hb
      · have := lo2 b hb; omega
      · have := lo3 b hb; omega
  · exact (((L5.setCell (p := ⟨w.heap.size + 1 + 1, 2, none⟩) (by simp; omega) _).setCell (by simp) _).setCell (by simp) _).setCell (by simp) _

set_option maxHeartbeats 1000000 in
theorem toRuleS_any (A : Option Addr) (n c : Nat) (l : List Rl) (w : World) (h : Mem.rd w w.heap.size [.slice A n c] l) (hn : n ≤ 1048576) (hs : ∀ k, k < n → (el l k).Fits) :
    Calls Tryd.prog 32 #[.slice A n c] w (GivesL w l) := by
  go_enter Tryd.func32, Tryd.ntmps32
  go_wp2_with (first | (at_make; refine wpList_make_full _ rfl _ _ 32 rfl w.heap.size 102 rlRow _ 3 Tryd.underlying32 rl_row.1 rl_row.2.1 rl_row.2.2.1 _ _ _ _ n rfl rfl rfl rfl (by rw [rl_row.2.2.2]; omega) (by unfold maxLen; omega) (Nat.le_refl _) ?_; intro w1 hown hg))
  have hbw := (Below.refl w.heap.size w).grown hg (Nat.le_refl _) (by simp)
  have hblk := (Blk.of_own hown).1
  have hblk : Blk w1 w.heap.size 102 (cat (fun _ => [.slice none 0 0, .slice none 0 0, .slice none 0 0]) n) := made_cat #[.slice none 0 0, .slice none 0 0, .slice none 0 0] n ▸ hblk
  have hmade := MadeL.zero (l := l) hblk
  clear hg hown hblk
  go_loopg [4] n (fun m i wr => ∃ k : Nat, k + m = n ∧ i = .int .i64 k ∧ MadeL wr w.heap.size 102 [.slice none 0 0, .slice none 0 0, .slice none 0 0] n k l ∧ Below w.heap.size w wr)
  case atStart => exact ⟨0, by omega, rfl, hmade, hbw⟩
  case round =>
    clear hmade hbw
    obtain ⟨k, hk, rfl, hm, hb⟩ := hrel
    by_cases hlt : k < n
    · obtain ⟨ad, A1, n1, c1, A2, n2, c2, A3, n3, c3, rfl, _, h0, h1, h2, r1, r2, r3⟩ := rl_at (Mem.rd_below h hb) hlt
      have r1 := Mem.rd_more r1 hb.size
      have r2 := Mem.rd_more r2 hb.size
      have r3 := Mem.rd_more r3 hb.size
      have hfit := hs k hlt
      obtain ⟨X, Y, hblk, hX, hstep⟩ := hm.room hlt
      have hX3 : X.length = k * 3 := hX
      have HX := Lib.hid hX3
      have HS := Lib.hid hstep
      clear hm hX hX3 hstep
      go_wp2_with (first | (go_at_call 66; refine (toRule_any (el l k) A1 n1 c1 A2 n2 c2 A3 n3 c3 _ r1 r2 r3 hfit).mono ?_; rintro e w2 ⟨B1, m1, d1, B2, m2, d2, B3, m3, d3, fp, rfl, o2, nd2, lo2, hb2⟩
                            have HK := Lib.hid (hblk.below hb2 hblk.lt)
                            have f0 := HK.out.frozen (k * 3)
                            have f1 := HK.out.frozen (k * 3 + 1)
                            have f2 := HK.out.frozen (k * 3 + 2)
                            have c0 : w2.cell? ⟨w.heap.size, k * 3, none⟩ = some (.slice none 0 0) := (HK.out.cell (k * 3)).trans (by rw [List.getElem?_append_right (by rw [HX.out]; omega), HX.out]; simp)
                            have c1 : w2.cell? ⟨w.heap.size, k * 3 + 1, none⟩ = some (.slice none 0 0) := (HK.out.cell (k * 3 + 1)).trans (by rw [List.getElem?_append_right (by rw [HX.out]; omega), HX.out]; simp)
                            have c2 : w2.cell? ⟨w.heap.size, k * 3 + 2, none⟩ = some (.slice none 0 0) := (HK.out.cell (k * 3 + 2)).trans (by rw [List.getElem?_append_right (by rw [HX.out]; omega), HX.out]; simp)))
      go_roundg (n - (k + 1))
      case measure => omega
      case rel =>
        refine ⟨k + 1, by omega, by go_num, HS.out _ fp w2 _ hb2 o2 nd2 lo2 ?_ ?_, ?_⟩
        · rw [← set_three HX.out (.slice none 0 0) (.slice none 0 0) (.slice none 0 0)]
          exact ((HK.out.set _ _).set _ _).set _ _
        · intro b hb'
          rw [setCell_heap _ _ _ hb', setCell_heap _ _ _ hb', setCell_heap _ _ _ hb']
        · exact (((hb.trans (hb2.mono hb.size)).setCell (Nat.le_refl _) _).setCell (Nat.le_refl _) _).setCell (Nat.le_refl _) _
    · obtain rfl : k = n := by omega
      go_wp2
      go_ret
      obtain ⟨fp, o, nd, lo⟩ := hm.all (rd_len h) (rd_max h)
      exact ⟨_, _, _, fp, rfl, o, nd, lo, hb⟩

/-- The call gives a new system. -/
def GivesSy (w : World) (s : Sy) (e : Ending) (w' : World) : Prop :=
  ∃ A1 n1 c1 A2 n2 c2 f1 f2, e = .returned (.agg #[.slice A1 n1 c1, .slice A2 n2 c2]) ∧ Mem.own w' f1 [.slice A1 n1 c1] s.vars ∧ Mem.own w' f2 [.slice A2 n2 c2] s.rules ∧ (f1 ++ f2).Nodup ∧ (∀ b ∈ f1 ++ f2, w.heap.size ≤ b) ∧ Below w.heap.size w w'
/-- A system that is not too large. -/
structure Sy.Fits (s : Sy) : Prop where
  vars : s.vars.length ≤ 1048576
  rules : s.rules.length ≤ 1048576
  rule : ∀ k, k < s.rules.length → (el s.rules k).Fits

set_option maxHeartbeats 1000000 in
theorem toSystem_any (s : Sy) (A1 : Option Addr) (n1 c1 : Nat) (A2 : Option Addr) (n2 c2 : Nat) (w : World) (h1 : Mem.rd w w.heap.size [.slice A1 n1 c1] s.vars) (h2 : Mem.rd w w.heap.size [.slice A2 n2 c2] s.rules) (hf : s.Fits) :
    Calls Tryd.prog 9 #[.agg #[.slice A1 n1 c1, .slice A2 n2 c2]] w (GivesSy w s) := by
  have i1 : n1 ≤ 1048576 := by rw [← rd_len h1]; exact hf.vars
  have i2 : n2 ≤ 1048576 := by rw [← rd_len h2]; exact hf.rules
  have i4 := Lib.hid hf.rule
  have i5 := Lib.hid (rd_len h2)
  clear hf
  go_enter Tryd.func9, Tryd.ntmps9
  go_wp2_with fail
  refine (toVarS_any A1 n1 c1 s.vars _ (Mem.rd_on_alloc (Mem.rd_on_alloc (Mem.rd_on_alloc h1 _) _) _) i1).mono ?_
  rintro e w2 ⟨B1, m1, d1, f1, rfl, o1, nd1, lo1, b1⟩
  obtain ⟨hc1, hf1⟩ := bcell b1
  have hz1 := b1.size
  have L1 : Below w.heap.size w w2 := (((below_alloc w _).alloc (by simp) _).alloc (by simp; omega) _).trans (b1.mono (by simp; omega))
  have g1 : ∀ b ∈ f1, b < w2.heap.size := Mem.own_lt o1
  simp only [World.size_alloc] at lo1 hz1
  have q1 : w.heap.size + 1 + 1 < w2.heap.size := by omega
  have p1 : w.heap.size + 1 < w2.heap.size := by omega
  have q1' : w.heap.size < w2.heap.size := by omega
  go_wp2_with fail
  have L2 := L1.setCell (p := ⟨w.heap.size + 1 + 1, 0, none⟩) (by simp; omega) (.slice B1 m1 d1)
  refine (toRuleS_any A2 n2 c2 s.rules _ (Mem.rd_on h2 L2) i2 (fun k hk => i4.out k (by rw [i5.out]; exact hk))).mono ?_
  rintro e w3 ⟨B2, m2, d2, f2, rfl, o2, nd2, lo2, b2⟩
  obtain ⟨hc2, hf2⟩ := bcell b2
  have hz2 := b2.size
  simp only [World.size_setCell] at lo2 hz2
  have q2 : w.heap.size + 1 + 1 < w3.heap.size := by omega
  have p2 : w.heap.size + 1 < w3.heap.size := by omega
  have L3 := L2.trans (b2.mono (by simp; omega))
  have k1 := Mem.own_below (Mem.own_keep o1 (w' := w2.setCell ⟨w.heap.size + 1 + 1, 0, none⟩ (.slice B1 m1 d1)) fun b hb => setCell_heap _ _ _ (by have := lo1 b hb; show b ≠ w.heap.size + 1 + 1; omega)) b2
  go_wp2_with fail
  have keep : ∀ b, w.heap.size + 1 + 1 < b → (((w3.setCell ⟨w.heap.size + 1 + 1, 1, none⟩ (Value.slice B2 m2 d2)).setCell ⟨w.heap.size + 1, 0, none⟩ (Value.slice B1 m1 d1)).setCell ⟨w.heap.size + 1, 1, none⟩ (Value.slice B2 m2 d2)).heap[b]? = w3.heap[b]? := by
    intro b hb
    rw [setCell_heap _ _ _ (show b ≠ w.heap.size + 1 by omega), setCell_heap _ _ _ (show b ≠ w.heap.size + 1 by omega), setCell_heap _ _ _ (show b ≠ w.heap.size + 1 + 1 by omega)]
  refine bodyPost_ret (v := .agg #[.slice B1 m1 d1, .slice B2 m2 d2]) (by simp [results, Tryd.results9, go_sem, hc2, hc1, p1]) rfl ⟨B1, m1, d1, B2, m2, d2, f1, f2, rfl,
    Mem.own_keep k1 fun b hb => keep b (by have := lo1 b hb; omega), Mem.own_keep o2 fun b hb => keep b (by have := lo2 b hb; omega), nodup_two nd1 nd2 g1 lo2, ?_, ?_⟩
  · intro b hb
    rcases List.mem_append.1 hb with hb | hb
    · have := lo1 b hb; omega
    · have := lo2 b hb; omega
  · exact ((L3.setCell (p := ⟨w.heap.size + 1 + 1, 1, none⟩) (by simp; omega) _).setCell (by simp) _).setCell (by simp) _
end Go.Proofs.YtfgjogmgcamfdaaDoor
