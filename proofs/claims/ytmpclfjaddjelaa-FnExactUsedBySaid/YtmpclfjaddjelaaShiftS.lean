/- The model's Shifted. -/
import Derived.Test.YtmpclfjaddjelaaShift
namespace Go.Proofs.Ytmpclfjaddjelaa
open Go.RowKit

theorem new_tm_at (W : World) (t : Tm) (g : Nat) (hg : g = W.heap.size) : ∀ j u, (tms [t])[j]? = some u → (W.alloc (.cells #[.int .i64 t.op, .int .i64 t.n, .int .i64 t.a, .int .i64 t.b] 64)).cell? ((⟨g, 0, none⟩ : Addr).add j) = some u := by
  subst hg; exact new_tm W t

theorem map_take_succ {d : Int} {l : List Tm} {k : Nat} (h : k < l.length) : (l.take (k + 1)).map (sh1 d) = (l.take k).map (sh1 d) ++ [sh1 d (tx l k)] := by
  rw [List.take_succ_eq_append_getElem h, tx_lt h, List.map_append]; rfl

set_option maxHeartbeats 2000000 in
theorem shifted_spec (A : Option Addr) (n c : Nat) (l : List Tm) (vars d : Int) (w : World) (h : Rd w w.heap.size 4 A n (tms l)) (hn : n ≤ maxLen) :
    Calls Try.prog 29 #[.slice A n c, .int .i64 vars, .int .i64 d] w (GivesTms w (shiftedL l vars d)) := by
  have hl := Lib.hid h.tlen
  cases g : validB l vars
  · have e : shiftedL l vars d = [] := by unfold shiftedL shOk; rw [g]; rfl
    rw [e]
    have G := Lib.hid g
    clear e g
    go_enter Try.func29, Try.ntmps29
    go_wp2_with fail
    refine (valid_spec A n c l vars _ h hn).mono ?_
    rintro e w1 ⟨rfl, b1⟩
    rw [G.out]
    go_wp2
    go_ret
    exact gives_none _ _ b1
  obtain ⟨s1, s2, s3, s4⟩ := valid_small g
  have hs1 : 1 ≤ n := by have := hl.out; omega
  have hs2 : n ≤ 40 := by have := hl.out; omega
  cases g2 : inB d 0 (5 - vars)
  · have e : shiftedL l vars d = [] := by unfold shiftedL shOk; rw [g, g2]; rfl
    rw [e]
    have G := Lib.hid g
    have G2 := Lib.hid g2
    clear e g g2
    go_enter Try.func29, Try.ntmps29
    go_wp2_with fail
    refine (valid_spec A n c l vars _ h hn).mono ?_
    rintro e w1 ⟨rfl, b1⟩
    rw [G.out]
    go_wp2_with fail
    refine (l1In_any _ _ _ _).mono ?_
    rintro e w2 ⟨rfl, rfl⟩
    rw [G2.out]
    go_wp2
    go_ret
    exact gives_none _ _ b1
  · have e : shiftedL l vars d = l.map (sh1 d) := by unfold shiftedL shOk; rw [g, g2]; rfl
    rw [e]
    obtain ⟨d1, d2⟩ := inB_iff.1 g2
    have hv := Lib.hid (fun k (hk : k < l.length) e => var_small g (k := k) hk e)
    have G := Lib.hid g
    have G2 := Lib.hid g2
    clear e g g2
    go_enter Try.func29, Try.ntmps29
    go_wp2_with fail
    refine (valid_spec A n c l vars _ h hn).mono ?_
    rintro e w1 ⟨rfl, b1⟩
    rw [G.out]
    go_wp2_with fail
    refine (l1In_any _ _ _ _).mono ?_
    rintro e w2 ⟨rfl, rfl⟩
    rw [G2.out]
    go_wp2
    have hown0 := World.ownsRow_lit (base := w.heap.size) (e := 64) (size := 4) w1 #[] 0 b1.size (by unfold maxLen; omega) rfl
    go_loopg [7, 8] n (fun m v i wr => ∃ k : Nat, k + m = n ∧ i = .int .i64 k ∧ wr.ownsRow w.heap.size 64 4 v k (tms ((l.take k).map (sh1 d))) ∧ Below w.heap.size w wr)
    case atStart => exact ⟨0, by omega, rfl, hown0, b1.alloc b1.size _⟩
    case round =>
      obtain ⟨k, hk, rfl, ho, hb⟩ := hrel
      clear hown0
      by_cases hlt : k < n
      · have hkl : k < l.length := by have := hl.out; omega
        obtain ⟨ad, rfl, _, h0, h1, h2, h3⟩ := (h.below hb).tm hlt
        have M := Lib.hid (map_take_succ (d := d) hkl)
        have HO := Lib.hid (fun o => ho.alloc o)
        cases ht : (tx l k).op == 1
        · have e : sh1 d (tx l k) = tx l k := by unfold sh1; rw [if_neg (by simpa using ht)]
          have E := Lib.hid e; clear e
          go_wp2_with (first | (at_builtin; refine app_tms_at rfl _ _ rfl w.heap.size _ k ((l.take k).map (sh1 d)) [tx l k] 1 1 _ rfl ((HO.out _).alloc _) rfl rfl (new_tm_at _ (tx l k) _ (by simp)) (by omega) (by have := hb.size; simp; omega) ?_; intro v' w3 ho3 hb3))
          go_roundg (n - (k + 1))
          case measure => omega
          case rel => exact ⟨k + 1, by omega, by go_num, by rw [M.out, E.out]; exact ho3, ((hb.alloc hb.size _).alloc (by have := hb.size; simp; omega) _).trans hb3⟩
        · have ht' : (tx l k).op = 1 := by simpa using ht
          have e : sh1 d (tx l k) = ⟨(tx l k).op, (tx l k).n + d, (tx l k).a, (tx l k).b⟩ := by unfold sh1; rw [if_pos ht']
          have E := Lib.hid e; clear e
          obtain ⟨q1, q2⟩ := hv.out k hkl ht'
          clear ht'
          go_wp2_with (first | (at_builtin; refine app_tms_at rfl _ _ rfl w.heap.size _ k ((l.take k).map (sh1 d)) [⟨(tx l k).op, (tx l k).n + d, (tx l k).a, (tx l k).b⟩] 1 1 _ rfl ((HO.out _).alloc _) rfl rfl (new_tm_at _ ⟨(tx l k).op, (tx l k).n + d, (tx l k).a, (tx l k).b⟩ _ (by simp)) (by omega) (by have := hb.size; simp; omega) ?_; intro v' w3 ho3 hb3))
          go_roundg (n - (k + 1))
          case measure => omega
          case rel => exact ⟨k + 1, by omega, by go_num, by rw [M.out, E.out]; exact ho3, ((hb.alloc hb.size _).alloc (by have := hb.size; simp; omega) _).trans hb3⟩
      · obtain rfl : k = n := by omega
        go_wp2
        go_ret
        rw [List.take_of_length_le (by have := hl.out; omega)] at ho
        refine ⟨_, rfl, ?_, hb⟩
        rw [List.length_map, hl.out]
        exact ho

theorem shifted_len (l : List Tm) (vars d : Int) : (shiftedL l vars d).length ≤ 40 := by
  unfold shiftedL
  cases g : shOk l vars d
  · simp
  · unfold shOk at g
    simp only [Bool.and_eq_true] at g
    have := valid_small g.1
    simp; omega
end Go.Proofs.Ytmpclfjaddjelaa
