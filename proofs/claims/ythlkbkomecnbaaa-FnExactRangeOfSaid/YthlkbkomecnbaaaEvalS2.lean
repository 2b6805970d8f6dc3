/- The model's Eval, whole. -/
import Derived.Test.YthlkbkomecnbaaaEvalB
import Derived.Test.YthlkbkomecnbaaaIntApp
namespace Go.Proofs.Ythlkbkomecnbaaa
open Go.RowKit

set_option maxHeartbeats 400000 in
theorem l1Held_any (n : Int) (w : World) : Calls Try.prog 112 #[.int .i64 n] w fun e w' => e = .returned (.int .i64 (hld n)) ∧ w = w' := by
  by_cases h1 : n < -9999
  · have e : hld n = -9999 := by unfold hld; rw [if_pos h1]
    rw [e]; clear e
    go_enter Try.func112, Try.ntmps112
    go_wp2
    go_ret
    exact ⟨rfl, rfl⟩
  by_cases h2 : 9999 < n
  · have e : hld n = 9999 := by unfold hld; rw [if_neg h1, if_pos h2]
    rw [e]; clear e
    go_enter Try.func112, Try.ntmps112
    go_wp2
    go_ret
    exact ⟨rfl, rfl⟩
  · have e : hld n = n := by unfold hld; rw [if_neg h1, if_neg h2]
    rw [e]; clear e
    have h3 : -9999 ≤ n := by omega
    have h4 : n ≤ 9999 := by omega
    clear h1 h2
    go_enter Try.func112, Try.ntmps112
    go_wp2
    go_ret
    exact ⟨rfl, rfl⟩

theorem l1Truth_any (b : Bool) (w : World) : Calls Try.prog 114 #[.bool b] w fun e w' => e = .returned (.int .i64 (tr b)) ∧ w = w' := by
  cases b <;> (go_enter Try.func114, Try.ntmps114; go_wp2; go_ret; exact ⟨rfl, rfl⟩)

set_option maxHeartbeats 1000000 in
theorem l1Do_any (op x y : Int) (w : World) (o1 : 2 ≤ op) (o2 : op ≤ 9) (x1 : -9999 ≤ x) (x2 : x ≤ 9999) (y1 : -9999 ≤ y) (y2 : y ≤ 9999) :
    Calls Try.prog 115 #[.int .i64 op, .int .i64 x, .int .i64 y] w fun e w' => e = .returned (.int .i64 (doOp op x y)) ∧ w = w' := by
  obtain ⟨m1, m2⟩ := mul_in x1 x2 y1 y2
  have E : ∀ z, doOp op x y = z → (Calls Try.prog 115 #[.int .i64 op, .int .i64 x, .int .i64 y] w fun e w' => e = .returned (.int .i64 z) ∧ w = w') → Calls Try.prog 115 #[.int .i64 op, .int .i64 x, .int .i64 y] w fun e w' => e = .returned (.int .i64 (doOp op x y)) ∧ w = w' := fun z e h => by rw [e]; exact h
  obtain rfl | rfl | rfl | rfl | rfl | rfl | rfl | rfl : op = 2 ∨ op = 3 ∨ op = 4 ∨ op = 5 ∨ op = 6 ∨ op = 7 ∨ op = 8 ∨ op = 9 := by omega
  · refine E (hld (x + y)) (by simp [doOp]) ?_
    clear E
    go_enter Try.func115, Try.ntmps115
    go_wp2_with (first | (go_at_call 112; refine (l1Held_any _ _).mono ?_; rintro e w' ⟨rfl, rfl⟩))
    go_ret; exact ⟨rfl, rfl⟩
  · refine E (hld (x - y)) (by simp [doOp]) ?_
    clear E
    go_enter Try.func115, Try.ntmps115
    go_wp2_with (first | (go_at_call 112; refine (l1Held_any _ _).mono ?_; rintro e w' ⟨rfl, rfl⟩))
    go_ret; exact ⟨rfl, rfl⟩
  · refine E (hld (x * y)) (by simp [doOp]) ?_
    clear E
    go_enter Try.func115, Try.ntmps115
    go_wp2_with (first | (go_at_call 112; refine (l1Held_any _ _).mono ?_; rintro e w' ⟨rfl, rfl⟩))
    go_ret; exact ⟨rfl, rfl⟩
  · refine E (tr (decide (x < y))) (by simp [doOp]) ?_
    clear E
    go_enter Try.func115, Try.ntmps115
    go_wp2_with (first | (go_at_call 114; refine (l1Truth_any _ _).mono ?_; rintro e w' ⟨rfl, rfl⟩))
    go_ret; exact ⟨rfl, rfl⟩
  · refine E (tr (x == y)) (by simp [doOp]) ?_
    clear E
    go_enter Try.func115, Try.ntmps115
    go_wp2_with (first | (go_at_call 114; refine (l1Truth_any _ _).mono ?_; rintro e w' ⟨rfl, rfl⟩))
    go_ret; exact ⟨rfl, rfl⟩
  · refine E (1 - x) (by simp [doOp]) ?_
    clear E
    go_enter Try.func115, Try.ntmps115
    go_wp2
    go_ret; exact ⟨rfl, rfl⟩
  · refine E (x * y) (by simp [doOp]) ?_
    clear E
    go_enter Try.func115, Try.ntmps115
    go_wp2
    go_ret; exact ⟨rfl, rfl⟩
  · refine E (tr (decide (0 < x + y))) (by simp [doOp]) ?_
    clear E
    go_enter Try.func115, Try.ntmps115
    go_wp2_with (first | (go_at_call 114; refine (l1Truth_any _ _).mono ?_; rintro e w' ⟨rfl, rfl⟩))
    go_ret; exact ⟨rfl, rfl⟩

end Go.Proofs.Ythlkbkomecnbaaa
namespace Go.Proofs.Ythlkbkomecnbaaa
open Go.RowKit

set_option maxRecDepth 100000 in
set_option maxHeartbeats 4000000 in
theorem l1Values_any (A : Option Addr) (n c : Nat) (A' : Option Addr) (n' c' : Nat) (l : List Tm) (st ks : List Int) (w : World) (h : Rd w w.heap.size 4 A n (tms l)) (h' : Rd w w.heap.size 1 A' n' (ints st)) (hn : n ≤ 40)
    (hs : NumsOk st) (hks : kindsTo l st.length n = some ks) :
    Calls Try.prog 177 #[.slice A n c, .slice A' n' c'] w (GivesInts w (valsTo l st n)) := by
  have hks := Lib.hid hks
  have hl' := Lib.hid h'.len
  go_enter Try.func177, Try.ntmps177
  go_wp2
  have hown0 := World.ownsRow_lit (base := w.heap.size) (e := 3) (size := 1) w #[] 0 (Nat.le_refl _) (by unfold maxLen; omega) rfl
  go_loopg [5, 6] n (fun m v i wr => ∃ k : Nat, k + m = n ∧ i = .int .i64 k ∧ wr.ownsRow w.heap.size 3 1 v k (ints (valsTo l st k)) ∧ Below w.heap.size w wr)
  case atStart => exact ⟨0, by omega, rfl, hown0, below_alloc _ _⟩
  case round =>
    obtain ⟨k, hk, rfl, ho, hb⟩ := hrel
    clear hown0
    by_cases hlt : k < n
    · obtain ⟨ks', hk', hne⟩ := kindsTo_some hks.out k (by omega)
      have hne := hne hlt
      have hfit := vals_fit hs hk'
      have hklen := kindsTo_len hk'
      obtain ⟨ad, rfl, _, h0, h1, h2, h3⟩ := (h.below hb).tm hlt
      have HV : Hid (valsTo l st (k + 1) = valsTo l st k ++ [valOf (tx l k) (valsTo l st k) st]) := rfl
      generalize htx : tx l k = t at *
      obtain ⟨op, tn, a, b⟩ := t
      clear htx
      dsimp only at h0 h1 h2 h3
      rcases kind_inv hne with ⟨e, _, _, _⟩ | ⟨e, g1, g2, _⟩ | ⟨e1, e2, ⟨a0, a1, _⟩, ⟨b0, b1, _⟩, _, _⟩
      · dsimp only at e
        subst e
        rw [show valOf ⟨0, tn, a, b⟩ (valsTo l st k) st = tn from rfl] at HV
        clear hne hfit hk' hklen
        have ho2 := fun o => ho.alloc o
        have HO := Lib.hid ho2; clear ho2
        go_wp2_with (first
          | (at_builtin; refine app_int_at rfl _ _ rfl w.heap.size _ k (valsTo l st k) _ _ rfl ((HO.out _).alloc _) rfl (World.cell?_alloc_at _ _ _ _ (by simp)) (by omega) (by have := hb.size; simp; omega) ?_; intro v' w3 ho3 hb4))
        go_roundg (n - (k + 1))
        case measure => omega
        case rel => exact ⟨k + 1, by omega, by go_num, by rw [HV.out]; exact ho3, ((hb.alloc hb.size _).alloc (by have := hb.size; simp; omega) _).trans hb4⟩
      · dsimp only at e g1 g2
        subst e
        obtain ⟨q, rfl⟩ := Int.eq_ofNat_of_zero_le g1
        have hq : q < n' := by have := hl'.out; omega
        rw [show valOf ⟨1, q, a, b⟩ (valsTo l st k) st = ix st q from rfl] at HV
        obtain ⟨ad', rfl, hbl, hc⟩ := ((h'.below hb).more hb.size).int hq
        have hc := cell_alloc hbl hc
        clear hne hfit hk' hklen g2 g1
        have ho2 := fun o => ho.alloc o
        have HO := Lib.hid ho2; clear ho2
        go_wp2_with (first
          | (at_builtin; refine app_int_at rfl _ _ rfl w.heap.size _ k (valsTo l st k) _ _ rfl ((HO.out _).alloc _) rfl (World.cell?_alloc_at _ _ _ _ (by simp)) (by omega) (by have := hb.size; simp; omega) ?_; intro v' w3 ho3 hb4))
        go_roundg (n - (k + 1))
        case measure => omega
        case rel => exact ⟨k + 1, by omega, by go_num, by rw [HV.out]; exact ho3, ((hb.alloc hb.size _).alloc (by have := hb.size; simp; omega) _).trans hb4⟩
      · dsimp only at e1 e2 a0 a1 b0 b1
        obtain ⟨p, rfl⟩ := Int.eq_ofNat_of_zero_le a0
        obtain ⟨q, rfl⟩ := Int.eq_ofNat_of_zero_le b0
        have hp : p < k := by omega
        have hq : q < k := by omega
        have fa := hfit.2 p (by omega)
        have fb := hfit.2 q (by omega)
        have e : valOf ⟨op, tn, p, q⟩ (valsTo l st k) st = doOp op (ix (valsTo l st k) p) (ix (valsTo l st k) q) := by unfold valOf; dsimp only; rw [if_neg (by omega), if_neg (by omega)]; rfl
        rw [e] at HV
        obtain ⟨x1, x2⟩ := fa.1
        obtain ⟨y1, y2⟩ := fb.1
        have gop0 : (op == 0) = false := beq_eq_false_iff_ne.2 (by omega)
        have gop1 : (op == 1) = false := beq_eq_false_iff_ne.2 (by omega)
        rcases ho.2 with ⟨_, hz⟩ | ⟨g, cap, cur, rfl, _, _⟩
        · omega
        obtain ⟨ad', ea, hgl, hcp⟩ := (Rd.of_own ho).int hp
        obtain ⟨ad'', ea', _, hcq⟩ := (Rd.of_own ho).int hq
        injection ea with ea; subst ea
        injection ea' with ea'; subst ea'
        rw [cell_at] at hcp hcq
        have hcp := fun o => (World.cell?_alloc_lt wr o ⟨g, p, none⟩ hgl).trans hcp
        have hcq := fun o => (World.cell?_alloc_lt wr o ⟨g, q, none⟩ hgl).trans hcq
        have HO := Lib.hid (fun o => ho.alloc o)
        have LD := Lib.hid (fun W => l1Do_any op (ix (valsTo l st k) p) (ix (valsTo l st k) q) W e1 e2 x1 x2 y1 y2)
        clear hne hfit hk' hklen fa fb e a0 b0 a1 b1
        generalize hx : ix (valsTo l st k) p = x at *
        generalize hy : ix (valsTo l st k) q = y at *
        have hq0 : (0 : Int) ≤ (p : Int) := Int.natCast_nonneg _
        have hq1 : (p : Int) < (k : Int) := by omega
        have hq2 : (0 : Int) ≤ (q : Int) := Int.natCast_nonneg _
        have hq3 : (q : Int) < (k : Int) := by omega
        clear hx hy
        go_wp2
        go_region_held3 (fun w' => w'.cell? ⟨wr.heap.size, 0, none⟩ = some (.int .i64 op) ∧ w'.cell? ⟨wr.heap.size, 2, none⟩ = some (.int .i64 p) ∧ w'.cell? ⟨wr.heap.size, 3, none⟩ = some (.int .i64 q) ∧ w'.cell? ⟨g, p, none⟩ = some (.int .i64 x) ∧ w'.cell? ⟨g, q, none⟩ = some (.int .i64 y))
          (first
            | go_keep
            | (go_split_ands
               refine ⟨?_, ?_, ?_, ?_, ?_⟩
               · (rw [hk4 _ _ (by simp; omega) (by simp [Value.ownBlock]; omega)]; first | assumption | (simp [go_sem]; done))
               · (rw [hk4 _ _ (by simp; omega) (by simp [Value.ownBlock]; omega)]; first | assumption | (simp [go_sem]; done))
               · (rw [hk4 _ _ (by simp; omega) (by simp [Value.ownBlock]; omega)]; first | assumption | (simp [go_sem]; done))
               · (rw [hk4 _ _ (by simp; omega) (fun _ => hp)]; first | assumption | (simp [go_sem]; done))
               · (rw [hk4 _ _ (by simp; omega) (fun _ => hq)]; first | assumption | (simp [go_sem]; done))))
          (first | (go_at_call 115; refine (LD.out _).mono ?_; rintro e w' ⟨rfl, rfl⟩) | (refine step_app_int (by rfl) _ _ (by rfl) w.heap.size (.slice (some ⟨g, 0, none⟩) k cap) k (valsTo l st k) _ _ (by rfl) (by first | exact (HO.out _).alloc _ | exact ((HO.out _).alloc _).drew | exact ((HO.out _).drew).alloc _) (by rfl) (by first | exact World.cell?_alloc_at _ _ _ _ (by simp) | (simp [go_sem]; done)) (by omega) (by have := hb.size; simp; omega) ?_; intro v' w3 ho3 hg4 hk4))
        go_wp2
        go_roundg (n - (k + 1))
        case measure => omega
        case rel =>
          refine ⟨k + 1, by omega, by go_num, by rw [HV.out]; exact ho3, ?_⟩
          have s1 := hb.size
          have s2 := (ho.lt g rfl).1
          exact (((hb.alloc s1 _).alloc (by simp; omega) _).drew).grown hg4 (by simp; omega) (by simp [Value.ownBlock]; omega)
    · obtain rfl : k = n := by omega
      go_wp2
      go_ret
      exact ⟨_, rfl, by rw [len_vals]; exact ho, hb⟩

end Go.Proofs.Ythlkbkomecnbaaa
