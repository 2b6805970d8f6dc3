/- Diagrams: DiagramRow, in the model and in the program. -/
import Derived.Test.YtfkdggiigomgkaaDgT
import Derived.Test.YtfkdggiigomgkaaDgK
import Derived.Test.YtfkdggiigomgkaaDgV
import Derived.Test.YtfkdggiigomgkaaDgF
import Derived.Test.YtfkdggiigomgkaaIntApp
import Derived.Test.YtfkdggiigomgkaaIl
namespace Go.Proofs.Ytfkdggiigomgkaa
open Go.RowKit

/-- The first row for which a place is true, from a variable on. -/
def rowGo (d : Dg) : Nat → Int → Int → List Int
  | 0, _, _ => []
  | k + 1, v, n => (if atP d n v 0 = 0 then 1 else 0) :: rowGo d k (v + 1) (atP d n v (if atP d n v 0 = 0 then 1 else 0))
theorem rowGo_succ (d : Dg) (k : Nat) (v n : Int) : rowGo d (k + 1) v n = (if atP d n v 0 = 0 then 1 else 0) :: rowGo d k (v + 1) (atP d n v (if atP d n v 0 = 0 then 1 else 0)) := rfl
theorem rowGo_len (d : Dg) : ∀ (k : Nat) (v n : Int), (rowGo d k v n).length = k
  | 0, _, _ => rfl
  | k + 1, v, n => by unfold rowGo; rw [List.length_cons, rowGo_len d k]
theorem atP_far {d : Dg} {n v x : Int} (h : v < varP d n) : atP d n v x = n := if_pos (by omega)
theorem atP_fork {d : Dg} {n v x : Int} (h : varP d n = v) : atP d n v x = if x = 1 then (fkA d n).hi else (fkA d n).lo := if_neg (fun q => q h)
theorem rowGo_far {d : Dg} {k : Nat} {v n : Int} (h : v < varP d n) (hn : n ≠ 0) : rowGo d (k + 1) v n = 0 :: rowGo d k (v + 1) n := by
  rw [rowGo_succ, atP_far h, if_neg hn, atP_far h]
theorem rowGo_skip {d : Dg} {n : Int} (hn : n ≠ 0) : ∀ (j k : Nat) (v : Int), v + j ≤ varP d n → rowGo d (j + k) v n = List.replicate j 0 ++ rowGo d k (v + j) n
  | 0, k, v, _ => by rw [Nat.zero_add, show v + ((0 : Nat) : Int) = v by omega]; rfl
  | j + 1, k, v, h => by
    rw [show j + 1 + k = (j + k) + 1 by omega, rowGo_far (by omega) hn, rowGo_skip hn j k (v + 1) (by omega), show v + 1 + (j : Int) = v + ((j + 1 : Nat) : Int) by omega]
    rfl
noncomputable def dgRowB (d : Dg) (n : Int) : List Int := if (dgB d && isP d n && decide (n ≠ 0)) = true then rowGo d d.vars.toNat 0 n else []
theorem dgRowB_le (d : Dg) (n : Int) : (dgRowB d n).length ≤ 12 := by
  unfold dgRowB
  split
  · rename_i h
    rw [Bool.and_eq_true, Bool.and_eq_true] at h
    have ok := dgB_iff.1 h.1.1
    have := ok.hi
    rw [rowGo_len]; omega
  · exact Nat.zero_le _
theorem dgRowB_len (d : Dg) (n : Int) : (dgRowB d n).length ≤ 1000000 := Nat.le_trans (dgRowB_le d n) (by omega)

theorem copiedI_zero {l : List Int} {n k : Nat} (hl : l.length = n) (h : k < n) (z : ix l k = 0) : copiedI l n k = copiedI l n (k + 1) := by
  rw [← copiedI_succ hl h, z]
  have c := copiedI_at (l := l) hl h
  apply List.ext_getElem?
  intro i
  rw [List.getElem?_set]
  split
  · rename_i e
    subst e
    rw [c]
    split
    · rfl
    · rename_i q
      exact absurd (List.getElem?_eq_some_iff.1 c).1 q
  · rfl
theorem copiedI_zeros {l : List Int} {n k : Nat} (hl : l.length = n) : ∀ j : Nat, k + j ≤ n → (∀ i, i < j → ix l (k + i) = 0) → copiedI l n k = copiedI l n (k + j)
  | 0, _, _ => rfl
  | j + 1, h, z => by rw [copiedI_zeros hl j (by omega) (fun i hi => z i (by omega)), copiedI_zero hl (by omega) (z j (by omega))]; rfl
theorem ix_drop {l : List Int} {k i : Nat} : ix (l.drop k) i = ix l (k + i) := by unfold ix; rw [List.getElem?_drop]
theorem ix_zeros {m : List Int} {j i : Nat} (h : i < j) : ix (List.replicate j 0 ++ m) i = 0 := by
  unfold ix
  rw [List.getElem?_append_left (by simp [h]), List.getElem?_replicate, if_pos h]; rfl
/-- What stands in a row ahead of a place's variable. -/
structure RowAt (d : Dg) (R : List Int) (nv V : Nat) (m : Int) : Prop where
  len : R.length = nv
  le : V ≤ nv
  rest : R.drop V = rowGo d (nv - V) V m
theorem RowAt.skip {d : Dg} {R : List Int} {nv V V' : Nat} {m : Int} (h : RowAt d R nv V m) (hm : m ≠ 0) (h1 : V ≤ V') (h2 : (V' : Int) ≤ varP d m) (h3 : V' ≤ nv) : RowAt d R nv V' m ∧ copiedI R nv V = copiedI R nv V' := by
  obtain ⟨j, rfl⟩ : ∃ j, V' = V + j := ⟨V' - V, by omega⟩
  have e := h.rest
  rw [show nv - V = j + (nv - (V + j)) by omega, rowGo_skip hm j _ _ (by omega)] at e
  refine ⟨⟨h.len, h3, ?_⟩, copiedI_zeros h.len j h3 fun i hi => ?_⟩
  · rw [← List.drop_drop, e, List.drop_left' (by simp), show ((V + j : Nat) : Int) = (V : Int) + j by omega]
  · rw [← ix_drop, e, ix_zeros hi]
theorem RowAt.one {d : Dg} {R : List Int} {nv V : Nat} {m : Int} (h : RowAt d R nv V m) (hV : V < nv) : ix R V = (if atP d m V 0 = 0 then 1 else 0) ∧ RowAt d R nv (V + 1) (atP d m V (if atP d m V 0 = 0 then 1 else 0)) := by
  have e := h.rest
  rw [show nv - V = (nv - (V + 1)) + 1 by omega] at e
  rw [rowGo_succ] at e
  refine ⟨?_, h.len, hV, ?_⟩
  · have : ix (R.drop V) 0 = ix R V := ix_drop
    rw [← this, e]; rfl
  · rw [← List.drop_drop, e, show ((V + 1 : Nat) : Int) = (V : Int) + 1 by omega]; rfl
/-- One step of the program: from a fork on. -/
theorem RowAt.step {d : Dg} {R : List Int} {nv V : Nat} {m : Int} (ok : d.Ok) (h : RowAt d R nv V m) (hnv : d.vars = nv) (hm : isP d m = true) (h2 : 2 ≤ m) (hV : varP d m = V) :
    V < nv ∧ ix R V = (if (fkA d m).lo = 0 then 1 else 0) ∧ ∀ m' : Int, m' = (if ix R V = 1 then (fkA d m).hi else (fkA d m).lo) →
      isP d m' = true ∧ m' ≠ 0 ∧ m' < m ∧ 0 ≤ m' ∧ ∃ V' : Nat, varP d m' = V' ∧ RowAt d R nv V' m' ∧ copiedI R nv (V + 1) = copiedI R nv V' := by
  have lt := varP_lt ok hm h2
  have hVn : V < nv := by omega
  have hp := isP_iff.1 hm
  have F := ok.fit h2 hp.2
  have ap : (fkA d m).lo ≠ (fkA d m).hi := by unfold fkA; exact ok.apart _ (by omega)
  obtain ⟨e1, e2⟩ := h.one hVn
  have z0 : atP d m V 0 = (fkA d m).lo := by rw [atP_fork hV]; rfl
  rw [z0] at e1 e2
  refine ⟨hVn, e1, fun m' e => ?_⟩
  have e' : m' = atP d m V (if (fkA d m).lo = 0 then 1 else 0) := by rw [atP_fork hV, e, e1]
  rw [← e'] at e2
  have ho := atP_ok ok hm (v := V) (x := if (fkA d m).lo = 0 then 1 else 0) (by omega) (by omega)
  rw [← e'] at ho
  have n0 : m' ≠ 0 := by
    rw [e, e1]
    by_cases z : (fkA d m).lo = 0
    · rw [if_pos z, if_pos rfl]; rw [z] at ap; exact fun q => ap q.symm
    · rw [if_neg z, if_neg (by omega)]; exact z
  have lm : m' < m ∧ 0 ≤ m' := by
    have := F.l1; have := F.h1; have := F.l0; have := F.h0
    rw [e]
    split <;> omega
  have hv' := ok.var ho.1
  obtain ⟨V', hV'⟩ : ∃ V' : Nat, varP d m' = V' := ⟨(varP d m').toNat, by omega⟩
  obtain ⟨r1, r2⟩ := e2.skip n0 (V' := V') (by omega) (by omega) (by omega)
  exact ⟨ho.1, n0, lm.1, lm.2, V', hV', r1, r2⟩
theorem RowAt.first {d : Dg} {nv : Nat} {n : Int} (_hnv : d.vars = nv) : RowAt d (rowGo d nv 0 n) nv 0 n := ⟨rowGo_len _ _ _ _, Nat.zero_le _, rfl⟩
theorem take_one {l : List Int} {k : Nat} (h : k < l.length) : l.take (k + 1) = l.take k ++ [ix l k] := by rw [List.take_succ_eq_append_getElem h, ix_lt h]

set_option maxRecDepth 100000 in
set_option maxHeartbeats 2000000 in
theorem dgRow_spec0 (d : Dg) (n : Int) (A : Option Addr) (c : Nat) (w : World) (h1 : Mem.rd w w.heap.size [.slice A d.forks.length c] d.forks) :
    Calls Try.prog 39 #[.agg #[.int .i64 d.vars, .slice A d.forks.length c], .int .i64 n] w (GivesInts w (dgRowB d n)) := by
  have BX := Lib.hid (ci_box (w := w) (v1 := .int .i64 d.vars) (v2 := .slice A d.forks.length c) (t := 29))
  have CK := Lib.hid (fun W (B : Below w.heap.size w W) => dgValid_spec d A d.forks.length c W (Mem.rd_on h1 B))
  have own0 : Hid (((w.alloc (.cells #[.int .i64 d.vars, .slice A d.forks.length c] 29)).alloc (.cells #[] 3)).ownsRow (w.alloc (.cells #[.int .i64 d.vars, .slice A d.forks.length c] 29)).heap.size 3 1 (.slice (some ⟨w.heap.size + 1, 0, none⟩) 0 0) 0 (ints [])) := Lib.hid (by
    have := World.ownsRow_lit (base := (w.alloc (.cells #[.int .i64 d.vars, .slice A d.forks.length c] 29)).heap.size) (e := 3) (size := 1) (w.alloc (.cells #[.int .i64 d.vars, .slice A d.forks.length c] 29)) #[] 0 (Nat.le_refl _) (by unfold maxLen; omega) rfl
    simp only [World.size_alloc] at this ⊢
    exact this)
  have bb0 := Lib.hid (below_alloc (w.alloc (.cells #[.int .i64 d.vars, .slice A d.forks.length c] 29)) (.cells #[] 3))
  have BB0 : Below w.heap.size w ((w.alloc (.cells #[.int .i64 d.vars, .slice A d.forks.length c] 29)).alloc (.cells #[] 3)) := (below_alloc w _).alloc (by simp) _
  have B2 := Lib.hid (fun W (B : Below ((w.alloc (.cells #[.int .i64 d.vars, .slice A d.forks.length c] 29)).alloc (.cells #[] 3)).heap.size ((w.alloc (.cells #[.int .i64 d.vars, .slice A d.forks.length c] 29)).alloc (.cells #[] 3)) W) => bb0.out.trans (B.mono (by simp)))
  have EM := Lib.hid (fun W (B : Below ((w.alloc (.cells #[.int .i64 d.vars, .slice A d.forks.length c] 29)).alloc (.cells #[] 3)).heap.size ((w.alloc (.cells #[.int .i64 d.vars, .slice A d.forks.length c] 29)).alloc (.cells #[] 3)) W) => (own_base (own_below own0.out B) (show w.heap.size ≤ _ by simp)))
  cases k1 : dgB d
  · rw [k1] at CK
    rw [show dgRowB d n = [] from if_neg (by rw [k1]; simp)]
    clear h1 k1
    go_enter Try.func39, Try.ntmps39
    go_wp2_with fail
    refine (CK.out _ BB0).mono ?_
    rintro e w1 ⟨rfl, b1⟩
    obtain ⟨B, x0, x1⟩ := BX.out _ (B2.out _ b1)
    go_wp2
    go_ret
    exact ⟨_, rfl, EM.out _ b1, B⟩
  · rw [k1] at CK
    have ok := dgB_iff.1 k1
    have few := ok.few
    have LP := Lib.hid (fun W => l8Place_any d A c n W (by omega))
    cases q1 : isP d n
    · rw [q1] at LP
      rw [show dgRowB d n = [] from if_neg (by rw [k1, q1]; simp)]
      clear h1 k1 q1 ok
      go_enter Try.func39, Try.ntmps39
      go_wp2_with fail
      refine (CK.out _ BB0).mono ?_
      rintro e w1 ⟨rfl, b1⟩
      obtain ⟨B, x0, x1⟩ := BX.out _ (B2.out _ b1)
      go_wp2_with fail
      refine (LP.out _).mono ?_
      rintro e w2 ⟨rfl, c2⟩
      have b2 := b1.trans (c2.mono b1.size)
      obtain ⟨B, x0, x1⟩ := BX.out _ (B2.out _ b2)
      go_wp2
      go_ret
      exact ⟨_, rfl, EM.out _ b2, B⟩
    · rw [q1] at LP
      by_cases q2 : n = 0
      · rw [show dgRowB d n = [] from if_neg (by rw [decide_eq_false (fun q => q q2)]; simp)]
        subst q2
        clear h1 k1 q1 ok
        go_enter Try.func39, Try.ntmps39
        go_wp2_with fail
        refine (CK.out _ BB0).mono ?_
        rintro e w1 ⟨rfl, b1⟩
        obtain ⟨B, x0, x1⟩ := BX.out _ (B2.out _ b1)
        go_wp2_with fail
        refine (LP.out _).mono ?_
        rintro e w2 ⟨rfl, c2⟩
        have b2 := b1.trans (c2.mono b1.size)
        obtain ⟨B, x0, x1⟩ := BX.out _ (B2.out _ b2)
        go_wp2
        go_ret
        exact ⟨_, rfl, EM.out _ b2, B⟩
      · rw [show dgRowB d n = rowGo d d.vars.toNat 0 n from if_pos (by rw [k1, q1, decide_eq_true q2]; rfl)]
        have g2 : (n == 0) = false := by simp [q2]
        obtain ⟨nv, hnv⟩ : ∃ nv : Nat, d.vars = nv := ⟨d.vars.toNat, by have := ok.lo; omega⟩
        have nv12 : nv ≤ 12 := by have := ok.hi; omega
        have RA := Lib.hid (RowAt.first (n := n) hnv)
        have RL := Lib.hid (fun (R : List Int) k m (h : RowAt d R nv k m) (hk : k < nv) => h.one hk)
        have TK := Lib.hid (fun (R : List Int) k m (h : RowAt d R nv k m) (hk : k < nv) => take_one (l := R) (k := k) (by rw [h.len]; exact hk))
        have TA := Lib.hid (fun (R : List Int) k m (h : RowAt d R nv k m) (hk : k = nv) => (List.take_of_length_le (by rw [h.len, hk]; exact Nat.le_refl _) : R.take k = R))
        have AO := Lib.hid (fun m v x (hm : isP d m = true) (hv : v ≤ varP d m) (h : v < d.vars) => atP_ok ok hm hv (x := x) h)
        have AT := Lib.hid (fun W (B : Below w.heap.size w W) m v x (hm : isP d m = true) (hv : v < d.vars) => l8At_any d A d.forks.length c m v x W (Mem.rd_on h1 B) (by omega) (isP_iff.1 hm).2 hv)
        have V0 := Lib.hid (ok.var q1).1
        have Q1 := Lib.hid q1
        rw [show d.vars.toNat = nv by omega]
        generalize rowGo d nv 0 n = R at *
        have HNV := Lib.hid hnv
        have RLN := Lib.hid (RA.out.len)
        clear h1 k1 q1 ok hnv
        go_enter Try.func39, Try.ntmps39
        go_wp2_with fail
        refine (CK.out _ BB0).mono ?_
        rintro e w1 ⟨rfl, b1⟩
        obtain ⟨B, x0, x1⟩ := BX.out _ (B2.out _ b1)
        go_wp2_with fail
        refine (LP.out _).mono ?_
        rintro e w2 ⟨rfl, c2⟩
        have b2 := b1.trans (c2.mono b1.size)
        obtain ⟨B, x0, x1⟩ := BX.out _ (B2.out _ b2)
        have own2 := Lib.hid (own_below own0.out b2)
        have b2 := Lib.hid (B2.out _ b2)
        clear b1 c2 own0 bb0 BB0 EM CK LP B2
        go_wp2_with fail
        go_loopg [1, 5, 6] nv (fun r nn v i wr => ∃ (k : Nat) (m : Int), k + r = nv ∧ nn = .int .i64 m ∧ i = .int .i64 k ∧ Hid (isP d m = true) ∧ Hid ((k : Int) ≤ varP d m) ∧ Hid (RowAt d R nv k m) ∧ Hid (wr.ownsRow (w.alloc (.cells #[.int .i64 d.vars, .slice A d.forks.length c] 29)).heap.size 3 1 v k (ints (R.take k))) ∧ Hid (Below (w.alloc (.cells #[.int .i64 d.vars, .slice A d.forks.length c] 29)).heap.size (w.alloc (.cells #[.int .i64 d.vars, .slice A d.forks.length c] 29)) wr))
        case atStart => exact ⟨0, n, by omega, rfl, rfl, Q1, V0, RA, own2, b2⟩
        case round =>
          clear own2 b2 RA V0 Q1 x0 x1 B g2
          obtain ⟨k, m, hk, rfl, rfl, HP, HV, RK, HO, hb⟩ := hrel
          obtain ⟨B, x0, x1⟩ := BX.out _ hb.out
          by_cases hlt : k < nv
          · have hkv : (k : Int) < d.vars := by rw [HNV.out]; omega
            have ON := Lib.hid (RL.out _ _ _ RK.out hlt)
            have HT := Lib.hid (TK.out _ _ _ RK.out hlt)
            have AT0 := Lib.hid (fun W B => AT.out W B m k 0 HP.out hkv)
            have AT1 := Lib.hid (fun W B => AT.out W B m k 1 HP.out hkv)
            have AO0 := Lib.hid (AO.out m k 0 HP.out HV.out hkv)
            have AO1 := Lib.hid (AO.out m k 1 HP.out HV.out hkv)
            clear TA RL TK AT AO
            by_cases z0 : atP d m k 0 = 0
            · rw [z0, if_pos rfl] at ON
              rw [z0] at AT0
              rw [ON.out.1] at HT
              go_wp2_with fail
              refine (AT0.out _ B).mono ?_
              rintro e w3 ⟨rfl, c3⟩
              have b3 := hb.out.trans (c3.mono hb.out.size)
              obtain ⟨B3, x0, x1⟩ := BX.out _ b3
              have o3 := own_below HO.out c3
              go_wp2_with (first
                | (at_builtin; refine app_int_at rfl _ _ rfl (w.alloc (.cells #[.int .i64 d.vars, .slice A d.forks.length c] 29)).heap.size _ k _ _ _ rfl (o3.alloc _) rfl (World.cell?_alloc_at _ _ _ _ (by simp)) (by omega) (by have := b3.size; simp at this ⊢; omega) ?_; intro v' w6 ho6 hb6
                   have b6 := (b3.alloc b3.size _).trans hb6
                   obtain ⟨B6, x0, x1⟩ := BX.out _ b6
                   clear B B3))
              refine (AT1.out _ B6).mono ?_
              rintro e w7 ⟨rfl, c7⟩
              have b7 := b6.trans (c7.mono b6.size)
              have o7 := own_below ho6 c7
              go_wp2
              go_roundg (nv - (k + 1))
              case measure => omega
              case rel => exact ⟨k + 1, _, by omega, rfl, by go_num, Lib.hid AO1.out.1, Lib.hid (by have := AO1.out.2; omega), Lib.hid ON.out.2, by rw [HT.out]; exact Lib.hid o7, Lib.hid b7⟩
            · rw [if_neg z0] at ON
              have g4 : (atP d m k 0 == 0) = false := by simp [z0]
              rw [ON.out.1] at HT
              go_wp2_with fail
              refine (AT0.out _ B).mono ?_
              rintro e w3 ⟨rfl, c3⟩
              have b3 := hb.out.trans (c3.mono hb.out.size)
              obtain ⟨B3, x0, x1⟩ := BX.out _ b3
              have o3 := own_below HO.out c3
              go_wp2_with (first
                | (at_builtin; refine app_int_at rfl _ _ rfl (w.alloc (.cells #[.int .i64 d.vars, .slice A d.forks.length c] 29)).heap.size _ k _ _ _ rfl (o3.alloc _) rfl (World.cell?_alloc_at _ _ _ _ (by simp)) (by omega) (by have := b3.size; simp at this ⊢; omega) ?_; intro v' w6 ho6 hb6
                   have b6 := (b3.alloc b3.size _).trans hb6
                   obtain ⟨B6, x0, x1⟩ := BX.out _ b6
                   clear B B3))
              refine (AT0.out _ B6).mono ?_
              rintro e w7 ⟨rfl, c7⟩
              have b7 := b6.trans (c7.mono b6.size)
              have o7 := own_below ho6 c7
              go_wp2
              go_roundg (nv - (k + 1))
              case measure => omega
              case rel => exact ⟨k + 1, _, by omega, rfl, by go_num, Lib.hid AO0.out.1, Lib.hid (by have := AO0.out.2; omega), Lib.hid ON.out.2, by rw [HT.out]; exact Lib.hid o7, Lib.hid b7⟩
          · have ek : k = nv := by omega
            have nk : ¬ (k : Int) < d.vars := by rw [HNV.out]; omega
            have O4 := Lib.hid (own_base HO.out (show w.heap.size ≤ (w.alloc (.cells #[.int .i64 d.vars, .slice A d.forks.length c] 29)).heap.size by simp))
            rw [TA.out _ _ _ RK.out ek, show k = R.length by rw [RLN.out]; exact ek] at O4
            go_wp2
            go_ret
            exact ⟨_, rfl, O4.out, B⟩
theorem dgRow_spec (d : Dg) (n : Int) (A : Option Addr) (n1 c : Nat) (w : World) (h1 : Mem.rd w w.heap.size [.slice A n1 c] d.forks) :
    Calls Try.prog 39 #[.agg #[.int .i64 d.vars, .slice A n1 c], .int .i64 n] w (GivesL w (dgRowB d n)) := by
  obtain rfl : d.forks.length = n1 := rd_len h1
  exact (dgRow_spec0 d n A c w h1).mono fun e w' h => givesL_of h (Nat.le_trans (dgRowB_le d n) (by unfold maxLen; omega))

theorem truthD_any (b : Bool) (w : World) : Calls Try.prog 77 #[.bool b] w fun e w' => e = .returned (.int .i64 (if b = true then 1 else 0)) ∧ w = w' := by
  cases b <;> (go_enter Try.func77, Try.ntmps77; go_wp2; go_ret; exact ⟨rfl, rfl⟩)

set_option maxRecDepth 100000 in
set_option maxHeartbeats 2000000 in
theorem dgRow_impl (d : Dg) (n : Int) (A : Option Addr) (n1 c : Nat) (w : World) (h1 : Mem.rd w w.heap.size [.slice A n1 c] d.forks) :
    Calls Try.prog 40 #[.agg #[.int .i64 d.vars, .slice A n1 c], .int .i64 n] w (GivesL w (dgRowB d n)) := by
  obtain rfl : d.forks.length = n1 := rd_len h1
  have BX := Lib.hid (ci_box (w := w) (v1 := .int .i64 d.vars) (v2 := .slice A d.forks.length c) (t := 29))
  have HP := Lib.hid (fun W (B : Below w.heap.size w W) => hasPlaces_any d [n] A d.forks.length c (some ⟨W.heap.size, 0, none⟩) 1 1 (W.alloc (.cells #[.int .i64 n] 3)) (Mem.rd_on_alloc (Mem.rd_on h1 B) _) (rd_newD1 W n))
  have eP : (dgB d && areP d [n]) = (dgB d && isP d n) := by simp [areP]
  rw [eP] at HP
  cases k1 : (dgB d && isP d n)
  · rw [k1] at HP
    rw [show dgRowB d n = [] from if_neg (by rw [k1]; simp)]
    clear h1 k1 eP
    have MK0 := HP.out (w.alloc (.cells #[.int .i64 d.vars, .slice A d.forks.length c] 29)) (below_alloc _ _)
    simp only [World.size_alloc] at MK0
    go_enter Try.func40, Try.ntmps40
    go_wp2_with fail
    refine MK0.mono ?_
    rintro e w1 ⟨rfl, b1'⟩
    have b1 := below_call b1'
    obtain ⟨B1, x0, x1⟩ := BX.out _ b1
    go_wp2
    go_ret
    exact ⟨none, 0, 0, [], rfl, own_none _, List.nodup_nil, (fun b hb => by cases hb), B1⟩
  · rw [k1] at HP
    by_cases q2 : n = 0
    · rw [show dgRowB d n = [] from if_neg (by rw [decide_eq_false (fun q => q q2)]; simp)]
      subst q2
      clear h1 k1 eP
      have MK0 := HP.out (w.alloc (.cells #[.int .i64 d.vars, .slice A d.forks.length c] 29)) (below_alloc _ _)
      simp only [World.size_alloc] at MK0
      go_enter Try.func40, Try.ntmps40
      go_wp2_with fail
      refine MK0.mono ?_
      rintro e w1 ⟨rfl, b1'⟩
      have b1 := below_call b1'
      obtain ⟨B1, x0, x1⟩ := BX.out _ b1
      go_wp2
      go_ret
      exact ⟨none, 0, 0, [], rfl, own_none _, List.nodup_nil, (fun b hb => by cases hb), B1⟩
    · rw [show dgRowB d n = rowGo d d.vars.toNat 0 n from if_pos (by rw [k1, decide_eq_true q2]; rfl)]
      have g2 : (n == 0) = false := by simp [q2]
      rw [Bool.and_eq_true] at k1
      obtain ⟨k1, q1⟩ := k1
      have ok := dgB_iff.1 k1
      have few := ok.few
      have n00 : 0 ≤ n := (isP_iff.1 q1).1
      obtain ⟨nv, hnv⟩ : ∃ nv : Nat, d.vars = nv := ⟨d.vars.toNat, by have := ok.lo; omega⟩
      have nv12 : nv ≤ 12 := by have := ok.hi; omega
      obtain ⟨V0, hV0⟩ : ∃ V0 : Nat, varP d n = V0 := ⟨(varP d n).toNat, by have := (ok.var q1).1; omega⟩
      have hV0n : V0 ≤ nv := by have := (ok.var q1).2; omega
      have RA := (RowAt.first (n := n) hnv).skip q2 (V' := V0) (Nat.zero_le _) (by omega) hV0n
      have PI := Lib.hid (fun n (hn : isP d n = true) => isP_iff.1 hn)
      have FT := Lib.hid (fun n (hn : isP d n = true) (h2 : 2 ≤ n) => ok.fit h2 (isP_iff.1 hn).2)
      have FO := Lib.hid (fun n W (B : Below w.heap.size w W) (h2 : 2 ≤ n) (hn : isP d n = true) => fork_any d A d.forks.length c n W (Mem.rd_on h1 B) (by omega) h2 (isP_iff.1 hn).2)
      have VK := Lib.hid (fun n (h2 : 2 ≤ n) => (show varP d n = (fkA d n).v from if_neg (by omega)))
      have VC := Lib.hid (fun n (h2 : n < 2) => ((show varP d n = d.vars from if_pos h2).trans hnv))
      rw [show d.vars.toNat = nv by omega]
      generalize hR : rowGo d nv 0 n = R at *
      have LR : R.length = nv := RA.1.len
      have C0 := Lib.hid (copiedI_none R nv)
      have ST := Lib.hid (fun m V (h : RowAt d R nv V m) (hm : isP d m = true) (h2 : 2 ≤ m) (hV : varP d m = V) => h.step ok hnv hm h2 hV)
      have RA1 := Lib.hid RA.1
      have RA2 := Lib.hid RA.2
      have HV0 := Lib.hid hV0
      have HP0 := Lib.hid q1
      have HN0 := Lib.hid q2
      have HLR := Lib.hid LR
      refine Calls.mono (R := GivesInts w R) ?_ (fun e w' h => givesL_of h (by rw [HLR.out]; unfold maxLen; omega))
      rw [hnv] at BX HP FO ⊢
      clear h1 k1 eP ok q1 q2 hnv RA hV0 hR LR hV0n
      have MK0 := HP.out (w.alloc (.cells #[.int .i64 nv, .slice A d.forks.length c] 29)) (below_alloc _ _)
      simp only [World.size_alloc] at MK0
      go_enter Try.func40, Try.ntmps40
      go_wp2_with fail
      refine MK0.mono ?_
      rintro e w1 ⟨rfl, b1'⟩
      have b1 := below_call b1'
      obtain ⟨B1, x0, x1⟩ := BX.out _ b1
      have S1 := b1.size
      go_wp2_with (first | (at_make; refine wpList_make_full _ rfl _ _ 37 rfl w1.heap.size 3 intRow _ 1 Try.underlying37 int_row.1 int_row.2.1 int_row.2.2.1 _ _ _ _ nv rfl rfl rfl rfl (by rw [int_row.2.2.2]; omega) (by unfold maxLen; omega) (Nat.le_refl _) ?_; intro w2 hown hg))
      have hbw := (Below.refl w1.heap.size w1).grown hg (Nat.le_refl _) (by simp)
      have hblk := (Blk.of_own hown).1
      rw [C0.out, RA2.out] at hblk
      have K2 := Lib.hid hblk
      have b2 := Lib.hid (b1.trans (hbw.mono S1))
      generalize w1.heap.size = g at *
      clear hown hg hbw hblk MK0 b1' b1 B1 x0 x1 HP RA2 C0
      go_loopg [1] n.toNat (fun r i wr => ∃ (m : Int) (V : Nat), (r : Int) = m ∧ i = .int .i64 m ∧ Hid (isP d m = true) ∧ Hid (m ≠ 0) ∧ Hid (varP d m = V) ∧ Hid (RowAt d R nv V m) ∧ Hid (Blk wr g 3 (copiedI R nv V)) ∧ Hid (Below (w.alloc (.cells #[.int .i64 nv, .slice A d.forks.length c] 29)).heap.size (w.alloc (.cells #[.int .i64 nv, .slice A d.forks.length c] 29)) wr))
      case atStart => exact ⟨n, V0, by omega, rfl, HP0, HN0, HV0, RA1, K2, b2⟩
      case round =>
        clear K2 b2 HP0 HN0 HV0 RA1 g2 n00
        obtain ⟨m, V, hr, rfl, HPm, HNm, HV, RK, HK, hb⟩ := hrel
        obtain ⟨B, x0, x1⟩ := BX.out _ hb.out
        by_cases g2 : 2 ≤ m
        · have FK := Lib.hid (FO.out m wr B g2 HPm.out)
          have F := FT.out _ HPm.out g2
          have HST := Lib.hid (ST.out m V RK.out HPm.out g2 HV.out)
          have f0 := F.v0
          have f2 := F.l0
          have fv : (fkA d m).v = V := (VK.out m g2).symm.trans HV.out
          clear F ST FT FO
          generalize fkA d m = G at *
          obtain ⟨ga, gb, gc⟩ := G
          dsimp only [Fk.u] at *
          subst fv
          have hVn : V < nv := HST.out.1
          have vn : (V : Int) < nv := by omega
          go_wp2_with fail
          refine FK.out.mono ?_
          rintro e w4 ⟨rfl, c4⟩
          have b4 := hb.out.trans (c4.mono hb.out.size)
          obtain ⟨B4, x0, x1⟩ := BX.out _ b4
          have K4 := HK.out.below c4 HK.out.lt
          have K4f := K4.frozen V
          have K4c := (K4.cell V).trans (copiedI_at HLR.out hVn)
          have K4l := K4.lt
          have hgB : (w.alloc (.cells #[.int .i64 nv, .slice A d.forks.length c] 29)).heap.size ≤ g := by simpa using S1
          have SZ4 : g < w4.heap.size := K4l
          by_cases z : gb = 0
          · subst z
            have TT := Lib.hid (fun W => (truthD_any true W : Calls Try.prog 77 #[.bool true] W fun e w' => e = .returned (.int .i64 1) ∧ W = w'))
            have HX := HST.out.2
            rw [if_pos rfl] at HX
            obtain ⟨hx, HM⟩ := HX
            have HM := Lib.hid (HM _ rfl)
            rw [hx, if_pos rfl] at HM
            have HCS := Lib.hid (copiedI_succ HLR.out hVn)
            rw [hx] at HCS
            have TO := Lib.hid (fun W => to_any ⟨V, 0, gc⟩ 1 W)
            rw [if_pos rfl] at TO
            dsimp only [Fk.u] at TO
            clear HST hx
            go_wp2
            go_region_law (first | (go_simp; go_at_call 77; refine (TT.out _).mono ?_; rintro e w5 ⟨rfl, rfl⟩))
            all_goals
              have hK5 := K4.set V (.int .i64 1)
              have b5 := b4.setCell (p := ⟨g, V, none⟩) hgB (.int .i64 1)
              have e5 := hK5.cell V
              rw [HCS.out] at hK5
              have hl5 : (w4.setCell ⟨g, V, none⟩ (.int .i64 1)).heap.size = w4.heap.size := by simp [World.setCell]
              rw [List.getElem?_set_self (by have := (List.getElem?_eq_some_iff.1 (copiedI_at HLR.out hVn)).1; exact this)] at e5
              rw [← hl5]
              generalize w4.setCell ⟨g, V, none⟩ (.int .i64 1) = w5 at *
              obtain ⟨B5, x0, x1⟩ := BX.out _ b5
              have hlg : g < w5.heap.size := by omega
              clear hl5
              have k5 : Blk (w5.alloc (.cells #[.int .i64 V, .int .i64 0, .int .i64 gc] 52)).drew w5.heap.size 52 [.int .i64 V, .int .i64 0, .int .i64 gc] := blk_of_heap (ci_blk w5 #[.int .i64 V, .int .i64 0, .int .i64 gc] 52) rfl
              have b5a : Below w5.heap.size w5 (w5.alloc (.cells #[.int .i64 V, .int .i64 0, .int .i64 gc] 52)).drew := by
                have := below_alloc w5 (.cells #[.int .i64 V, .int .i64 0, .int .i64 gc] 52)
                exact ⟨this.os, this.tape, this.output, this.size, this.block⟩
              go_wp2
              generalize (w5.alloc (.cells #[.int .i64 V, .int .i64 0, .int .i64 gc] 52)).drew = W5 at *
              have b6 := b5.trans (b5a.mono b5.size)
              have hK6 := hK5.below b5a hlg
              have e6 := cell_below b5a (p := ⟨g, V, none⟩) hlg e5
              obtain ⟨B6, x0, x1⟩ := BX.out _ b6
              have s6 := k5.lt
              have y0 := k5.cell 0
              have y1 := k5.cell 1
              have y2 := k5.cell 2
              simp only [List.getElem?_cons_zero, List.getElem?_cons_succ] at y0 y1 y2
              have lg6 := hK6.lt
              go_region_held3 (fun w' => w'.cell? ⟨w5.heap.size, 0, none⟩ = some (.int .i64 V) ∧ w'.cell? ⟨w5.heap.size, 1, none⟩ = some (.int .i64 0) ∧ w'.cell? ⟨w5.heap.size, 2, none⟩ = some (.int .i64 gc) ∧ w'.cell? ⟨g, V, none⟩ = some (.int .i64 1)) (go_keep)
                (first
                  | (go_at_call 62; refine (TO.out _).mono ?_; rintro e w6 ⟨rfl, c6⟩
                     have c7 : Below W5.heap.size W5 w6 := ⟨c6.os, c6.tape, c6.output, c6.size, c6.block⟩
                     have y0 := cell_below c7 (p := ⟨w5.heap.size, 0, none⟩) s6 y0
                     have y1 := cell_below c7 (p := ⟨w5.heap.size, 1, none⟩) s6 y1
                     have y2 := cell_below c7 (p := ⟨w5.heap.size, 2, none⟩) s6 y2
                     have e6 := cell_below c7 (p := ⟨g, V, none⟩) lg6 e6))
              all_goals
                obtain ⟨hp, hn0, hlt', h0', V', hV', hR', hC'⟩ := HM.out
                rw [hC'] at hK6
                go_wp2
                go_roundg (gc).toNat
                case measure => omega
                case rel => exact ⟨gc, V', by omega, rfl, Lib.hid hp, Lib.hid hn0, Lib.hid hV', Lib.hid hR', Lib.hid (hK6.below c7 lg6), Lib.hid (b6.trans (c7.mono b6.size))⟩
          · have gz : (gb == 0) = false := by simp [z]
            have TT := Lib.hid (fun W => (truthD_any false W : Calls Try.prog 77 #[.bool false] W fun e w' => e = .returned (.int .i64 0) ∧ W = w'))
            have HX := HST.out.2
            rw [if_neg z] at HX
            obtain ⟨hx, HM⟩ := HX
            have HM := Lib.hid (HM _ rfl)
            rw [hx, if_neg (show ¬ (0 : Int) = 1 by omega)] at HM
            have HCS := Lib.hid (copiedI_succ HLR.out hVn)
            rw [hx] at HCS
            have TO := Lib.hid (fun W => to_any ⟨V, gb, gc⟩ 0 W)
            rw [if_neg (show ¬ (0 : Int) = 1 by omega)] at TO
            dsimp only [Fk.u] at TO
            clear HST hx
            go_wp2
            go_region_law (first | (go_simp; go_at_call 77; refine (TT.out _).mono ?_; rintro e w5 ⟨rfl, rfl⟩))
            all_goals
              have hK5 := K4.set V (.int .i64 0)
              have b5 := b4.setCell (p := ⟨g, V, none⟩) hgB (.int .i64 0)
              have e5 := hK5.cell V
              rw [HCS.out] at hK5
              have hl5 : (w4.setCell ⟨g, V, none⟩ (.int .i64 0)).heap.size = w4.heap.size := by simp [World.setCell]
              rw [List.getElem?_set_self (by have := (List.getElem?_eq_some_iff.1 (copiedI_at HLR.out hVn)).1; exact this)] at e5
              rw [← hl5]
              generalize w4.setCell ⟨g, V, none⟩ (.int .i64 0) = w5 at *
              obtain ⟨B5, x0, x1⟩ := BX.out _ b5
              have hlg : g < w5.heap.size := by omega
              clear hl5
              have k5 : Blk (w5.alloc (.cells #[.int .i64 V, .int .i64 gb, .int .i64 gc] 52)).drew w5.heap.size 52 [.int .i64 V, .int .i64 gb, .int .i64 gc] := blk_of_heap (ci_blk w5 #[.int .i64 V, .int .i64 gb, .int .i64 gc] 52) rfl
              have b5a : Below w5.heap.size w5 (w5.alloc (.cells #[.int .i64 V, .int .i64 gb, .int .i64 gc] 52)).drew := by
                have := below_alloc w5 (.cells #[.int .i64 V, .int .i64 gb, .int .i64 gc] 52)
                exact ⟨this.os, this.tape, this.output, this.size, this.block⟩
              go_wp2
              generalize (w5.alloc (.cells #[.int .i64 V, .int .i64 gb, .int .i64 gc] 52)).drew = W5 at *
              have b6 := b5.trans (b5a.mono b5.size)
              have hK6 := hK5.below b5a hlg
              have e6 := cell_below b5a (p := ⟨g, V, none⟩) hlg e5
              obtain ⟨B6, x0, x1⟩ := BX.out _ b6
              have s6 := k5.lt
              have y0 := k5.cell 0
              have y1 := k5.cell 1
              have y2 := k5.cell 2
              simp only [List.getElem?_cons_zero, List.getElem?_cons_succ] at y0 y1 y2
              have lg6 := hK6.lt
              go_region_held3 (fun w' => w'.cell? ⟨w5.heap.size, 0, none⟩ = some (.int .i64 V) ∧ w'.cell? ⟨w5.heap.size, 1, none⟩ = some (.int .i64 gb) ∧ w'.cell? ⟨w5.heap.size, 2, none⟩ = some (.int .i64 gc) ∧ w'.cell? ⟨g, V, none⟩ = some (.int .i64 0)) (go_keep)
                (first
                  | (go_at_call 62; refine (TO.out _).mono ?_; rintro e w6 ⟨rfl, c6⟩
                     have c7 : Below W5.heap.size W5 w6 := ⟨c6.os, c6.tape, c6.output, c6.size, c6.block⟩
                     have y0 := cell_below c7 (p := ⟨w5.heap.size, 0, none⟩) s6 y0
                     have y1 := cell_below c7 (p := ⟨w5.heap.size, 1, none⟩) s6 y1
                     have y2 := cell_below c7 (p := ⟨w5.heap.size, 2, none⟩) s6 y2
                     have e6 := cell_below c7 (p := ⟨g, V, none⟩) lg6 e6))
              all_goals
                obtain ⟨hp, hn0, hlt', h0', V', hV', hR', hC'⟩ := HM.out
                rw [hC'] at hK6
                go_wp2
                go_roundg (gb).toNat
                case measure => omega
                case rel => exact ⟨gb, V', by omega, rfl, Lib.hid hp, Lib.hid hn0, Lib.hid hV', Lib.hid hR', Lib.hid (hK6.below c7 lg6), Lib.hid (b6.trans (c7.mono b6.size))⟩
        · have ml : m = 1 := by have := PI.out _ HPm.out; have := HNm.out; omega
          have VE := (VC.out m (by omega)).symm.trans HV.out
          have VE' : V = nv := by omega
          have KE := HK.out
          rw [VE', copiedI_all HLR.out] at KE
          have hgB : w.heap.size ≤ g := by have := S1; rw [World.size_alloc] at this; omega
          have HO := Lib.hid (KE.own hgB (by unfold maxLen; omega) (by rw [len_ints, HLR.out]; omega) : wr.ownsRow w.heap.size 3 1 (.slice (some ⟨g, 0, none⟩) nv nv) nv (ints R))
          go_wp2
          go_ret
          exact ⟨_, rfl, by rw [HLR.out]; exact HO.out, B⟩
end Go.Proofs.Ytfkdggiigomgkaa
