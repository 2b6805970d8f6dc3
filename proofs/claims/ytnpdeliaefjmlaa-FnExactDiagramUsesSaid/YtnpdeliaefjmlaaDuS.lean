/- Diagrams: DiagramUses, in the model. -/
import Derived.Test.YtnpdeliaefjmlaaRcS
import Derived.Test.YtnpdeliaefjmlaaDuP
namespace Go.Proofs.Ytnpdeliaefjmlaa
open Go.RowKit
set_option maxRecDepth 100000

theorem run_app_int_at (base : Nat) (v : Value) (k : Nat) (l : List Int) (z : Int) (ty : TypeId) (W : World) (hown : W.ownsRow base 3 1 v k (ints l)) (ad : Addr) (had : W.cell? ad = some (.int .i64 z)) (hk : k < 1000000000) (hb : base ≤ W.heap.size) :
    ∃ v' w', (Builtin.append_ #[26, 26] ty #[v, .slice (some ad) 1 1]).run Try.prog W = .ok v' w' ∧ w'.ownsRow base 3 1 v' (k + 1) (ints (l ++ [z])) ∧ W.grownBy w' v.ownBlock ∧ (v'.ownBlock = v.ownBlock ∨ v'.ownBlock = some W.heap.size) := by
  have hm : ∀ (j : Nat) (u : Value), [Value.int .i64 z][j]? = some u → W.cell? (ad.add j) = some u := by
    intro j u hu
    cases j with
    | zero => rw [add_zero', had]; simpa using hu
    | succ j => simp at hu
  obtain ⟨v', w', hrun, h1, h2, _, h4⟩ := run_append_own_at (P := Try.prog) W base 26 ty 3 intRow (.int .i64 0) 1 8 Try.underlying26 int_row.1 int_row.2.1 int_row.2.2.1 int_row.2.2.2 rfl (by decide) v k _ hown ad 1 1 [.int .i64 z] rfl hm (by intro u hu; simp at hu; subst hu; rfl) (by unfold maxLen; omega) (by omega) hb
  refine ⟨v', w', hrun, ?_, h2, ?_⟩
  · have e : ints l ++ [Value.int .i64 z] = ints (l ++ [z]) := by simp [ints]
    rw [e] at h1; exact h1
  · rcases h4 with h | h
    · exact .inl h
    · exact .inr h
theorem app_int_gr {ops : Array Oper} {rest : List Oper} {o : Oper} {a : Act} {Q : Exit → Act → World → Prop} {W : World} (hgd : o.guard = none) (s x : Operand)
    (ho : o.op = .call { callee := .builtin .append, args := #[s, x], argTypes := #[26, 26] }) (base : Nat) (v : Value) (k : Nat) (l : List Int) (z : Int) (ad : Addr)
    (hs : a.eval s = v) (hown : W.ownsRow base 3 1 v k (ints l)) (hx : a.eval x = .slice (some ad) 1 1) (had : W.cell? ad = some (.int .i64 z)) (hk : k < 1000000000) (hb : base ≤ W.heap.size)
    (h : ∀ v' w', w'.ownsRow base 3 1 v' (k + 1) (ints (l ++ [z])) → W.grownBy w' v.ownBlock → (v'.ownBlock = v.ownBlock ∨ v'.ownBlock = some W.heap.size) → Below base W w' → wpList Try.prog ops Q rest (a.put o.dst v') w') :
    wpList Try.prog ops Q (o :: rest) a W := by
  obtain ⟨v', w', hr, h1, h2, h3⟩ := run_app_int_at base v k l z o.type W hown ad had hk hb
  refine wpList_plain hgd fun K hK' => ?_
  unfold Oper.wp execOp
  simp only [ho, resolve, invoke, builtin, Sem.run_bind, Sem.run_pure, Result.andThen_ok, List.map_toArray, List.map_cons, List.map_nil, hs, hx, hr]
  exact hK' _ _ (h v' w' h1 h2 h3 ((Below.refl base W).grown h2 hb (fun g hg => (hown.lt g hg).1)))

set_option maxHeartbeats 8000000 in
theorem dgUses_spec (d : Dg) (nn : Int) (A : Option Addr) (n c : Nat) (w : World) (h1 : Mem.rd w w.heap.size [.slice A n c] d.forks) :
    Calls Try.prog 34 #[.agg #[.int .i64 d.vars, .slice A n c], .int .i64 nn] w (GivesL w (dgUsesB d nn)) := by
  obtain rfl : d.forks.length = n := rd_len h1
  have BX := Lib.hid (ci_box (w := w) (v1 := .int .i64 d.vars) (v2 := .slice A d.forks.length c) (t := 46))
  have CK := Lib.hid (fun W (B : Below w.heap.size w W) => dgValid_spec d A d.forks.length c W (Mem.rd_on h1 B))
  have own0 : Hid (((w.alloc (.cells #[.int .i64 d.vars, .slice A d.forks.length c] 46)).alloc (.cells #[] 3)).ownsRow (w.alloc (.cells #[.int .i64 d.vars, .slice A d.forks.length c] 46)).heap.size 3 1 (.slice (some ⟨w.heap.size + 1, 0, none⟩) 0 0) 0 (ints [])) := Lib.hid (by
    have := World.ownsRow_lit (base := (w.alloc (.cells #[.int .i64 d.vars, .slice A d.forks.length c] 46)).heap.size) (e := 3) (size := 1) (w.alloc (.cells #[.int .i64 d.vars, .slice A d.forks.length c] 46)) #[] 0 (Nat.le_refl _) (by unfold maxLen; omega) rfl
    simp only [World.size_alloc] at this ⊢
    exact this)
  have bb0 := Lib.hid (below_alloc (w.alloc (.cells #[.int .i64 d.vars, .slice A d.forks.length c] 46)) (.cells #[] 3))
  have BB0 : Below w.heap.size w ((w.alloc (.cells #[.int .i64 d.vars, .slice A d.forks.length c] 46)).alloc (.cells #[] 3)) := (below_alloc w _).alloc (by simp) _
  have B2 := Lib.hid (fun W (B : Below ((w.alloc (.cells #[.int .i64 d.vars, .slice A d.forks.length c] 46)).alloc (.cells #[] 3)).heap.size ((w.alloc (.cells #[.int .i64 d.vars, .slice A d.forks.length c] 46)).alloc (.cells #[] 3)) W) => bb0.out.trans (B.mono (by simp)))
  have EM := Lib.hid (fun W (B : Below ((w.alloc (.cells #[.int .i64 d.vars, .slice A d.forks.length c] 46)).alloc (.cells #[] 3)).heap.size ((w.alloc (.cells #[.int .i64 d.vars, .slice A d.forks.length c] 46)).alloc (.cells #[] 3)) W) => (own_base (own_below own0.out B) (show w.heap.size ≤ _ by simp)))
  refine Calls.mono (R := GivesInts w (dgUsesB d nn)) ?_ (fun e w' h => givesL_of h (Nat.le_trans (dgUsesB_len d nn) (by unfold maxLen; omega)))
  cases k1 : dgB d
  · rw [k1] at CK
    rw [show dgUsesB d nn = [] from if_neg (by rw [k1]; simp)]
    clear h1 k1
    go_enter Try.func34, Try.ntmps34
    go_wp2_with fail
    refine (CK.out _ BB0).mono ?_
    rintro e w1 ⟨rfl, b1⟩
    obtain ⟨B, x0, x1⟩ := BX.out _ (B2.out _ b1)
    go_wp2
    go_ret
    exact ⟨_, rfl, EM.out _ b1, B⟩
  · rw [k1] at CK
    have ok := dgB_iff.1 k1
    have few := ok.few
    have LP := Lib.hid (fun W => l8Place_any d A c nn W (by omega))
    cases q1 : isP d nn
    · rw [q1] at LP
      rw [show dgUsesB d nn = [] from if_neg (by rw [q1]; simp)]
      clear h1 k1 q1 ok
      go_enter Try.func34, Try.ntmps34
      go_wp2_with fail
      refine (CK.out _ BB0).mono ?_
      rintro e w1 ⟨rfl, b1⟩
      obtain ⟨B, x0, x1⟩ := BX.out _ (B2.out _ b1)
      go_wp2_with fail
      refine (LP.out _).mono ?_
      rintro e w2 ⟨rfl, c2⟩
      have b2 := b1.trans (c2.mono b1.size)
      obtain ⟨B, x0, x1⟩ := BX.out _ (B2.out _ b2)
      go_wp2
      go_ret
      exact ⟨_, rfl, EM.out _ b2, B⟩
    · rw [q1] at LP
      rw [show dgUsesB d nn = belowD (gthR d (reachF d nn) d.forks.length) d.vars.toNat from if_pos (by rw [k1, q1]; rfl)]
      have RS := Lib.hid (fun W (B : Below w.heap.size w W) => reach_spec d ok A c nn W (Mem.rd_on h1 B) q1)
      have RA := Lib.hid (fun (m x : Nat) (h : x < m) => rchC_at m (reachF d nn) h)
      generalize reachF d nn = R at *
      have HM := Lib.hid (fun v => hasR_mem d R v d.forks.length)
      have BL : Hid (∀ v, belowD (gthR d R d.forks.length) (v + 1) = if decide ((v : Int) ∈ gthR d R d.forks.length) = true then belowD (gthR d R d.forks.length) v ++ [(v : Int)] else belowD (gthR d R d.forks.length) v) := Lib.hid (fun v => rfl)
      have BN := Lib.hid (fun v => belowD_len (gthR d R d.forks.length) v)
      have HS : Hid (∀ v m, hasR d R v (m + 1) = (hasR d R v m || (R (2 + m) && decide ((el d.forks m).v = v)))) := Lib.hid (fun v m => rfl)
      obtain ⟨nv, hnv⟩ : ∃ nv : Nat, d.vars = nv := ⟨d.vars.toNat, by have := ok.lo; omega⟩
      have nv12 : nv ≤ 12 := by have := ok.hi; omega
      have FA := Lib.hid (fun W (B : Below w.heap.size w W) k (hk : k < d.forks.length) => fk_at (Mem.rd_below h1 B) (k := k) hk)
      rw [show d.vars.toNat = nv by omega]
      generalize gthR d R d.forks.length = G at *
      have BE : Hid (ints (belowD G 0) = ints []) := Lib.hid rfl
      clear h1 k1 q1 ok
      rw [hnv] at BX BB0 CK B2 EM own0 bb0 LP RS ⊢
      clear hnv
      generalize hN : d.forks.length = N at *
      clear hN
      go_enter Try.func34, Try.ntmps34
      go_wp2_with fail
      refine (CK.out _ BB0).mono ?_
      rintro e w1 ⟨rfl, b1⟩
      obtain ⟨B, x0, x1⟩ := BX.out _ (B2.out _ b1)
      go_wp2_with fail
      refine (LP.out _).mono ?_
      rintro e w2 ⟨rfl, c2⟩
      have b2 := b1.trans (c2.mono b1.size)
      obtain ⟨B, x0, x1⟩ := BX.out _ (B2.out _ b2)
      go_wp2_with fail
      refine (RS.out _ B).mono ?_
      rintro e w3 ⟨bb, rfl, kb, hbb, c3⟩
      have b3 := b2.trans (c3.mono b2.size)
      have own3 := Lib.hid (own_below own0.out b3)
      have b3 := Lib.hid (B2.out _ b3)
      have hbb2 : w.heap.size ≤ bb := Nat.le_trans B.size hbb
      have KB := Lib.hid kb
      have LB3 : bb < w3.heap.size := kb.lt
      have HW2 : Hid (w.heap.size + 2 ≤ bb) := Lib.hid (by have := b2.size; simp at this; omega)
      clear b1 c2 own0 bb0 BB0 EM CK LP B2 kb c3 RS b2 x0 x1 B hbb
      have NB0 : (Value.slice (some ⟨w.heap.size + 1, 0, none⟩) 0 0).ownBlock ≠ some bb := by
        intro e
        have := (own3.out.lt _ e)
        have e2 : w.heap.size + 1 = bb := by
          simp [Value.ownBlock] at e
          exact e
        have := HW2.out
        omega
      go_wp2_with fail
      go_loopg [5, 7] nv (fun m v i wr => ∃ (k q : Nat), k + m = nv ∧ i = .int .i64 k ∧ Hid (wr.ownsRow (w.alloc (.cells #[.int .i64 nv, .slice A N c] 46)).heap.size 3 1 v q (ints (belowD G k))) ∧ Hid (v.ownBlock ≠ some bb) ∧ Hid (Blk wr bb 4 (rchC (2 + N) R)) ∧ Hid (Below (w.alloc (.cells #[.int .i64 nv, .slice A N c] 46)).heap.size (w.alloc (.cells #[.int .i64 nv, .slice A N c] 46)) wr))
      case atStart => exact ⟨0, 0, by omega, rfl, by rw [BE.out]; exact own3, Lib.hid NB0, KB, b3⟩
      case round =>
        clear own3 b3 KB NB0 LB3
        obtain ⟨k, q, hk, rfl, HO, HNB, HKB, hb⟩ := hrel
        obtain ⟨B, x0, x1⟩ := BX.out _ hb.out
        have lb := HKB.out.lt
        have lw := Nat.lt_of_lt_of_le (by simp : w.heap.size < (w.alloc (.cells #[.int .i64 nv, .slice A N c] 46)).heap.size) hb.out.size
        have hq : q = (belowD G k).length := by have := HO.out.1; rw [len_ints] at this; omega
        have hqn := BN.out k
        by_cases hlt : k < nv
        · have kn : (k : Int) < nv := by omega
          have BLk := Lib.hid (BL.out k)
          have HMk := Lib.hid (HM.out k)
          have HSk := Lib.hid (fun m => HS.out k m)
          have h00 : Hid (hasR d R k 0 = false) := Lib.hid rfl
          go_wp2_with fail
          go_loopg [8, 9] N (fun m2 s i wr2 => ∃ k2 : Nat, k2 + m2 = N ∧ i = .int .i64 k2 ∧ s = .bool (hasR d R k k2) ∧ wr2 = wr)
          case atStart => exact ⟨0, by omega, rfl, by rw [h00.out], rfl⟩
          case round =>
            obtain ⟨k2, hk2, rfl, rfl, rfl⟩ := hrel
            by_cases hlt2 : k2 < N
            · obtain ⟨ad, rfl, hbl, d0, d1, d2⟩ := FA.out _ B k2 hlt2
              have hbl' : (ad.add (k2 * 3)).block < wr.heap.size := by rw [add_block]; omega
              have kn2 : (k2 : Int) < N := by omega
              have z := HKB.out.cell (2 + k2)
              rw [RA.out _ _ (by omega)] at z
              have wi : IntKind.i64.wrap ((k2 : Int) + 2) = ((2 + k2 : Nat) : Int) := by rw [show (k2 : Int) + 2 = ((2 + k2 : Nat) : Int) by omega]; exact IntWalk.i64_in _ (by omega)
              have E := Lib.hid (HSk.out k2)
              cases p1 : hasR d R k k2
              · rw [p1, Bool.false_or] at E
                clear p1
                cases p2 : R (2 + k2)
                · rw [p2, Bool.false_and] at E
                  rw [p2] at z
                  clear p2
                  go_wp2
                  go_roundg (N - (k2 + 1))
                  case measure => omega
                  case rel => exact ⟨k2 + 1, by omega, by go_num, by rw [E.out], rfl⟩
                · rw [p2, Bool.true_and] at E
                  rw [p2] at z
                  clear p2
                  by_cases p3 : (el d.forks k2).v = k
                  · rw [decide_eq_true p3] at E
                    have p4 : ((el d.forks k2).v == (k : Int)) = true := by simp [p3]
                    clear p3
                    go_wp2
                    go_roundg (N - (k2 + 1))
                    case measure => omega
                    case rel => exact ⟨k2 + 1, by omega, by go_num, by rw [E.out], rfl⟩
                  · rw [decide_eq_false p3] at E
                    have p4 : ((el d.forks k2).v == (k : Int)) = false := by simp [p3]
                    clear p3
                    go_wp2
                    go_roundg (N - (k2 + 1))
                    case measure => omega
                    case rel => exact ⟨k2 + 1, by omega, by go_num, by rw [E.out], rfl⟩
              · rw [p1, Bool.true_or] at E
                clear p1
                go_wp2
                go_roundg (N - (k2 + 1))
                case measure => omega
                case rel => exact ⟨k2 + 1, by omega, by go_num, by rw [E.out], rfl⟩
            · obtain rfl : N = k2 := by omega
              rw [HMk.out]
              have kk : ¬ (N : Int) < N := by omega
              cases p1 : decide ((k : Int) ∈ G)
              · rw [p1, if_neg (by simp)] at BLk
                clear p1
                go_wp2
                go_roundg (nv - (k + 1))
                case measure => omega
                case rel => exact ⟨k + 1, q, by omega, by go_num, by rw [BLk.out]; exact HO, HNB, HKB, hb⟩
              · rw [p1, if_pos rfl] at BLk
                clear p1
                have hq9 : q < 1000000000 := by omega
                go_wp2_with (first
                  | (at_builtin; refine app_int_gr rfl _ _ rfl (w.alloc (.cells #[.int .i64 nv, .slice A N c] 46)).heap.size _ q _ _ _ rfl (HO.out.alloc _) rfl (World.cell?_alloc_at _ _ _ _ (by simp)) hq9 (Nat.le_trans hb.out.size (Nat.le_of_lt (by rw [World.size_alloc]; exact Nat.lt_succ_self _))) ?_; intro v' w6 ho6 hg6 hv6 hb6))
                have kb6 := blk_grown (HKB.out.alloc (.cells #[.int .i64 k] 3)) hg6 HNB.out
                have b6 := (hb.out.alloc hb.out.size _).trans hb6
                have nb6 : v'.ownBlock ≠ some bb := fun e => by
                  rcases hv6 with h | h
                  · exact HNB.out (h.symm.trans e)
                  · rw [h] at e
                    injection e with e
                    simp at e
                    omega
                go_roundg (nv - (k + 1))
                case measure => omega
                case rel => exact ⟨k + 1, q + 1, by omega, by go_num, by rw [BLk.out]; exact Lib.hid ho6, Lib.hid nb6, Lib.hid kb6, Lib.hid b6⟩
        · obtain rfl : k = nv := by omega
          have kk : ¬ (k : Int) < k := by omega
          go_wp2
          go_ret
          exact ⟨_, rfl, by rw [← hq]; exact own_base HO.out (by simp), B⟩
end Go.Proofs.Ytnpdeliaefjmlaa
