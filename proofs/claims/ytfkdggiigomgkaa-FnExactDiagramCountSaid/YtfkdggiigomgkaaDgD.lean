/- Diagrams: DiagramCount, in the program. -/
import Derived.Test.YtfkdggiigomgkaaDgC
import Derived.Test.YtfkdggiigomgkaaIntApp
import Derived.Deep.CutRange
import Derived.Test.YtfkdggiigomgkaaIl
namespace Go.Proofs.Ytfkdggiigomgkaa
open Go.RowKit

theorem step_app_two {ops : Array Oper} {o : Oper} {a : Act} {K : Act → World → Prop} {Q : Exit → Act → World → Prop} {E : Prop} {W : World} (hgd : o.guard = none) (s x : Operand)
    (ho : o.op = .call { callee := .builtin .append, args := #[s, x], argTypes := #[37, 37] }) (base : Nat) (v : Value) (T : Int) (c b : Nat)
    (hs : a.eval s = v) (hown : W.ownsRow base 3 1 v 0 []) (hx : a.eval x = .slice (some ⟨b, 0, none⟩) 2 c) (h0 : W.cell? ⟨b, 0, none⟩ = some (.int .i64 0)) (h1 : W.cell? ⟨b, 1, none⟩ = some (.int .i64 T)) (hb : base ≤ W.heap.size)
    (h : ∀ v' w', w'.ownsRow base 3 1 v' 2 (ints [0, T]) → Below base W w' → K (a.put o.dst v') w') :
    if Region.wanted o (yielded ops a.tmps) = true then Oper.wp Try.prog o a W K Q else E := by
  have hw : Region.wanted o (yielded ops a.tmps) = true := by simp [Region.wanted, hgd]
  rw [if_pos hw]
  obtain ⟨v', w', hr, h1, h2⟩ := run_app_ints base v 0 [] [0, T] c o.type W hown ⟨b, 0, none⟩ (fun j u hj => by
    rw [cell_at]
    match j with
    | 0 => simp [ints] at hj; rw [← hj]; exact h0
    | 1 => simp [ints] at hj; rw [← hj]; exact h1
    | j + 2 => simp [ints] at hj) (by simp) hb
  unfold Oper.wp execOp
  simp only [List.length_cons, List.length_nil, Nat.zero_add] at hr
  simp only [ho, resolve, invoke, builtin, Sem.run_bind, Sem.run_pure, Result.andThen_ok, List.map_toArray, List.map_cons, List.map_nil, hs, hx, hr]
  exact h v' w' h1 ((Below.refl base W).grown h2 hb (fun g hg => (hown.lt g hg).1))
theorem run_make_room (n : Nat) (hn : n ≤ 100000) : ∃ Z : Array Value, Z.size = n * 1 ∧ ∀ w : World, (Instr.makeSlice 37 (.int .i64 0) (.int .i64 n)).run Try.prog w = .ok (.slice (some ⟨w.heap.size, 0, none⟩) 0 n) (w.alloc (.cells Z 3)) :=
  ⟨madeCells #[.int .i64 0] (n * 1), size_madeCells _ _, fun w => by
    have h := run_make (P := Try.prog) w 37 3 intRow (.int .i64 0) Try.underlying37 int_row.1 int_row.2.1 .i64 .i64 0 n (Int.le_refl _) (by omega) (by rw [int_row.2.2.2]; omega) (by omega)
    rw [int_row.2.2.1] at h
    simp only [Int.toNat_zero, Int.toNat_natCast] at h
    exact h⟩
/-- The counts of the first places. -/
def cntL (d : Dg) (k : Nat) : List Int := (List.range k).map fun (i : Nat) => ((fullP d (i : Int) : Nat) : Int)
theorem cntL_len (d : Dg) (k : Nat) : (cntL d k).length = k := by unfold cntL; simp
theorem cntL_succ (d : Dg) (k : Nat) : cntL d (k + 1) = cntL d k ++ [((fullP d (k : Int) : Nat) : Int)] := by unfold cntL; rw [List.range_succ, List.map_append]; rfl
theorem cntL_at (d : Dg) {k i : Nat} (h : i < k) : ix (cntL d k) i = ((fullP d (i : Int) : Nat) : Int) := by
  rw [ix_lt (by rw [cntL_len]; exact h)]
  unfold cntL
  simp
theorem cntL_two {d : Dg} : cntL d 2 = [0, ((2 ^ d.vars.toNat : Nat) : Int)] := by
  show [((fullP d 0 : Nat) : Int), ((fullP d 1 : Nat) : Int)] = _
  unfold fullP
  rw [fN_const (by omega), fN_const (by omega)]
  rfl

set_option maxRecDepth 100000 in
set_option maxHeartbeats 2000000 in
theorem dgCount_impl (d : Dg) (n : Int) (A : Option Addr) (n1 c : Nat) (w : World) (h1 : Mem.rd w w.heap.size [.slice A n1 c] d.forks) :
    Calls Try.prog 38 #[.agg #[.int .i64 d.vars, .slice A n1 c], .int .i64 n] w (GivesInt w (dgCountB d n)) := by
  obtain rfl : d.forks.length = n1 := rd_len h1
  have BX := Lib.hid (ci_box (w := w) (v1 := .int .i64 d.vars) (v2 := .slice A d.forks.length c) (t := 29))
  have HP := Lib.hid (fun W (B : Below w.heap.size w W) => hasPlaces_any d [n] A d.forks.length c (some ⟨W.heap.size, 0, none⟩) 1 1 (W.alloc (.cells #[.int .i64 n] 3)) (Mem.rd_on_alloc (Mem.rd_on h1 B) _) (rd_newD1 W n))
  have eP : (dgB d && areP d [n]) = (dgB d && isP d n) := by simp [areP]
  rw [eP] at HP
  cases k1 : (dgB d && isP d n)
  · rw [k1] at HP
    have HR := Lib.hid (show dgCountB d n = -1 from if_neg (by rw [k1]; simp))
    generalize dgCountB d n = R at *
    clear h1 k1 eP
    have MK0 := HP.out (w.alloc (.cells #[.int .i64 d.vars, .slice A d.forks.length c] 29)) (below_alloc _ _)
    simp only [World.size_alloc] at MK0
    go_enter Try.func38, Try.ntmps38
    go_wp2_with fail
    refine MK0.mono ?_
    rintro e w1 ⟨rfl, b1'⟩
    have b1 := below_call b1'
    obtain ⟨B1, x0, x1⟩ := BX.out _ b1
    go_wp2
    go_ret
    exact ⟨(congrArg (fun z => Ending.returned (.int .i64 z)) HR.out).symm, B1⟩
  · rw [k1] at HP
    have HR := Lib.hid (show dgCountB d n = cntAt d n 0 from if_pos (by rw [k1]))
    have HR := Lib.hid (HR.out.trans (show cntAt d n 0 = ((fullP d n : Nat) : Int) by unfold cntAt; simp))
    generalize dgCountB d n = R at *
    rw [Bool.and_eq_true] at k1
    obtain ⟨k1, q1⟩ := k1
    have ok := dgB_iff.1 k1
    have few := ok.few
    have n00 := (isP_iff.1 q1)
    obtain ⟨nv, hnv⟩ : ∃ nv : Nat, d.vars = nv := ⟨d.vars.toNat, by have := ok.lo; omega⟩
    have nv12 : nv ≤ 12 := by have := ok.hi; omega
    have SZ := Lib.hid (fun W => size_d d A c W (by omega))
    obtain ⟨M, hM⟩ : ∃ M : Nat, M = 2 + d.forks.length := ⟨_, rfl⟩
    rw [show (2 : Int) + d.forks.length = (M : Int) by omega] at SZ
    have hM1 : M ≤ 100000 := by omega
    have hM2 : M ≤ maxLen := by unfold maxLen; omega
    obtain ⟨Z, hZ, HS⟩ := run_make_room M hM1
    have HZ := Lib.hid hZ
    have FK := Lib.hid (fun W (B : Below w.heap.size w W) k (hk : k < d.forks.length) => fk_at (Mem.rd_on h1 B) hk)
    have ST := Lib.hid (fun (k : Nat) (hk : k < d.forks.length) => (show _ from (⟨ok.fork k hk, by
      have := full_fork ok (n := 2 + (k : Int)) (isP_iff.2 ⟨by omega, by omega⟩) (by omega)
      unfold fkA at this
      rw [show (2 + (k : Int) - 2).toNat = k by omega] at this
      exact this⟩ : fitK d (el d.forks k) (k + 1) ∧ fullP d (2 + (k : Int)) = (fullP d (el d.forks k).lo + fullP d (el d.forks k).hi) / 2)))
    have FL := Lib.hid (fun m (hm : isP d m = true) => (show fullP d m ≤ 4096 by
      obtain ⟨V1, a1, v1, e1, l1⟩ := full_dvd ok 3000 hm (by have := (isP_iff.1 hm).2; omega)
      have h2 : 2 ^ d.vars.toNat ≤ 2 ^ 12 := Nat.pow_le_pow_right (by omega) (by have := ok.hi; omega)
      omega))
    have C2 := Lib.hid (cntL_two (d := d))
    have wsh : IntKind.i64.wrap ((2 : Int) ^ nv) = ((2 ^ d.vars.toNat : Nat) : Int) := by
      have h2 : 2 ^ nv ≤ 2 ^ 12 := Nat.pow_le_pow_right (by omega) nv12
      rw [show d.vars.toNat = nv by omega, show (2 : Int) ^ nv = ((2 ^ nv : Nat) : Int) by simp]
      generalize 2 ^ nv = X at h2 ⊢
      exact IntWalk.i64_in _ (by omega)
    have j12 : (nv : Int) ≤ 64 := by omega
    generalize ((2 ^ d.vars.toNat : Nat) : Int) = T at *
    rw [hnv] at BX HP SZ ⊢
    have HM := Lib.hid hM
    have hM3 := Lib.hid hM2
    clear h1 k1 eP ok q1 hnv hZ hM hM2
    have MK0 := HP.out (w.alloc (.cells #[.int .i64 nv, .slice A d.forks.length c] 29)) (below_alloc _ _)
    simp only [World.size_alloc] at MK0
    go_enter Try.func38, Try.ntmps38
    go_wp2_with fail
    refine MK0.mono ?_
    rintro e w1 ⟨rfl, b1'⟩
    have b1 := below_call b1'
    obtain ⟨B1, x0, x1⟩ := BX.out _ b1
    have S1 := b1.size
    have HB1 := Lib.hid b1
    have z1 : w.heap.size < w1.heap.size := by rw [World.size_alloc] at S1; omega
    go_upto_region 3 with fail
    go_cut [5] from 13 to 20 (fun a5 wx => Hid (wx.ownsRow w1.heap.size 3 1 a5 2 (ints [0, T])) ∧ Hid (Below w1.heap.size w1 wx))
    case first =>
      go_region_law (first
        | (go_simp; go_at_call 75; refine (SZ.out _).mono ?_; rintro e w3 ⟨rfl, c3⟩
           have c4 : Below w1.heap.size w1 w3 := by
             first
               | exact ⟨c3.os, c3.tape, c3.output, c3.size, c3.block⟩
               | exact below_call (⟨c3.os, c3.tape, c3.output, c3.size, c3.block⟩ : Below (w1.alloc (.cells #[.int .i64 0, .int .i64 T] 3)).heap.size (w1.alloc (.cells #[.int .i64 0, .int .i64 T] 3)) w3)
           have z3 : w.heap.size < w3.heap.size := Nat.lt_of_lt_of_le z1 c4.size
           obtain ⟨_, x0, x1⟩ := BX.out _ (HB1.out.trans (c4.mono S1)))
        | (refine step_app_two (by rfl) _ _ (by rfl) w1.heap.size _ T _ _ (by rfl) ?_ (by rfl) ?_ ?_ ?_ ?_
           · first
               | exact World.ownsRow_made w3 Z M c4.size hM3.out HZ.out
               | exact (World.ownsRow_made w3 Z M c4.size hM3.out HZ.out).alloc (.cells #[.int .i64 0, .int .i64 T] 3)
               | (have h := World.ownsRow_made (base := w1.heap.size) (e := 3) (size := 1) (w3.alloc (.cells #[.int .i64 0, .int .i64 T] 3)) Z M (by have := c4.size; rw [World.size_alloc]; omega) hM3.out HZ.out
                  rw [World.size_alloc] at h
                  exact h)
           · first
               | exact ((ci_blk w3 #[.int .i64 0, .int .i64 T] 3).alloc (.cells Z 3)).cell 0
               | (have h := (ci_blk (w3.alloc (.cells Z 3)) #[.int .i64 0, .int .i64 T] 3).cell 0
                  rw [World.size_alloc] at h
                  exact h)
               | exact (((ci_blk w1 #[.int .i64 0, .int .i64 T] 3).below (⟨c3.os, c3.tape, c3.output, c3.size, c3.block⟩ : Below (w1.alloc (.cells #[.int .i64 0, .int .i64 T] 3)).heap.size (w1.alloc (.cells #[.int .i64 0, .int .i64 T] 3)) w3) (by simp)).alloc (.cells Z 3)).cell 0
           · first
               | exact ((ci_blk w3 #[.int .i64 0, .int .i64 T] 3).alloc (.cells Z 3)).cell 1
               | (have h := (ci_blk (w3.alloc (.cells Z 3)) #[.int .i64 0, .int .i64 T] 3).cell 1
                  rw [World.size_alloc] at h
                  exact h)
               | exact (((ci_blk w1 #[.int .i64 0, .int .i64 T] 3).below (⟨c3.os, c3.tape, c3.output, c3.size, c3.block⟩ : Below (w1.alloc (.cells #[.int .i64 0, .int .i64 T] 3)).heap.size (w1.alloc (.cells #[.int .i64 0, .int .i64 T] 3)) w3) (by simp)).alloc (.cells Z 3)).cell 1
           · have := c4.size
             simp only [World.size_alloc]
             omega
           intro v9 w9 ho9 hb9))
      all_goals
        go_wp2_with fail
        go_meet
        first
          | exact ⟨Lib.hid ho9, Lib.hid (((c4.alloc c4.size _).alloc (by have := c4.size; simp only [World.size_alloc]; omega) _).trans hb9)⟩
          | exact ⟨Lib.hid ho9, Lib.hid ((c4.alloc c4.size _).trans hb9)⟩
    case rest =>
      obtain ⟨HO, HB⟩ := hcut
      obtain ⟨_, x0, x1⟩ := BX.out _ (HB1.out.trans (HB.out.mono S1))
      rw [← C2.out] at HO
      clear SZ HS HZ hM3 hM1 MK0 C2 wsh j12
      go_wp2_with fail
      go_loopg [5, 24] d.forks.length (fun m v5 i wr => ∃ k : Nat, k + m = d.forks.length ∧ i = .int .i64 k ∧ Hid (wr.ownsRow w1.heap.size 3 1 v5 (k + 2) (ints (cntL d (k + 2)))) ∧ Hid (Below w1.heap.size w1 wr))
      case atStart => exact ⟨0, by omega, rfl, HO, HB⟩
      case round =>
        clear HO HB x0 x1
        obtain ⟨k, hk, rfl, HO, HB⟩ := hrel
        have hbb := HB1.out.trans (HB.out.mono S1)
        obtain ⟨B, x0, x1⟩ := BX.out _ hbb
        obtain ⟨A5, c5, rfl⟩ := row_slice HO.out
        have R5 := Lib.hid (Rd.of_own HO.out)
        have sB := HB.out.size
        by_cases hlt : k < d.forks.length
        · obtain ⟨ad, hA, hbl, d0, d1, d2⟩ := FK.out wr B k hlt
          subst hA
          have F := (ST.out k hlt).1
          have HF := Lib.hid (ST.out k hlt).2
          have la := Lib.hid (FL.out (el d.forks k).lo (isP_iff.2 ⟨F.l0, by have := F.l1; omega⟩))
          have lb := Lib.hid (FL.out (el d.forks k).hi (isP_iff.2 ⟨F.h0, by have := F.h1; omega⟩))
          have f2 := F.l0
          have f3 := F.l1
          have f4 := F.h0
          have f5 := F.h1
          have hbl' : (ad.add (k * 3)).block < wr.heap.size := by rw [add_block]; exact hbl
          clear F ST FL FK
          generalize el d.forks k = G at *
          obtain ⟨ga, gb, gc⟩ := G
          dsimp only at *
          obtain ⟨p, rfl⟩ : ∃ p : Nat, gb = p := ⟨gb.toNat, by omega⟩
          obtain ⟨q, rfl⟩ : ∃ q : Nat, gc = q := ⟨gc.toNat, by omega⟩
          have hp : p < k + 2 := by omega
          have hq : q < k + 2 := by omega
          obtain ⟨ae, hA5, hb5, e0⟩ := R5.out.int hp
          subst hA5
          obtain ⟨ae', hA5', _, e1⟩ := R5.out.int hq
          injection hA5' with hA5'
          subst hA5'
          rw [cntL_at d hp] at e0
          rw [cntL_at d hq] at e1
          have NX := Lib.hid (cntL_succ d (k + 2))
          rw [show ((k + 2 : Nat) : Int) = 2 + (k : Int) by omega, HF.out] at NX
          have hla := la.out
          have hlb := lb.out
          have wad : IntKind.i64.wrap (((fullP d (p : Int) : Nat) : Int) + ((fullP d (q : Int) : Nat) : Int)) = ((fullP d (p : Int) + fullP d (q : Int) : Nat) : Int) := by rw [IntWalk.i64_in _ (by omega)]; omega
          have wdv : ((fullP d (p : Int) + fullP d (q : Int) : Nat) : Int) / 2 = (((fullP d (p : Int) + fullP d (q : Int)) / 2 : Nat) : Int) := by omega
          generalize (((fullP d (p : Int) + fullP d (q : Int)) / 2 : Nat) : Int) = X at *
          generalize ((fullP d (p : Int) + fullP d (q : Int) : Nat) : Int) = Y at *
          generalize ((fullP d (p : Int) : Nat) : Int) = Pv at *
          generalize ((fullP d (q : Int) : Nat) : Int) = Qv at *
          obtain ⟨K, hK⟩ : ∃ K, K = k + 2 := ⟨_, rfl⟩
          rw [← hK] at HO hp hq
          have pK : (p : Int) < (K : Int) := by omega
          have qK : (q : Int) < (K : Int) := by omega
          have kn : (k : Int) < d.forks.length := by omega
          have hbp : (ae.add p).block < wr.heap.size := by rw [add_block]; exact hb5
          have hbq : (ae.add q).block < wr.heap.size := by rw [add_block]; exact hb5
          have HK := Lib.hid hK
          clear hla hlb la lb HF R5
          rw [show k + 2 = K from hK.symm]
          clear hK
          have hKb : K < 1000000000000 := by have := HK.out; omega
          have bW := ((HB.out.alloc sB (.cells #[.int .i64 ga, .int .i64 p, .int .i64 q] 52)).alloc (by rw [World.size_alloc]; omega) (.cells #[.int .i64 X] 3)).drew
          have oW := own_of_heap (w' := ((wr.alloc (.cells #[.int .i64 ga, .int .i64 p, .int .i64 q] 52)).alloc (.cells #[.int .i64 X] 3)).drew) ((HO.out.alloc (.cells #[.int .i64 ga, .int .i64 p, .int .i64 q] 52)).alloc (.cells #[.int .i64 X] 3)) rfl
          have cW : ((wr.alloc (.cells #[.int .i64 ga, .int .i64 p, .int .i64 q] 52)).alloc (.cells #[.int .i64 X] 3)).drew.cell? ⟨wr.heap.size + 1, 0, none⟩ = some (.int .i64 X) := by
            have h := (ci_blk (wr.alloc (.cells #[.int .i64 ga, .int .i64 p, .int .i64 q] 52)) #[.int .i64 X] 3).cell 0
            rw [World.size_alloc] at h
            exact h
          have sW := bW.size
          have bW := Lib.hid bW
          have oW := Lib.hid oW
          have cW := Lib.hid cW
          have sW := Lib.hid sW
          go_wp2
          go_region_law (refine step_app_int (by rfl) _ _ (by rfl) w1.heap.size _ K _ X ⟨wr.heap.size + 1, 0, none⟩ (by rfl) oW.out (by rfl) cW.out hKb sW.out ?_; intro v9 w9 ho9 hg9 hc9)
          all_goals
            have b9 := bW.out.trans ((Below.refl w1.heap.size _).grown hg9 sW.out (fun g hg => (HO.out.lt g hg).1))
            clear hc9 hg9
            go_wp2
            go_roundg (d.forks.length - (k + 1))
            case measure => omega
            case rel => exact ⟨k + 1, by omega, by go_num, Lib.hid (by rw [show k + 1 + 2 = k + 2 + 1 by omega, NX.out, ← HK.out]; exact ho9), Lib.hid b9⟩
        · have ek : k = d.forks.length := by omega
          have nk : ¬ (k : Int) < d.forks.length := by omega
          have hn : n.toNat < k + 2 := by omega
          obtain ⟨N, rfl⟩ : ∃ N : Nat, n = N := ⟨n.toNat, by omega⟩
          rw [Int.toNat_natCast] at hn
          obtain ⟨ae, hA5, hb5, e0⟩ := R5.out.int hn
          subst hA5
          rw [cntL_at d hn, ← HR.out] at e0
          have pK : (N : Int) < ((k + 2 : Nat) : Int) := by omega
          go_wp2
          go_ret
          exact ⟨rfl, B⟩
end Go.Proofs.Ytfkdggiigomgkaa
