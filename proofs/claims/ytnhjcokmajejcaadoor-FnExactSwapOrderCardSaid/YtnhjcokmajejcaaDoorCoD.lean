/- The values of a place in 64 rows of bits, in the program. -/
import Derived.Test.YtnhjcokmajejcaaDoorReP
import Derived.Test.YtnhjcokmajejcaaDoorColI
import Derived.Deep.CutRange
namespace Go.Proofs.YtnhjcokmajejcaaDoor
open Go.RowKit
set_option maxRecDepth 100000

theorem us_two (a b : Nat) : us [a, b] = [.int .u64 (a : Int), .int .u64 (b : Int)] := rfl
theorem step_two_us {ops : Array Oper} {o : Oper} {a : Act} {K : Act → World → Prop} {Q : Exit → Act → World → Prop} {E : Prop} {W : World} (hgd : o.guard = none) (s x : Operand)
    (ho : o.op = .call { callee := .builtin .append, args := #[s, x], argTypes := #[63, 63] }) (base : Nat) (v : Value) (T : Nat) (c b : Nat)
    (hs : a.eval s = v) (hown : W.ownsRow base 64 1 v 0 []) (hx : a.eval x = .slice (some ⟨b, 0, none⟩) 2 c) (h0 : W.cell? ⟨b, 0, none⟩ = some (.int .u64 0)) (h1 : W.cell? ⟨b, 1, none⟩ = some (.int .u64 (T : Int))) (hb : base ≤ W.heap.size)
    (h : ∀ v' w', w'.ownsRow base 64 1 v' 2 (us [0, T]) → Below base W w' → K (a.put o.dst v') w') :
    if Region.wanted o (yielded ops a.tmps) = true then Oper.wp Tryd.prog o a W K Q else E := by
  have hw : Region.wanted o (yielded ops a.tmps) = true := by simp [Region.wanted, hgd]
  rw [if_pos hw]
  obtain ⟨v', w', hr, h1, h2⟩ := run_app_us base v 0 [] [0, T] c o.type W hown ⟨b, 0, none⟩ (fun j u hj => by
    rw [us_two] at hj
    match j with
    | 0 => rw [add_zero']; simp at hj; rw [← hj]; exact h0
    | 1 => rw [show (⟨b, 0, none⟩ : Addr).add 1 = ⟨b, 1, none⟩ from rfl]; simp at hj; rw [← hj]; exact h1
    | j + 2 => simp at hj) (by simp) hb
  unfold Oper.wp execOp
  simp only [List.length_cons, List.length_nil, Nat.zero_add] at hr
  simp only [ho, resolve, invoke, builtin, Sem.run_bind, Sem.run_pure, Result.andThen_ok, List.map_toArray, List.map_cons, List.map_nil, hs, hx, hr]
  exact h v' w' h1 ((Below.refl base W).grown h2 hb (fun g hg => (hown.lt g hg).1))
theorem run_room_us (n : Nat) (hn : n ≤ 100000) : ∃ Z : Array Value, Z.size = n * 1 ∧ ∀ w : World, (Instr.makeSlice 63 (.int .i64 0) (.int .i64 n)).run Tryd.prog w = .ok (.slice (some ⟨w.heap.size, 0, none⟩) 0 n) (w.alloc (.cells Z 64)) :=
  ⟨madeCells #[.int .u64 0] (n * 1), size_madeCells _ _, fun w => by
    have h := run_make (P := Tryd.prog) w 63 64 u64Row (.int .u64 0) Tryd.underlying63 u64_row.1 u64_row.2.1 .i64 .i64 0 n (Int.le_refl _) (by omega) (by rw [u64_row.2.2.2]; omega) (by omega)
    rw [u64_row.2.2.1] at h
    simp only [Int.toNat_zero, Int.toNat_natCast] at h
    exact h⟩
theorem us_addr {w : World} {g k : Nat} {x : Value} (h : w.cell? ((⟨g, 0, none⟩ : Addr).add k) = some x) : w.cell? ⟨g, k, none⟩ = some x := by
  have e : (⟨g, 0, none⟩ : Addr).add k = ⟨g, k, none⟩ := by
    unfold Addr.add
    by_cases q : k = 0
    · subst q; simp
    · simp [q]
  rwa [e] at h

set_option maxHeartbeats 8000000 in
theorem column_any (d : Dg) (ok : d.Ok) (N n : Nat) (hN : d.vars = N) (hn : n < 2 + d.forks.length) (C : List (Nat → Bool)) (hC : C.length = N) (A : Option Addr) (c g cc : Nat) (w : World) (h1 : Mem.rd w w.heap.size [.slice A d.forks.length c] d.forks) (h2 : Rd w w.heap.size 1 (some ⟨g, 0, none⟩) N (us (C.map fw))) :
    Calls Tryd.prog 82 #[.agg #[.int .i64 d.vars, .slice A d.forks.length c], .int .i64 n, .slice (some ⟨g, 0, none⟩) N cc] w (GivesU64 w (colD d C n)) := by
  have few := ok.few
  have BX := Lib.hid (ci_box (w := w) (v1 := .int .i64 d.vars) (v2 := .slice A d.forks.length c) (t := 35))
  obtain ⟨M, hM⟩ : ∃ M : Nat, M = 2 + d.forks.length := ⟨_, rfl⟩
  have SZ := Lib.hid (fun W => size_d d A c W (by omega))
  rw [show (2 : Int) + d.forks.length = (M : Int) by omega] at SZ
  obtain ⟨Z, hZ, HS⟩ := run_room_us M (by omega)
  have F0 := Lib.hid (fun W => filled_any 0 W (by omega))
  have F1 := Lib.hid (fun W => filled_any 1 W (by omega))
  have q0 : fil 0 = 0 := rfl
  have q1 : fil 1 = 18446744073709551615 := rfl
  rw [q0] at F0
  rw [q1] at F1
  rw [show ((0 : Nat) : Int) = 0 from rfl] at F0
  rw [show ((1 : Nat) : Int) = 1 from rfl] at F1
  have HZ := Lib.hid hZ
  have hM3 : Hid (M ≤ maxLen) := Lib.hid (by unfold maxLen; omega)
  have HM := Lib.hid hM
  have CZ := Lib.hid (colL_zero d C)
  have CS := Lib.hid (fun k => colL_succ d C k)
  have CA := Lib.hid (fun k x (h : x < 2 + k) => colL_at d C h)
  have CL := Lib.hid (fun k => colL_len d C k)
  have CW : Hid (∀ x, colD d C x < 18446744073709551616) := Lib.hid (fun x => fw_lt _)
  have FT := Lib.hid (fun k (hk : k < d.forks.length) => ok.fork k hk)
  have FE := Lib.hid (fun k (hk : k < d.forks.length) => colD_fork ok C (by rw [hC, hN]) hk)
  have FK := Lib.hid (fun W (B : Below w.heap.size w W) k (hk : k < d.forks.length) => fk_at (Mem.rd_below h1 B) hk)
  have CC := Lib.hid (fun W (B : Below w.heap.size w W) v (hv : v < N) => show W.cell? ⟨g, v, none⟩ = some (.int .u64 (fw (C[v]?.getD fun _ => false) : Nat)) from by
    obtain ⟨ad, e, hb, hc⟩ := us_read h2 hv
    injection e with e
    subst e
    have e2 : el (C.map fw) v = fw (C[v]?.getD fun _ => false) := by
      unfold el
      rw [List.getElem?_map, List.getElem?_eq_getElem (by omega)]; rfl
    rw [e2] at hc
    exact cell_below B (p := ⟨g, v, none⟩) hb (us_addr hc))
  have HL : Hid (g < w.heap.size ∨ N = 0) := Lib.hid (by
    by_cases q : 0 < N
    · obtain ⟨ad, e, hb, hc⟩ := us_read h2 q
      injection e with e
      subst e
      exact .inl hb
    · exact .inr (by omega))
  have HN12 : N ≤ 12 := by have := ok.hi; omega
  rw [hN] at BX SZ ⊢
  have HNV := Lib.hid hN
  have HCN := Lib.hid hn
  clear h1 h2 ok hM hZ hC hn q0 q1 hN
  go_enter Tryd.func82, Tryd.ntmps82
  go_upto_region 1 with fail
  have B0 := below_alloc w (.cells #[.int .i64 N, .slice A d.forks.length c] 35)
  have S0 : w.heap.size < (w.alloc (.cells #[.int .i64 N, .slice A d.forks.length c] 35)).heap.size := by simp
  obtain ⟨_, x0, x1⟩ := BX.out _ (Below.refl _ _)
  generalize hw1 : w.alloc (.cells #[.int .i64 N, .slice A d.forks.length c] 35) = w1 at *
  have HB1 := Lib.hid B0
  have S1 : w.heap.size ≤ w1.heap.size := by omega
  go_cut [7] from 11 to 18 (fun a7 wx => Hid (wx.ownsRow w1.heap.size 64 1 a7 2 (us [0, 18446744073709551615])) ∧ Hid (Below w1.heap.size w1 wx))
  case first =>
    go_region_law (first
      | (go_simp; go_at_call 88; refine (SZ.out _).mono ?_; rintro e w3 ⟨rfl, c3⟩
         have c4 : Below w1.heap.size w1 w3 := ⟨c3.os, c3.tape, c3.output, c3.size, c3.block⟩)
      | (go_simp; go_at_call 85; refine (F0.out _).mono ?_; rintro e w4 ⟨rfl, rfl⟩; clear F0)
      | (go_simp; go_at_call 85; refine (F1.out _).mono ?_; rintro e w5 ⟨rfl, rfl⟩)
      | (refine step_two_us (by rfl) _ _ (by rfl) w1.heap.size _ 18446744073709551615 _ _ (by rfl) ?_ (by rfl) ?_ ?_ ?_ ?_
         · first
             | exact World.ownsRow_made w3 Z M c4.size hM3.out HZ.out
             | exact (World.ownsRow_made w3 Z M c4.size hM3.out HZ.out).alloc (.cells #[.int .u64 0, .int .u64 18446744073709551615] 64)
             | (have h := World.ownsRow_made (base := w1.heap.size) (e := 64) (size := 1) (w3.alloc (.cells #[.int .u64 0, .int .u64 18446744073709551615] 64)) Z M (by have := c4.size; rw [World.size_alloc]; omega) hM3.out HZ.out
                rw [World.size_alloc] at h
                exact h)
         · first
             | exact ((ci_blk w3 #[.int .u64 0, .int .u64 18446744073709551615] 64).alloc (.cells Z 64)).cell 0
             | (have h := (ci_blk (w3.alloc (.cells Z 64)) #[.int .u64 0, .int .u64 18446744073709551615] 64).cell 0
                rw [World.size_alloc] at h
                exact h)
         · first
             | exact ((ci_blk w3 #[.int .u64 0, .int .u64 18446744073709551615] 64).alloc (.cells Z 64)).cell 1
             | (have h := (ci_blk (w3.alloc (.cells Z 64)) #[.int .u64 0, .int .u64 18446744073709551615] 64).cell 1
                rw [World.size_alloc] at h
                exact h)
         · have := c4.size
           simp only [World.size_alloc]
           omega
         intro v9 w9 ho9 hb9))
    all_goals
      go_wp2_with fail
      go_meet
      exact ⟨Lib.hid ho9, Lib.hid (((c4.alloc c4.size _).alloc (by have := c4.size; simp only [World.size_alloc]; omega) _).trans hb9)⟩
  case rest =>
    obtain ⟨HO, HB⟩ := hcut
    rw [← CZ.out] at HO
    obtain ⟨_, x0, x1⟩ := BX.out _ HB.out
    clear SZ HS HZ hM3 F0 F1 CZ
    go_wp2_with fail
    go_loopg [7, 9, 10, 21] d.forks.length (fun r v i9 i10 i wr => ∃ k : Nat, k + r = d.forks.length ∧ i = .int .i64 k ∧ Hid (wr.ownsRow w1.heap.size 64 1 v (2 + k) (us (colL d C k))) ∧ Hid (Below w1.heap.size w1 wr))
    case atStart => exact ⟨0, by omega, rfl, HO, HB⟩
    case round =>
      clear HO HB x0 x1
      obtain ⟨k, hk, rfl, HO, HB⟩ := hrel
      obtain ⟨B, x0, x1⟩ := BX.out _ HB.out
      obtain ⟨A5, c5, rfl⟩ := row_slice HO.out
      have R5 := Lib.hid (Rd.of_own HO.out)
      have sB := HB.out.size
      by_cases hlt : k < d.forks.length
      · obtain ⟨ad, hA, hbl, d0, d1, d2⟩ := FK.out wr B k hlt
        subst hA
        have F := FT.out k hlt
        have HF := FE.out k hlt
        have NX := Lib.hid (CS.out k)
        have f0 := F.v0
        have f1 := F.v1
        have f2 := F.l0
        have f3 := F.l1
        have f4 := F.h0
        have f5 := F.h1
        rw [HNV.out] at f1
        have hbl' : (ad.add (k * 3)).block < wr.heap.size := by rw [add_block]; exact Nat.lt_of_lt_of_le hbl B.size
        clear F FT FE FK CS
        generalize el d.forks k = G at *
        obtain ⟨ga, gb, gc⟩ := G
        dsimp only at *
        obtain ⟨v, rfl⟩ : ∃ v : Nat, ga = v := ⟨ga.toNat, by omega⟩
        obtain ⟨p, rfl⟩ : ∃ p : Nat, gb = p := ⟨gb.toNat, by omega⟩
        obtain ⟨q, rfl⟩ : ∃ q : Nat, gc = q := ⟨gc.toNat, by omega⟩
        have hv : v < N := by omega
        have hp : p < 2 + k := by omega
        have hq : q < 2 + k := by omega
        have e2 := CC.out wr B v hv
        obtain ⟨ae, hA5, hb5, e0⟩ := us_read R5.out hp
        subst hA5
        obtain ⟨ae', hA5', _, e1⟩ := us_read R5.out hq
        injection hA5' with hA5'
        subst hA5'
        rw [CA.out k p hp] at e0
        rw [CA.out k q hq] at e1
        rw [Int.toNat_natCast, Int.toNat_natCast, Int.toNat_natCast] at HF
        have lp := CW.out p
        have lq := CW.out q
        have lX := CW.out (2 + k)
        have lb := fw_lt (C[v]?.getD fun _ => false)
        generalize fw (C[v]?.getD fun _ => false) = Y at *
        generalize colD d C (2 + k) = X at *
        generalize colD d C p = P at *
        generalize colD d C q = Q at *
        have z1 := u64_andNot_nat P Y lp lb
        have z2 := bits_and_u64_nat Q Y lq lb
        have l1 : P &&& (18446744073709551615 - Y) < 18446744073709551616 := Nat.lt_of_le_of_lt Nat.and_le_left lp
        have l2 : Q &&& Y < 18446744073709551616 := Nat.lt_of_le_of_lt Nat.and_le_left lq
        have z3 := bits_or_u64_nat _ _ l1 l2
        rw [HF] at z3
        generalize P &&& (18446744073709551615 - Y) = U1 at *
        generalize Q &&& Y = U2 at *
        have hg : g < wr.heap.size := by
          rcases HL.out with h | h
          · have := B.size; omega
          · omega
        obtain ⟨K, hK⟩ : ∃ K, K = 2 + k := ⟨_, rfl⟩
        rw [← hK] at HO hp hq
        have pK : (p : Int) < (K : Int) := by omega
        have qK : (q : Int) < (K : Int) := by omega
        have vN : (v : Int) < (N : Int) := by omega
        have kn : (k : Int) < d.forks.length := by omega
        have hbp : (ae.add p).block < wr.heap.size := by rw [add_block]; exact hb5
        have hbq : (ae.add q).block < wr.heap.size := by rw [add_block]; exact hb5
        have HK := Lib.hid hK
        have hKb : K < 1000000000 := by omega
        clear HF R5 lp lq lX lb l1 l2 CA CC CL CW HL f0 f1 f2 f3 f4 f5 hp hq hv hbl
        rw [← hK]
        clear hK
        have bW := ((HB.out.alloc sB (.cells #[.int .i64 v, .int .i64 p, .int .i64 q] 108)).alloc (by rw [World.size_alloc]; omega) (.cells #[.int .u64 X] 64)).drew
        have oW := own_of_heap (w' := ((wr.alloc (.cells #[.int .i64 v, .int .i64 p, .int .i64 q] 108)).alloc (.cells #[.int .u64 X] 64)).drew) ((HO.out.alloc (.cells #[.int .i64 v, .int .i64 p, .int .i64 q] 108)).alloc (.cells #[.int .u64 X] 64)) rfl
        have cW : ((wr.alloc (.cells #[.int .i64 v, .int .i64 p, .int .i64 q] 108)).alloc (.cells #[.int .u64 X] 64)).drew.cell? ⟨wr.heap.size + 1, 0, none⟩ = some (.int .u64 X) := by
          have h := (ci_blk (wr.alloc (.cells #[.int .i64 v, .int .i64 p, .int .i64 q] 108)) #[.int .u64 X] 64).cell 0
          rw [World.size_alloc] at h
          exact h
        have sW := bW.size
        have bW := Lib.hid bW
        have oW := Lib.hid oW
        have cW := Lib.hid cW
        have sW := Lib.hid sW
        go_wp2
        go_region_law (refine step_app_us (by rfl) _ _ (by rfl) w1.heap.size _ K _ X ⟨wr.heap.size + 1, 0, none⟩ (by rfl) oW.out (by rfl) cW.out hKb sW.out ?_; intro v9 w9 ho9 hg9)
        all_goals
          have b9 := bW.out.trans ((Below.refl w1.heap.size _).grown hg9 sW.out (fun g hg => (HO.out.lt g hg).1))
          clear hg9
          go_wp2
          go_roundg (d.forks.length - (k + 1))
          case measure => omega
          case rel => exact ⟨k + 1, by omega, by go_num, Lib.hid (by rw [NX.out, show 2 + (k + 1) = 2 + k + 1 from rfl, ← HK.out]; exact ho9), Lib.hid b9⟩
      · obtain rfl : k = d.forks.length := by omega
        have hn := HCN.out
        obtain ⟨ae, hA5, hb5, e0⟩ := us_read R5.out hn
        subst hA5
        rw [CA.out _ n hn] at e0
        have nK : (n : Int) < ((2 + d.forks.length : Nat) : Int) := by omega
        go_wp2
        go_ret
        exact ⟨rfl, B⟩
end Go.Proofs.YtnhjcokmajejcaaDoor
