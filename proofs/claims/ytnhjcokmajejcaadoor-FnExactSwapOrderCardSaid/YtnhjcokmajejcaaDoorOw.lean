/- Rows of values become a diagram, in the program. -/
import Derived.Test.YtnhjcokmajejcaaDoorDoP
import Derived.Test.YtnhjcokmajejcaaDoorDgN
import Derived.Test.YtnhjcokmajejcaaDoorDgK
namespace Go.Proofs.YtnhjcokmajejcaaDoor
open Go.RowKit
set_option maxRecDepth 100000

theorem bits_or_i64_nat (a b : Nat) (ha : a < 4611686018427387904) (hb : b < 4611686018427387904) : bits BinOp.or IntKind.i64 (a : Int) (b : Int) = ((a ||| b : Nat) : Int) := by
  have hx : a ||| b < 2 ^ 62 := Nat.or_lt_two_pow (by omega) (by omega)
  have h1 : (BitVec.ofInt 64 (a : Int)).toNat = a := by
    rw [BitVec.ofInt_natCast, BitVec.toNat_ofNat]; exact Nat.mod_eq_of_lt (by omega)
  have h2 : (BitVec.ofInt 64 (b : Int)).toNat = b := by
    rw [BitVec.ofInt_natCast, BitVec.toNat_ofNat]; exact Nat.mod_eq_of_lt (by omega)
  show IntKind.i64.wrap ((BitVec.ofInt 64 (a : Int) ||| BitVec.ofInt 64 (b : Int)).toNat : Int) = _
  rw [BitVec.toNat_or, h1, h2]
  exact IntWalk.i64_in _ (by omega)
theorem bits_and_i64_nat (a b : Nat) (ha : a < 4611686018427387904) (hb : b < 4611686018427387904) : bits BinOp.and IntKind.i64 (a : Int) (b : Int) = ((a &&& b : Nat) : Int) := by
  have hx : a &&& b < 2 ^ 62 := Nat.and_lt_two_pow _ (by omega)
  have h1 : (BitVec.ofInt 64 (a : Int)).toNat = a := by
    rw [BitVec.ofInt_natCast, BitVec.toNat_ofNat]; exact Nat.mod_eq_of_lt (by omega)
  have h2 : (BitVec.ofInt 64 (b : Int)).toNat = b := by
    rw [BitVec.ofInt_natCast, BitVec.toNat_ofNat]; exact Nat.mod_eq_of_lt (by omega)
  show IntKind.i64.wrap ((BitVec.ofInt 64 (a : Int) &&& BitVec.ofInt 64 (b : Int)).toNat : Int) = _
  rw [BitVec.toNat_and, h1, h2]
  exact IntWalk.i64_in _ (by omega)
/-- The diagram that is made of rows is made in the program, too. -/
def GivesRo (base g : Nat) (R : Dg × Int) (m : Nat) (e : Ending) (w' : World) (w : World) : Prop := e = .returned (.int .i64 R.2) ∧ MkD w' base g R.1 false m ∧ Below base w w' ∧ Frame g w w'
/-- A fork of a diagram that has room for it. -/
theorem add_roF (d : Dg) (f : Fk) (m base g : Nat) (w : World) (hM : MkD w base g d false m) (hb : base ≤ w.heap.size) (hfit : fitK d f (d.forks.length + 1)) (hroom : 0 ≤ (adF d f).2) :
    Calls Tryd.prog 86 #[.pointer (some ⟨g, 0, none⟩), f.u] w fun e w' => GivesRo base g (adF d f) m e w' w := by
  have few := hM.ok.few
  have hi := hM.ok.hi
  have a1 := hfit.v0
  have a2 := hfit.v1
  have a3 := hfit.l0
  have a4 := hfit.l1
  have a5 := hfit.h0
  have a6 := hfit.h1
  refine (addD_any d f false m base g w hM hb (fun _ => hfit) (hfit.low (Int.le_refl _)) ⟨a1, by omega⟩ ⟨a3, by omega⟩ ⟨a5, by omega⟩).mono ?_
  rintro e w' ⟨x, d', full', rfl, hM', b, ad, fr⟩
  cases full' with
  | true =>
    rcases ad.no rfl with h | h
    · cases h
    · omega
  | false =>
    have := (ad.new rfl).2
    rw [this]
    exact ⟨rfl, hM', b, fr⟩

set_option maxHeartbeats 4000000 in
theorem ofRows_any (cap : Addr) (val : Nat → Int) (h01 : ∀ r, val r = 0 ∨ val r = 1) (w0 : World) (base g n : Nat) (hn : n ≤ 12)
    (HV : Hid (∀ (W : World) (row : Nat), Below base w0 W → row < 2 ^ n → Calls Tryd.prog 74 #[.int .i64 row, .pointer (some cap)] W (fun e w' => e = .returned (.int .i64 (val row)) ∧ W = w')))
    (k : Nat) : ∀ (M : Dg) (v row m : Nat) (w : World), MkD w base g M false m → base ≤ w.heap.size → Below base w0 w → M.vars = n → v + k = n → row < 2 ^ v → upc M + ro2 k ≤ 1900 →
    Calls Tryd.prog 73 #[.pointer (some ⟨g, 0, none⟩), .int .i64 v, .int .i64 row, .func (.func 74) #[] #[.pointer (some cap)]] w fun e w' => GivesRo base g (roF k M v (lsR val k v row)) m e w' w := by
  induction k with
  | zero =>
    intro M v row m w hM hb hw hv hk hr hu
    rw [roF_zero, lsR_zero]
    obtain ⟨A, cc, bp, cp, Dp, br, cr, Dr, kg, _⟩ := hM.mem
    have x0 := kg.cell 0
    simp only [List.getElem?_cons_zero] at x0
    have HM := Lib.hid hM
    obtain rfl : v = n := by omega
    have ev : ((v : Int) == M.vars) = true := by rw [hv]; simp
    have C := Lib.hid (HV.out w row hw hr)
    have HF := Lib.hid (Frame.of_below (Below.refl w.heap.size w) (mkD_lt hM).1)
    generalize hX : val row = X at *
    have eX : ix [X] 0 = X := rfl
    rw [eX]
    clear hX hM kg hw hr hu hk hv eX
    go_enter Tryd.func73, Tryd.ntmps73
    go_wp2_with fail
    refine (C.out).mono ?_
    rintro e w1 ⟨rfl, rfl⟩
    go_wp2
    go_ret
    exact ⟨rfl, HM.out, Below.refl _ _, HF.out⟩
  | succ k ih =>
    intro M v row m w hM hb hw hv hk hr hu
    have IH := Lib.hid ih
    clear ih
    have e2 : (2 : Nat) ^ (k + 1) = 2 ^ k + 2 ^ k := by rw [Nat.pow_succ]; omega
    have er : ro2 (k + 1) = 2 * ro2 k + if 2 ≤ k then 1 else 0 := rfl
    have ok := hM.ok
    have R0 := roF_ok k M ((v : Int) + 1) (lsR val k (v + 1) row) ok (by omega) (by omega) (lsR_len val k _ _) (lsR_01 h01 k _ _) (by rw [er] at hu; omega)
    obtain ⟨E0, K0, P0, V0, U0⟩ := R0
    have R1 := roF_ok k (roF k M ((v : Int) + 1) (lsR val k (v + 1) row)).1 ((v : Int) + 1) (lsR val k (v + 1) (row ||| 1 <<< v)) K0 (by omega) (by rw [E0.vars]; omega) (lsR_len val k _ _) (lsR_01 h01 k _ _) (by rw [er] at hu; omega)
    obtain ⟨E1, K1, P1, V1, U1⟩ := R1
    have p0 := isP_iff.1 (E1.isP P0)
    have q1 := isP_iff.1 P1
    have ex := E0.trans E1
    have F : fitK (roF k (roF k M ((v : Int) + 1) (lsR val k (v + 1) row)).1 ((v : Int) + 1) (lsR val k (v + 1) (row ||| 1 <<< v))).1 ⟨v, (roF k M ((v : Int) + 1) (lsR val k (v + 1) row)).2, (roF k (roF k M ((v : Int) + 1) (lsR val k (v + 1) row)).1 ((v : Int) + 1) (lsR val k (v + 1) (row ||| 1 <<< v))).2⟩ ((roF k (roF k M ((v : Int) + 1) (lsR val k (v + 1) row)).1 ((v : Int) + 1) (lsR val k (v + 1) (row ||| 1 <<< v))).1.forks.length + 1) :=
      ⟨by dsimp only; omega, by rw [ex.vars]; dsimp only; omega, p0.1, by dsimp only; omega, q1.1, by dsimp only; omega, by dsimp only; rw [E1.varP (isP_iff.1 P0).2]; omega, by dsimp only; omega⟩
    have few := few_room K1
    have hr2 := adF_room (d := (roF k (roF k M ((v : Int) + 1) (lsR val k (v + 1) row)).1 ((v : Int) + 1) (lsR val k (v + 1) (row ||| 1 <<< v))).1) (f := ⟨v, (roF k M ((v : Int) + 1) (lsR val k (v + 1) row)).2, (roF k (roF k M ((v : Int) + 1) (lsR val k (v + 1) row)).1 ((v : Int) + 1) (lsR val k (v + 1) (row ||| 1 <<< v))).2⟩) p0.1 q1.1 (by rw [er] at hu; omega)
    have AD := Lib.hid (fun (W : World) (hM2 : MkD W base g (roF k (roF k M ((v : Int) + 1) (lsR val k (v + 1) row)).1 ((v : Int) + 1) (lsR val k (v + 1) (row ||| 1 <<< v))).1 false m) (hb2 : base ≤ W.heap.size) => add_roF _ _ m base g W hM2 hb2 F hr2)
    obtain ⟨A, cc, bp, cp, Dp, br, cr, Dr, kg, _⟩ := hM.mem
    have x0 := kg.cell 0
    simp only [List.getElem?_cons_zero] at x0
    have ev : ((v : Int) == M.vars) = false := by rw [hv]; simp; omega
    have wv : IntKind.i64.wrap ((v : Int) + 1) = ((v + 1 : Nat) : Int) := by rw [IntWalk.i64_in _ (by omega)]; omega
    have hp : 2 ^ v ≤ 4096 := by
      have : 2 ^ v ≤ 2 ^ 12 := Nat.pow_le_pow_right (by omega) (by omega)
      omega
    have w2 : IntKind.i64.wrap ((2 : Int) ^ v) = ((1 <<< v : Nat) : Int) := by
      rw [Nat.one_shiftLeft, show (2 : Int) ^ v = ((2 ^ v : Nat) : Int) by simp]
      exact IntWalk.i64_in _ (by omega)
    have hor : bits BinOp.or IntKind.i64 (row : Int) ((1 <<< v : Nat) : Int) = ((row ||| 1 <<< v : Nat) : Int) := bits_or_i64_nat _ _ (by omega) (by rw [Nat.one_shiftLeft]; omega)
    have v64 : v ≤ 64 := by omega
    have w3 : wrap64 ((2 : Int) ^ v) = ((1 <<< v : Nat) : Int) := by
      rw [Nat.one_shiftLeft, show (2 : Int) ^ v = ((2 ^ v : Nat) : Int) by simp]
      exact IntWalk.wrap64_in _ (by omega)
    clear w2
    have C0 := Lib.hid (IH.out M (v + 1) row m w hM hb hw hv (by omega) (Nat.lt_of_lt_of_le hr (Nat.pow_le_pow_right (by omega) (Nat.le_succ v))) (by rw [er] at hu; omega))
    have C1 := Lib.hid (fun (W : World) (hM1 : MkD W base g (roF k M ((v : Int) + 1) (lsR val k (v + 1) row)).1 false m) (hb1 : base ≤ W.heap.size) (hw1 : Below base w0 W) => IH.out (roF k M ((v : Int) + 1) (lsR val k (v + 1) row)).1 (v + 1) (row ||| 1 <<< v) m W hM1 hb1 hw1 (by rw [E0.vars, hv]) (by omega) (row_or hr) (by rw [er] at hu; omega))
    have ev1 : ((v + 1 : Nat) : Int) = (v : Int) + 1 := by omega
    rw [ev1] at C0 C1
    have HW := Lib.hid hw
    have HB := Lib.hid hb
    rw [roF_succ, lsR_take, lsR_drop]
    clear E0 K0 P0 V0 U0 E1 K1 P1 V1 U1 p0 q1 ex F few hr2 hM kg IH e2 er ok hw hb hr hu hv hk hp HV
    generalize (row ||| 1 <<< v) = row2 at *
    generalize (1 <<< v : Nat) = sh at *
    generalize lsR val k (v + 1) row = L0 at *
    generalize lsR val k (v + 1) row2 = L1 at *
    generalize roF k M ((v : Int) + 1) L0 = R0 at *
    generalize roF k R0.1 ((v : Int) + 1) L1 = R1 at *
    generalize adF R1.1 ⟨v, R0.2, R1.2⟩ = R2 at *
    obtain ⟨M0, r0⟩ := R0
    obtain ⟨M1, r1⟩ := R1
    obtain ⟨M2, r2⟩ := R2
    unfold Fk.u at AD
    dsimp only at *
    go_enter Tryd.func73, Tryd.ntmps73
    go_wp2_with fail
    refine (C0.out).mono ?_
    rintro e w1 ⟨rfl, hM1, b1, f1⟩
    have C1' := Lib.hid (C1.out w1 hM1 (Nat.le_trans HB.out b1.size) (HW.out.trans b1))
    have HB1 := Lib.hid b1
    have HF1 := Lib.hid f1
    clear C0 C1 hM1 b1 f1
    dsimp only
    go_wp2_with fail
    refine (C1'.out).mono ?_
    rintro e w2 ⟨rfl, hM2, b2, f2⟩
    have AD2 := Lib.hid (AD.out w2 hM2 (Nat.le_trans HB.out (Nat.le_trans HB1.out.size b2.size)))
    have HB2 := Lib.hid (HB1.out.trans b2)
    have HF2 := Lib.hid (HF1.out.trans f2)
    clear C1' AD hM2 b2 f2
    dsimp only
    go_wp2_with fail
    refine (AD2.out).mono ?_
    rintro e w3 ⟨rfl, hM3, b3, f3⟩
    dsimp only at *
    go_wp2
    go_ret
    exact ⟨rfl, hM3, HB2.out.trans b3, HF2.out.trans f3⟩
end Go.Proofs.YtnhjcokmajejcaaDoor
