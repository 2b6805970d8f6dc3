/- Diagrams: DiagramSome, in the model. -/
import Derived.Test.YtnpdeliaefjmlaaSmI
import Derived.Test.YtnpdeliaefjmlaaSmM
namespace Go.Proofs.Ytnpdeliaefjmlaa
open Go.RowKit
set_option maxRecDepth 100000

/-- What stands in the loop. -/
def AtSp (d : Dg) (nn : Int) (vs : List Int) (base H k : Nat) (x : Int) (W W' : World) : Prop :=
  Below W.heap.size W W' ∧
  ((∃ A c, x = (smK d nn vs k).2 ∧ 0 ≤ x ∧ W'.ownsRow base 100 3 (.slice A (smK d nn vs k).1.forks.length c) (smK d nn vs k).1.forks.length (fl (smK d nn vs k).1.forks) ∧
      Blk W' H 46 [.int .i64 (smK d nn vs k).1.vars, .slice A (smK d nn vs k).1.forks.length c] ∧ (Value.slice A (smK d nn vs k).1.forks.length c).ownBlock ≠ some H) ∨
    (x = -1 ∧ (smK d nn vs vs.length).2 < 0 ∧ ∃ m A n c, Blk W' H 46 [.int .i64 m, .slice A n c]))
theorem cell_set_farD {w : World} {p q : Addr} {u v : Value} (h : w.cell? p = some v) (hne : p.block ≠ q.block) : (w.setCell q u).cell? p = some v := (World.cell?_of_block (setCell_heap w q u hne)).trans h
theorem atSp_next {d : Dg} {nn : Int} {vs : List Int} {base H k : Nat} {W w8 : World} {v : Value} {L : Nat} {m1 : Int} {A1 : Option Addr} {n1 c1 : Nat} {xx : Int} {Dk : Dg} {xk : Int} (hk : k < vs.length) (hR : smK d nn vs k = (Dk, xk)) (hx : 0 ≤ xk)
    (B : Below W.heap.size W w8) (kH : ∃ q0 q1, Blk w8 H 46 [q0, q1]) (hH : W.heap.size ≤ H) (hv : v.ownBlock ≠ some H) (hL : H < L) (on1 : OneD base v L (smR Dk xk (ix vs k)) m1 A1 n1 c1 xx w8) :
    AtSp d nn vs base H (k + 1) xx W ((w8.setCell ⟨H, 0, none⟩ (.int .i64 m1)).setCell ⟨H, 1, none⟩ (.slice A1 n1 c1)) := by
  have e : smK d nn vs (k + 1) = smR Dk xk (ix vs k) := by
    show (if (smK d nn vs k).2 < 0 then smK d nn vs k else smR (smK d nn vs k).1 (smK d nn vs k).2 (ix vs k)) = _
    rw [hR, if_neg (by show ¬ xk < 0; omega)]
  obtain ⟨q0, q1, kH⟩ := kH
  have K2 := (kH.set 0 (.int .i64 m1)).set 1 (.slice A1 n1 c1)
  refine ⟨(B.setCell (p := ⟨H, 0, none⟩) hH _).setCell (p := ⟨H, 1, none⟩) hH _, ?_⟩
  rcases on1 with ⟨rfl, hr⟩ | ⟨hxx, ex, em, en, ho, hy⟩
  · exact .inr ⟨rfl, by rw [smK_neg (k := k + 1) (by rw [e]; exact hr) _ hk, e]; exact hr, m1, A1, n1, c1, K2⟩
  · have nb : (Value.slice A1 n1 c1).ownBlock ≠ some H := fun q => by
      rcases hy H (mem_bl.2 q) with q | q
      · exact hv (mem_bl.1 q)
      · omega
    subst en
    refine .inl ⟨A1, c1, by rw [e]; exact ex, hxx, ?_, ?_, ?_⟩
    · rw [e]; exact own_away (own_away ho (p := ⟨H, 0, none⟩) _ nb) (p := ⟨H, 1, none⟩) _ nb
    · rw [e, ← em]; exact K2
    · rw [e]; exact nb

set_option maxRecDepth 100000 in
set_option maxHeartbeats 4000000 in
theorem dgSome_spec (d : Dg) (nn : Int) (vs : List Int) (A2 : Option Addr) (n2 c2 : Nat)  (A : Option Addr) (n c : Nat) (w : World) (h1 : Mem.rd w w.heap.size [.slice A n c] d.forks) (h2 : Mem.rd w w.heap.size [.slice A2 n2 c2] vs) :
    Calls Try.prog 31 #[.agg #[.int .i64 d.vars, .slice A n c], .int .i64 nn, .slice A2 n2 c2] w (GivesDgN w (dgSomeB d nn vs).1 (dgSomeB d nn vs).2) := by
  obtain rfl : d.forks.length = n := rd_len h1
  have CK := Lib.hid (fun W (B : Below w.heap.size w W) => dgValid_spec d A d.forks.length c W (Mem.rd_on h1 B))
  have BX := Lib.hid (two_boxes w #[.int .i64 d.vars, .slice A d.forks.length c] #[.int .i64 0, .slice none 0 0] 46 46)
  have B0 : Below w.heap.size w ((w.alloc (.cells #[.int .i64 d.vars, .slice A d.forks.length c] 46)).alloc (.cells #[.int .i64 0, .slice none 0 0] 46)) := (below_alloc w _).alloc (by simp) _
  cases k1 : dgB d
  · have hE : dgSomeB d nn vs = (⟨0, []⟩, -1) := if_neg (by rw [k1]; simp)
    rw [hE]
    rw [k1] at CK
    obtain ⟨v, fs⟩ := d
    dsimp only at *
    clear hE k1 h1
    go_enter Try.func31, Try.ntmps31
    go_wp2_with fail
    refine (CK.out _ B0).mono ?_
    rintro e w1 ⟨rfl, b1⟩
    obtain ⟨B1, kb1, kr1⟩ := BX.out _ b1
    have x0 := kb1.cell 0
    have x1 := kb1.cell 1
    have f0 := kr1.frozen 0
    have f1 := kr1.frozen 1
    have y0 := kr1.cell 0
    have y1 := kr1.cell 1
    simp only [List.getElem?_cons_zero, List.getElem?_cons_succ] at x0 x1 y0 y1
    go_wp2
    have K2 := (kr1.set 0 (.int .i64 0)).set 1 (.slice none 0 0)
    have b8 := (B1.setCell (p := ⟨w.heap.size + 1, 0, none⟩) (Nat.le_succ _) (.int .i64 0)).setCell (p := ⟨w.heap.size + 1, 1, none⟩) (Nat.le_succ _) (.slice none 0 0)
    generalize (w1.setCell ⟨w.heap.size + 1, 0, none⟩ (.int .i64 0)).setCell ⟨w.heap.size + 1, 1, none⟩ (.slice none 0 0) = w8 at K2 b8 ⊢
    have r0 := K2.cell 0
    have r1 := K2.cell 1
    simp only [List.set_cons_zero, List.set_cons_succ, List.getElem?_cons_zero, List.getElem?_cons_succ] at r0 r1
    exact bodyPost_ret (v := .tuple #[.agg #[.int .i64 0, .slice none 0 0], .int .i64 (-1)]) (by simp [results, Try.results31, go_sem, r0, r1]) rfl (gives_dg_nil b8)
  · have ok := dgB_iff.1 k1
    have few := ok.few
    have hv0 := ok.lo
    have hv1 := ok.hi
    rw [k1] at CK
    have L1 := Lib.hid (fun W (_ : Below w.heap.size w W) => l8Place_any d A c nn W (by omega))
    cases q1 : isP d nn
    · have hE : dgSomeB d nn vs = (⟨0, []⟩, -1) := if_neg (by rw [k1, q1]; simp)
      rw [hE]
      rw [q1] at L1
      obtain ⟨v, fs⟩ := d
      dsimp only at *
      clear hE k1 h1 ok q1
      go_enter Try.func31, Try.ntmps31
      go_wp2_with fail
      refine (CK.out _ B0).mono ?_
      rintro e w1 ⟨rfl, b1⟩
      obtain ⟨B1, kb1, kr1⟩ := BX.out _ b1
      have x0 := kb1.cell 0
      have x1 := kb1.cell 1
      have f0 := kr1.frozen 0
      have f1 := kr1.frozen 1
      have y0 := kr1.cell 0
      have y1 := kr1.cell 1
      simp only [List.getElem?_cons_zero, List.getElem?_cons_succ] at x0 x1 y0 y1
      go_wp2_with fail
      refine (L1.out _ B1).mono ?_
      rintro e w2 ⟨rfl, c2⟩
      have b2 := b1.trans (c2.mono b1.size)
      obtain ⟨B2, kb2, kr2⟩ := BX.out _ b2
      have x0 := kb2.cell 0
      have x1 := kb2.cell 1
      have f0 := kr2.frozen 0
      have f1 := kr2.frozen 1
      have y0 := kr2.cell 0
      have y1 := kr2.cell 1
      simp only [List.getElem?_cons_zero, List.getElem?_cons_succ] at x0 x1 y0 y1
      go_wp2
      have K2 := (kr2.set 0 (.int .i64 0)).set 1 (.slice none 0 0)
      have b8 := (B2.setCell (p := ⟨w.heap.size + 1, 0, none⟩) (Nat.le_succ _) (.int .i64 0)).setCell (p := ⟨w.heap.size + 1, 1, none⟩) (Nat.le_succ _) (.slice none 0 0)
      generalize (w2.setCell ⟨w.heap.size + 1, 0, none⟩ (.int .i64 0)).setCell ⟨w.heap.size + 1, 1, none⟩ (.slice none 0 0) = w8 at K2 b8 ⊢
      have r0 := K2.cell 0
      have r1 := K2.cell 1
      simp only [List.set_cons_zero, List.set_cons_succ, List.getElem?_cons_zero, List.getElem?_cons_succ] at r0 r1
      exact bodyPost_ret (v := .tuple #[.agg #[.int .i64 0, .slice none 0 0], .int .i64 (-1)]) (by simp [results, Try.results31, go_sem, r0, r1]) rfl (gives_dg_nil b8)
    · have L2 := Lib.hid (fun W (B : Below w.heap.size w W) => l8Vars_any d A d.forks.length c A2 n2 c2 vs W (Mem.rd_on h2 B) hv0 (Int.le_trans hv1 (by decide)))
      cases q2 : setV vs d.vars
      · have hE : dgSomeB d nn vs = (⟨0, []⟩, -1) := if_neg (by rw [k1, q1, q2]; simp)
        rw [hE]
        rw [q1] at L1
        rw [q2] at L2
        obtain ⟨v, fs⟩ := d
        dsimp only at *
        clear hE k1 h1 ok q1 q2
        go_enter Try.func31, Try.ntmps31
        go_wp2_with fail
        refine (CK.out _ B0).mono ?_
        rintro e w1 ⟨rfl, b1⟩
        obtain ⟨B1, kb1, kr1⟩ := BX.out _ b1
        have x0 := kb1.cell 0
        have x1 := kb1.cell 1
        have f0 := kr1.frozen 0
        have f1 := kr1.frozen 1
        have y0 := kr1.cell 0
        have y1 := kr1.cell 1
        simp only [List.getElem?_cons_zero, List.getElem?_cons_succ] at x0 x1 y0 y1
        go_wp2_with fail
        refine (L1.out _ B1).mono ?_
        rintro e w2 ⟨rfl, c2⟩
        have b2 := b1.trans (c2.mono b1.size)
        obtain ⟨B2, kb2, kr2⟩ := BX.out _ b2
        have x0 := kb2.cell 0
        have x1 := kb2.cell 1
        have f0 := kr2.frozen 0
        have f1 := kr2.frozen 1
        have y0 := kr2.cell 0
        have y1 := kr2.cell 1
        simp only [List.getElem?_cons_zero, List.getElem?_cons_succ] at x0 x1 y0 y1
        go_wp2_with fail
        refine (L2.out _ B2).mono ?_
        rintro e w3 ⟨rfl, c3⟩
        have b3 := b2.trans (c3.mono b2.size)
        obtain ⟨B3, kb3, kr3⟩ := BX.out _ b3
        have x0 := kb3.cell 0
        have x1 := kb3.cell 1
        have f0 := kr3.frozen 0
        have f1 := kr3.frozen 1
        have y0 := kr3.cell 0
        have y1 := kr3.cell 1
        simp only [List.getElem?_cons_zero, List.getElem?_cons_succ] at x0 x1 y0 y1
        go_wp2
        have K2 := (kr3.set 0 (.int .i64 0)).set 1 (.slice none 0 0)
        have b8 := (B3.setCell (p := ⟨w.heap.size + 1, 0, none⟩) (Nat.le_succ _) (.int .i64 0)).setCell (p := ⟨w.heap.size + 1, 1, none⟩) (Nat.le_succ _) (.slice none 0 0)
        generalize (w3.setCell ⟨w.heap.size + 1, 0, none⟩ (.int .i64 0)).setCell ⟨w.heap.size + 1, 1, none⟩ (.slice none 0 0) = w8 at K2 b8 ⊢
        have r0 := K2.cell 0
        have r1 := K2.cell 1
        simp only [List.set_cons_zero, List.set_cons_succ, List.getElem?_cons_zero, List.getElem?_cons_succ] at r0 r1
        exact bodyPost_ret (v := .tuple #[.agg #[.int .i64 0, .slice none 0 0], .int .i64 (-1)]) (by simp [results, Try.results31, go_sem, r0, r1]) rfl (gives_dg_nil b8)
      · have hE : dgSomeB d nn vs = toldD (smK d nn vs vs.length) := if_pos (by rw [k1, q1, q2]; rfl)
        rw [hE]
        rw [q1] at L1
        rw [q2] at L2
        have CP := Lib.hid (fun W (B : Below w.heap.size w W) => l8Copy_any d A d.forks.length c W (Mem.rd_on h1 B) (by omega))
        have VI := Lib.hid (fun j hj => setV_in (d := d) q2 j hj)
        have VL := Lib.hid (setV_long q2 hv0)
        have LV := Lib.hid (rd_len h2)
        have RV := Lib.hid (fun W (B : Below w.heap.size w W) => (rd_ints.1 (Mem.rd_below h2 B)).2)
        have KO := Lib.hid (fun k hk (hx : 0 ≤ (smK d nn vs k).2) => smK_ok ok q1 (k := k) (fun j hj => VI.out j (Nat.lt_of_lt_of_le hj hk)) hx)
        have VI := Lib.hid (fun (dk : Dg) (hd : dk.vars = d.vars) j hj => show varIn dk (ix vs j) = true by unfold varIn; rw [hd]; exact VI.out j hj)
        have S00 : Hid (smK d nn vs 0 = (d, nn)) := Lib.hid rfl
        have nn0 := (isP_iff.1 q1).1
        have hfew : True := trivial
        skip
        skip
        clear hfew
        obtain ⟨v, fs⟩ := d
        skip
        dsimp only at *
        clear hE k1 h1 ok q1 q2
        go_enter Try.func31, Try.ntmps31
        go_wp2_with fail
        refine (CK.out _ B0).mono ?_
        rintro e w1 ⟨rfl, b1⟩
        obtain ⟨B1, kb1, kr1⟩ := BX.out _ b1
        have x0 := kb1.cell 0
        have x1 := kb1.cell 1
        have f0 := kr1.frozen 0
        have f1 := kr1.frozen 1
        have y0 := kr1.cell 0
        have y1 := kr1.cell 1
        simp only [List.getElem?_cons_zero, List.getElem?_cons_succ] at x0 x1 y0 y1
        go_wp2_with fail
        refine (L1.out _ B1).mono ?_
        rintro e w2 ⟨rfl, c2⟩
        have b2 := b1.trans (c2.mono b1.size)
        obtain ⟨B2, kb2, kr2⟩ := BX.out _ b2
        have x0 := kb2.cell 0
        have x1 := kb2.cell 1
        have f0 := kr2.frozen 0
        have f1 := kr2.frozen 1
        have y0 := kr2.cell 0
        have y1 := kr2.cell 1
        simp only [List.getElem?_cons_zero, List.getElem?_cons_succ] at x0 x1 y0 y1
        go_wp2_with fail
        refine (L2.out _ B2).mono ?_
        rintro e w3 ⟨rfl, c3⟩
        have b3 := b2.trans (c3.mono b2.size)
        obtain ⟨B3, kb3, kr3⟩ := BX.out _ b3
        have x0 := kb3.cell 0
        have x1 := kb3.cell 1
        have f0 := kr3.frozen 0
        have f1 := kr3.frozen 1
        have y0 := kr3.cell 0
        have y1 := kr3.cell 1
        simp only [List.getElem?_cons_zero, List.getElem?_cons_succ] at x0 x1 y0 y1
        go_wp2_with fail
        refine (CP.out _ B3).mono ?_
        rintro e w6 ⟨A6, c6, rfl, ho6, c6b⟩
        have b6 := b3.trans (c6b.mono b3.size)
        have hz9 : w.heap.size + 1 < w3.heap.size := kr3.lt
        have bH := b6.alloc b6.size (.cells #[.int .i64 v, .slice A6 fs.length c6] 46)
        have kH := ci_blk w6 #[.int .i64 v, .slice A6 fs.length c6] 46
        have oH := ho6.alloc (.cells #[.int .i64 v, .slice A6 fs.length c6] 46)
        have nH : (Value.slice A6 fs.length c6).ownBlock ≠ some w6.heap.size := fun e => by have := (ho6.lt _ e).2; omega
        obtain ⟨base, hbase⟩ : ∃ base, base = w3.heap.size := ⟨_, rfl⟩
        obtain ⟨H, hH⟩ : ∃ H, H = w6.heap.size := ⟨_, rfl⟩
        rw [← hbase] at oH hz9
        rw [← hH] at kH nH
        have hbH : base ≤ H := by rw [hbase, hH]; exact c6b.size
        obtain ⟨W0, hW0⟩ : ∃ W0, W0 = (w.alloc (.cells #[.int .i64 v, .slice A fs.length c] 46)).alloc (.cells #[.int .i64 0, .slice none 0 0] 46) := ⟨_, rfl⟩
        rw [← hW0] at bH BX
        have hH0 : W0.heap.size ≤ H := by rw [hW0, hH]; exact b6.size
        have hW0b : W0.heap.size ≤ base := by rw [hW0, hbase]; exact b3.size
        have S0 : Hid (AtSp ⟨v, fs⟩ nn vs base H 0 nn W0 (w6.alloc (.cells #[.int .i64 v, .slice A6 fs.length c6] 46))) :=
          Lib.hid ⟨bH, .inl ⟨A6, c6, by rw [S00.out], nn0, by rw [S00.out]; exact oH, by rw [S00.out]; exact kH, by rw [S00.out]; exact nH⟩⟩
        have lv := LV.out
        have vl := VL.out
        (try dsimp only at vl)
        subst hH
        clear b1 b2 b3 b6 bH kH oH nH ho6 c6b c2 c3 B1 B2 B3 kb1 kb2 kb3 kr1 kr2 kr3 hbase hW0 L1 L2 CP CK LV VL
        go_wp2
        go_loopg [1, 9] n2 (fun mm nv i wr => ∃ (k : Nat) (x : Int), k + mm = n2 ∧ i = .int .i64 k ∧ nv = .int .i64 x ∧ Hid (AtSp ⟨v, fs⟩ nn vs base w6.heap.size k x W0 wr))
        case atStart => exact ⟨0, nn, by omega, rfl, rfl, S0⟩
        case round =>
          clear x0 x1 f0 f1 y0 y1 S0
          obtain ⟨k, x, hk, rfl, rfl, HS⟩ := hrel
          have b7 := HS.out.1
          obtain ⟨B7, kb7, kr7⟩ := BX.out _ b7
          have x0 := kb7.cell 0
          have x1 := kb7.cell 1
          have f0 := kr7.frozen 0
          have f1 := kr7.frozen 1
          have y0 := kr7.cell 0
          have y1 := kr7.cell 1
          simp only [List.getElem?_cons_zero, List.getElem?_cons_succ] at x0 x1 y0 y1
          rcases HS.out.2 with ⟨A7, c7, ex, hx, ho, kH, hne⟩ | ⟨rfl, hre, m7, A7, n7, c7, kH⟩
          · by_cases hlt : k < n2
            · have kn : (k : Int) < n2 := by omega
              have HKO := KO.out k (by omega) (by rw [← ex]; exact hx)
              have vin := VI.out _ HKO.2.2 k (by omega)
              obtain ⟨ad, rfl, hbl, hc⟩ := (RV.out _ B7).int hlt
              have hkl : k < vs.length := by omega
              obtain ⟨Rk, hR⟩ : ∃ Rk, Rk = smK ⟨v, fs⟩ nn vs k := ⟨_, rfl⟩
              rw [← hR] at ex ho kH hne HKO vin
              obtain ⟨⟨rm, rg⟩, re⟩ := Rk
              dsimp only at *
              have ex2 := ex.symm
              subst ex2
              have HX := Lib.hid (fun w8 L m1 A1 n1 c1 xx B kH hL on1 => atSp_next (w8 := w8) (L := L) (m1 := m1) (A1 := A1) (n1 := n1) (c1 := c1) (xx := xx) (d := ⟨v, fs⟩) (nn := nn) (vs := vs) (base := base) (H := w6.heap.size) (k := k) (W := W0) (v := .slice A7 rg.length c7) hkl hR.symm hx B kH hH0 hne hL on1)
              have SC := Lib.hid (fun W ho hb => l8Some_any ⟨rm, rg⟩ A7 c7 re (ix vs k) base W ho hb HKO.1 HKO.2.1 vin)
              dsimp only at SC
              have hbz : base ≤ wr.heap.size := by have := kH.lt; omega
              have lH := kH.lt
              have OW := Lib.hid ho
              have KH := Lib.hid kH
              have HB7 := Lib.hid b7
              have NBH : w6.heap.size ∉ bl (.slice A7 rg.length c7) := fun q => hne (mem_bl.1 q)
              have NBZ : wr.heap.size ∉ bl (.slice A7 rg.length c7) := fun q => by have := (OW.out.lt _ (mem_bl.1 q)).2; omega
              have GEB : Hid (∀ x ∈ bl (.slice A7 rg.length c7), base ≤ x) := Lib.hid (fun x hx => (OW.out.lt x (mem_bl.1 hx)).1)
              have lad : (ad.add k).block < base := by rw [add_block]; omega
              have ladw : (ad.add k).block < wr.heap.size := by omega
              have hzH : w6.heap.size ≠ wr.heap.size := Nat.ne_of_lt lH
              have hza : (ad.add k).block ≠ wr.heap.size := Nat.ne_of_lt ladw
              have NBA : (ad.add k).block ∉ bl (.slice A7 rg.length c7) := fun q => by have := (OW.out.lt _ (mem_bl.1 q)).1; omega
              have z0 := kH.cell 0
              have z1 := kH.cell 1
              simp only [List.getElem?_cons_zero, List.getElem?_cons_succ] at z0 z1
              have z0d : wr.drew.cell? ⟨w6.heap.size, 0, none⟩ = some (.int .i64 rm) := z0
              have z1d : wr.drew.cell? ⟨w6.heap.size, 1, none⟩ = some (.slice A7 rg.length c7) := z1
              have hcd : wr.drew.cell? (ad.add k) = some (.int .i64 (ix vs k)) := hc
              have z0a : ∀ o, (wr.alloc o).drew.cell? ⟨w6.heap.size, 0, none⟩ = some (.int .i64 rm) := fun o => show (wr.alloc o).cell? _ = _ from cell_below (below_alloc wr o) (p := ⟨w6.heap.size, 0, none⟩) lH z0
              have z1a : ∀ o, (wr.alloc o).drew.cell? ⟨w6.heap.size, 1, none⟩ = some (.slice A7 rg.length c7) := fun o => show (wr.alloc o).cell? _ = _ from cell_below (below_alloc wr o) (p := ⟨w6.heap.size, 1, none⟩) lH z1
              have hca : ∀ o, (wr.alloc o).drew.cell? (ad.add k) = some (.int .i64 (ix vs k)) := fun o => show (wr.alloc o).cell? _ = _ from cell_below (below_alloc wr o) ladw hc
              have hba : ∀ o, base ≤ (wr.alloc o).drew.heap.size := fun o => by show base ≤ (wr.alloc o).heap.size; rw [World.size_alloc]; omega
              clear HS KO VI RV S00 hR HKO vin ho kH b7 kb7 kr7 x0 x1 f0 f1 y0 y1 ex
              go_wp2
              go_region_held3 (fun w' => w'.cell? ⟨w6.heap.size, 0, none⟩ = some (.int .i64 rm) ∧ w'.cell? ⟨w6.heap.size, 1, none⟩ = some (.slice A7 rg.length c7) ∧ w'.cell? (ad.add k) = some (.int .i64 (ix vs k)))
                (first
                  | with_reducible exact ⟨z0, z1, hc⟩
                  | with_reducible exact ⟨z0d, z1d, hcd⟩
                  | with_reducible exact ⟨z0a _, z1a _, hca _⟩
                  | with_reducible exact ⟨y0', y1', y2'⟩
                  | with_reducible exact ⟨y0a _, y1a _, y2a _⟩
                  | with_reducible exact ⟨cell_set_farD (cell_set_farD y0' hzH) hzH, cell_set_farD (cell_set_farD y1' hzH) hzH, cell_set_farD (cell_set_farD y2' hza) hza⟩
                  | go_keep
                  | fail)
                (first
                  | (go_at_call 78; refine (SC.out wr.drew OW.out.drew hbz).mono ?_; rintro e w7 hG
                     obtain ⟨m1, A1, n1, c1, xx, rfl, on7', kd7, on1⟩ := gives_de_one rfl hG
                     clear hG kd7
                     have on7 : Only (bl (.slice A7 rg.length c7)) wr w7 := ⟨on7'.os, on7'.tape, on7'.output, on7'.size, on7'.block⟩
                     have on1 : OneD base (.slice A7 rg.length c7) wr.heap.size (smR ⟨rm, rg⟩ re (ix vs k)) m1 A1 n1 c1 xx w7 := on1
                     have k7 := only_blk on7 KH.out NBH
                     have y0' := k7.cell 0
                     have y1' := k7.cell 1
                     simp only [List.getElem?_cons_zero, List.getElem?_cons_succ] at y0' y1'
                     have y2' : w7.cell? (ad.add k) = some (.int .i64 (ix vs k)) := (World.cell?_of_block (on7.block _ ladw NBA)).trans hc
                     have ladw7 : (ad.add k).block < w7.heap.size := Nat.lt_of_lt_of_le ladw on7.size
                     have y2a := fun o => cell_below (below_alloc w7 o) ladw7 y2'
                     have y0a := fun o => cell_below (below_alloc w7 o) (p := ⟨w6.heap.size, 0, none⟩) k7.lt y0'
                     have y1a := fun o => cell_below (below_alloc w7 o) (p := ⟨w6.heap.size, 1, none⟩) k7.lt y1')
                  | (go_at_call 78; refine (SC.out (wr.alloc _).drew (OW.out.alloc _).drew (hba _)).mono ?_; rintro e w7 hG
                     obtain ⟨m1, A1, n1, c1, xx, rfl, on7', kd7, on1⟩ := gives_de_one rfl hG
                     clear hG kd7
                     have on7 : Only (bl (.slice A7 rg.length c7)) (wr.alloc (.cells #[.int .i64 0, .slice none 0 0] 46)) w7 := ⟨on7'.os, on7'.tape, on7'.output, on7'.size, on7'.block⟩
                     have on1 : OneD base (.slice A7 rg.length c7) (wr.heap.size + 1) (smR ⟨rm, rg⟩ re (ix vs k)) m1 A1 n1 c1 xx w7 := oneD_from on1 (by show _ ≤ (wr.alloc _).heap.size; rw [World.size_alloc]; exact Nat.le_refl _)
                     have k7 := only_blk on7 (KH.out.alloc _) NBH
                     have kz := only_blk on7 (ci_blk wr _ _) NBZ
                     have y0' := k7.cell 0
                     have y1' := k7.cell 1
                     have y2' : w7.cell? (ad.add k) = some (.int .i64 (ix vs k)) := (World.cell?_of_block (on7.block _ (by show _ < (wr.alloc _).heap.size; rw [World.size_alloc]; omega) NBA)).trans (hca _)
                     have t0 := kz.cell 0
                     have t1 := kz.cell 1
                     have f0 := kz.frozen 0
                     have f1 := kz.frozen 1
                     simp only [List.getElem?_cons_zero, List.getElem?_cons_succ] at y0' y1' t0 t1))
              all_goals
                first
                  | (have d7 : Below base wr w7 := on7.below hbz GEB.out
                     have kz8 := ci_blk w7 #[.int .i64 m1, .slice A1 n1 c1] 46
                     have k8 := k7.alloc (.cells #[.int .i64 m1, .slice A1 n1 c1] 46)
                     have o8 := oneD_below on1 (below_alloc w7 (.cells #[.int .i64 m1, .slice A1 n1 c1] 46))
                     have b7' := HB7.out.trans (d7.mono hW0b)
                     have b8 := b7'.alloc b7'.size (.cells #[.int .i64 m1, .slice A1 n1 c1] 46)
                     have ne8 : w7.heap.size ≠ w6.heap.size := by have := k7.lt; omega
                     have hL : w6.heap.size < wr.heap.size := lH
                     clear k7 on1 on7 d7 b7' y0' y1' y2' y0a y1a y2a z0 z1 z0d z1d z0a z1a hcd hca ladw7
                     generalize w7.alloc (.cells #[.int .i64 m1, .slice A1 n1 c1] 46) = w8 at kz8 k8 o8 b8 ⊢
                     generalize w7.heap.size = zb at kz8 ne8 ⊢)
                  | (have d7a : Below base (wr.alloc (.cells #[.int .i64 0, .slice none 0 0] 46)) w7 := on7.below (by rw [World.size_alloc]; omega) GEB.out
                     have d7 := ((Below.refl base wr).alloc hbz _).trans d7a
                     have kz8 := (kz.set 0 (.int .i64 m1)).set 1 (.slice A1 n1 c1)
                     have k8 := two_far (u0 := .int .i64 m1) (u1 := .slice A1 n1 c1) hzH k7
                     have nb7 := oneD_far on1 (Nat.lt_succ_self _) NBZ
                     have o8 : OneD base (.slice A7 rg.length c7) (wr.heap.size + 1) (smR ⟨rm, rg⟩ re (ix vs k)) m1 A1 n1 c1 xx ((w7.setCell ⟨wr.heap.size, 0, none⟩ (.int .i64 m1)).setCell ⟨wr.heap.size, 1, none⟩ (.slice A1 n1 c1)) := by
                       rcases on1 with q | q
                       · exact .inl q
                       · have h := nb7 q.1
                         exact oneD_set (oneD_set (.inr q) _ h) _ h
                     have b7' := HB7.out.trans (d7.mono hW0b)
                     have hz0 : W0.heap.size ≤ wr.heap.size := by omega
                     have b8 := (b7'.setCell (p := ⟨wr.heap.size, 0, none⟩) hz0 (.int .i64 m1)).setCell (p := ⟨wr.heap.size, 1, none⟩) hz0 (.slice A1 n1 c1)
                     have ne8 : wr.heap.size ≠ w6.heap.size := fun e => hzH e.symm
                     have hL : w6.heap.size < wr.heap.size + 1 := by omega
                     clear k7 kz on1 on7 d7 d7a b7' nb7 y0' y1' y2' t0 t1 z0 z1 z0d z1d z0a z1a hcd hca f0 f1
                     generalize (w7.setCell ⟨wr.heap.size, 0, none⟩ (.int .i64 m1)).setCell ⟨wr.heap.size, 1, none⟩ (.slice A1 n1 c1) = w8 at kz8 k8 o8 b8 ⊢)
                have u0 := kz8.cell 0
                have u1 := kz8.cell 1
                have g0 := k8.frozen 0
                have g1 := k8.frozen 1
                have v0 := k8.cell 0
                have v1 := k8.cell 1
                simp only [List.set_cons_zero, List.set_cons_succ, List.getElem?_cons_zero, List.getElem?_cons_succ] at u0 u1 v0 v1
                have HN := Lib.hid (HX.out w8 _ m1 A1 n1 c1 xx b8 ⟨_, _, k8⟩ hL o8)
                clear kz8 k8 o8 b8 SC HX OW KH HB7 GEB
                go_wp2
                go_roundg (n2 - (k + 1))
                case measure => omega
                case rel => exact ⟨k + 1, xx, by omega, by go_num, rfl, HN⟩

            · obtain rfl : k = n2 := by omega
              have kn : ¬ (k : Int) < k := by omega
              have ok7 := KO.out k (by omega) (by rw [← ex]; exact hx)
              obtain ⟨Rk, hR⟩ : ∃ Rk, Rk = smK ⟨v, fs⟩ nn vs k := ⟨_, rfl⟩
              rw [← hR] at ex ho kH hne ok7
              obtain ⟨⟨rm, rg⟩, re⟩ := Rk
              dsimp only at *
              have ex2 := ex.symm
              subst ex2
              have few7 := ok7.1.few
              dsimp only at few7
              have HT := Lib.hid (show toldD (smK ⟨v, fs⟩ nn vs vs.length) = (⟨rm, rg⟩, re) from by rw [lv, ← hR]; exact if_neg (by show ¬ re < 0; omega))
              clear KO VI RV S00 hR ex
              have O7 := Lib.hid ho
              clear ho ok7 HS
              have v0 := kH.cell 0
              have v1 := kH.cell 1
              have lH := kH.lt
              simp only [List.getElem?_cons_zero, List.getElem?_cons_succ] at v0 v1
              go_wp2_with fail
              refine (l8Told_yes rm A7 rg.length c7 re _ (by omega)).mono ?_
              rintro e w9 ⟨rfl, d9⟩
              have b9 := b7.trans (d9.mono b7.size)
              obtain ⟨B9, kb9, kr9⟩ := BX.out _ b9
              have x0 := kb9.cell 0
              have x1 := kb9.cell 1
              have f0 := kr9.frozen 0
              have f1 := kr9.frozen 1
              have y0 := kr9.cell 0
              have y1 := kr9.cell 1
              simp only [List.getElem?_cons_zero, List.getElem?_cons_succ] at x0 x1 y0 y1
              have o9 := own_below O7.out d9
              have n9 : (Value.slice A7 (rg).length c7).ownBlock ≠ some (w.heap.size + 1) := fun e => by have := (o9.lt _ e).1; (try simp only [World.size_alloc] at this); omega
              go_wp2
              have K2 := (kr9.set 0 (.int .i64 rm)).set 1 (.slice A7 (rg).length c7)
              have o8 := own_away (own_away o9 (p := ⟨w.heap.size + 1, 0, none⟩) (.int .i64 rm) n9) (p := ⟨w.heap.size + 1, 1, none⟩) (.slice A7 (rg).length c7) n9
              have b8 := (B9.setCell (p := ⟨w.heap.size + 1, 0, none⟩) (Nat.le_succ _) (.int .i64 rm)).setCell (p := ⟨w.heap.size + 1, 1, none⟩) (Nat.le_succ _) (.slice A7 (rg).length c7)
              generalize (w9.setCell ⟨w.heap.size + 1, 0, none⟩ (.int .i64 rm)).setCell ⟨w.heap.size + 1, 1, none⟩ (.slice A7 (rg).length c7) = w8 at K2 b8 o8 ⊢
              have r0 := K2.cell 0
              have r1 := K2.cell 1
              simp only [List.set_cons_zero, List.set_cons_succ, List.getElem?_cons_zero, List.getElem?_cons_succ] at r0 r1
              obtain ⟨fp, q1, q2, q3⟩ := own_flat (α := Fk) o8 rfl (by unfold maxLen; have := few7; omega)
              exact bodyPost_ret (v := .tuple #[.agg #[.int .i64 rm, .slice A7 (rg).length c7], .int .i64 re]) (by simp [results, Try.results31, go_sem, r0, r1]) rfl (by rw [HT.out]; exact ⟨A7, _, c7, fp, rfl, q1, q2, fun x hx => by have := q3 x hx; have := hz9; omega, b8⟩)
          · have v0 := kH.cell 0
            have v1 := kH.cell 1
            have lH := kH.lt
            simp only [List.getElem?_cons_zero, List.getElem?_cons_succ] at v0 v1
            clear KO VI RV S00 HS kH
            by_cases hlt : k < n2
            · have kn : (k : Int) < n2 := by omega
              have HT := Lib.hid (show toldD (smK ⟨v, fs⟩ nn vs vs.length) = (⟨0, []⟩, -1) from if_pos hre)

              go_wp2_with fail
              refine (l8Told_no m7 A7 n7 c7 (-1) _ (by decide)).mono ?_
              rintro e w9 ⟨rfl, d9⟩
              have b9 := b7.trans (d9.mono b7.size)
              obtain ⟨B9, kb9, kr9⟩ := BX.out _ b9
              have x0 := kb9.cell 0
              have x1 := kb9.cell 1
              have f0 := kr9.frozen 0
              have f1 := kr9.frozen 1
              have y0 := kr9.cell 0
              have y1 := kr9.cell 1
              simp only [List.getElem?_cons_zero, List.getElem?_cons_succ] at x0 x1 y0 y1
              go_wp2
              have K2 := (kr9.set 0 (.int .i64 0)).set 1 (.slice none 0 0)
              have b8 := (B9.setCell (p := ⟨w.heap.size + 1, 0, none⟩) (Nat.le_succ _) (.int .i64 0)).setCell (p := ⟨w.heap.size + 1, 1, none⟩) (Nat.le_succ _) (.slice none 0 0)
              generalize (w9.setCell ⟨w.heap.size + 1, 0, none⟩ (.int .i64 0)).setCell ⟨w.heap.size + 1, 1, none⟩ (.slice none 0 0) = w8 at K2 b8 ⊢
              have r0 := K2.cell 0
              have r1 := K2.cell 1
              simp only [List.set_cons_zero, List.set_cons_succ, List.getElem?_cons_zero, List.getElem?_cons_succ] at r0 r1
              exact bodyPost_ret (v := .tuple #[.agg #[.int .i64 0, .slice none 0 0], .int .i64 (-1)]) (by simp [results, Try.results31, go_sem, r0, r1]) rfl (by rw [HT.out]; exact gives_dg_nil b8)
            · obtain rfl : k = n2 := by omega
              have kn : ¬ (k : Int) < k := by omega
              have HT := Lib.hid (show toldD (smK ⟨v, fs⟩ nn vs vs.length) = (⟨0, []⟩, -1) from if_pos hre)

              go_wp2_with fail
              refine (l8Told_no m7 A7 n7 c7 (-1) _ (by decide)).mono ?_
              rintro e w9 ⟨rfl, d9⟩
              have b9 := b7.trans (d9.mono b7.size)
              obtain ⟨B9, kb9, kr9⟩ := BX.out _ b9
              have x0 := kb9.cell 0
              have x1 := kb9.cell 1
              have f0 := kr9.frozen 0
              have f1 := kr9.frozen 1
              have y0 := kr9.cell 0
              have y1 := kr9.cell 1
              simp only [List.getElem?_cons_zero, List.getElem?_cons_succ] at x0 x1 y0 y1
              go_wp2
              have K2 := (kr9.set 0 (.int .i64 0)).set 1 (.slice none 0 0)
              have b8 := (B9.setCell (p := ⟨w.heap.size + 1, 0, none⟩) (Nat.le_succ _) (.int .i64 0)).setCell (p := ⟨w.heap.size + 1, 1, none⟩) (Nat.le_succ _) (.slice none 0 0)
              generalize (w9.setCell ⟨w.heap.size + 1, 0, none⟩ (.int .i64 0)).setCell ⟨w.heap.size + 1, 1, none⟩ (.slice none 0 0) = w8 at K2 b8 ⊢
              have r0 := K2.cell 0
              have r1 := K2.cell 1
              simp only [List.set_cons_zero, List.set_cons_succ, List.getElem?_cons_zero, List.getElem?_cons_succ] at r0 r1
              exact bodyPost_ret (v := .tuple #[.agg #[.int .i64 0, .slice none 0 0], .int .i64 (-1)]) (by simp [results, Try.results31, go_sem, r0, r1]) rfl (by rw [HT.out]; exact gives_dg_nil b8)

noncomputable def dgSome1 (d : Dg) (nn : Int) (vs : List Int) : Dg := (dgSomeB d nn vs).1
noncomputable def dgSome2 (d : Dg) (nn : Int) (vs : List Int) : Int := (dgSomeB d nn vs).2
theorem dgSome_specR (d : Dg) (nn : Int) (vs : List Int) (A : Option Addr) (n c : Nat) (A2 : Option Addr) (n2 c2 : Nat) (w : World) (h1 : Mem.rd w w.heap.size [.slice A n c] d.forks) (h2 : Mem.rd w w.heap.size [.slice A2 n2 c2] vs) :
    Calls Try.prog 31 #[.agg #[.int .i64 d.vars, .slice A n c], .int .i64 nn, .slice A2 n2 c2] w (GivesDgN w (dgSome1 d nn vs) (dgSome2 d nn vs)) := dgSome_spec d nn vs A2 n2 c2 A n c w h1 h2
theorem dgSome_implR (d : Dg) (nn : Int) (vs : List Int) (A : Option Addr) (n c : Nat) (A2 : Option Addr) (n2 c2 : Nat) (w : World) (h1 : Mem.rd w w.heap.size [.slice A n c] d.forks) (h2 : Mem.rd w w.heap.size [.slice A2 n2 c2] vs) :
    Calls Try.prog 33 #[.agg #[.int .i64 d.vars, .slice A n c], .int .i64 nn, .slice A2 n2 c2] w (GivesDgN w (dgSome1 d nn vs) (dgSome2 d nn vs)) := dgSome_impl d nn vs A2 n2 c2 A n c w h1 h2
theorem dgSome1_len (d : Dg) (nn : Int) (vs : List Int) : (dgSome1 d nn vs).forks.length ≤ 1048576 := by
  unfold dgSome1 dgSomeB
  split
  · rename_i h
    simp only [Bool.and_eq_true] at h
    exact toldD_len (fun hx => (smK_ok (dgB_iff.1 h.1.1) h.1.2 (fun j hj => setV_in h.2 j hj) hx).1.few)
  · simp
end Go.Proofs.Ytnpdeliaefjmlaa
