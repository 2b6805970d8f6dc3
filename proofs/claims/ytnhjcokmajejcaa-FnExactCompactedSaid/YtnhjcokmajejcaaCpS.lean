/- Diagrams that are made anew of the forks to which one comes, in the model. -/
import Derived.Test.YtnhjcokmajejcaaDgE
import Derived.Test.YtnhjcokmajejcaaDgH
namespace Go.Proofs.Ytnhjcokmajejcaa
open Go.RowKit
set_option maxRecDepth 100000

/-- The call gives a diagram of its own and a place; of what was there only the row v has changed. -/
def GivesIn (base : Nat) (v : Value) (w : World) (r : Dg × Int) (e : Ending) (w' : World) : Prop :=
  ∃ A c, e = .returned (.tuple #[.agg #[.int .i64 r.1.vars, .slice A r.1.forks.length c], .int .i64 r.2]) ∧ Only (bl v) w w' ∧ w'.ownsRow base 152 3 (.slice A r.1.forks.length c) r.1.forks.length (fl r.1.forks) ∧ ∀ y ∈ bl (.slice A r.1.forks.length c), y ∈ bl v ∨ w.heap.size ≤ y
theorem boxes3 (w : World) (a1 a2 a3 : Array Value) (t1 t2 t3 : TypeId) : Blk (((w.alloc (.cells a1 t1)).alloc (.cells a2 t2)).alloc (.cells a3 t3)) w.heap.size t1 a1.toList ∧ Blk (((w.alloc (.cells a1 t1)).alloc (.cells a2 t2)).alloc (.cells a3 t3)) (w.heap.size + 1) t2 a2.toList ∧ Blk (((w.alloc (.cells a1 t1)).alloc (.cells a2 t2)).alloc (.cells a3 t3)) (w.heap.size + 1 + 1) t3 a3.toList := (three_boxes w a1 a2 a3 t1 t2 t3 _ (Below.refl _ _)).2
theorem only_two {fp : List Nat} {w W : World} (o : Only fp w W) {p q : Addr} (u v : Value) (hp : w.heap.size ≤ p.block) (hq : w.heap.size ≤ q.block) : Only fp w ((W.setCell p u).setCell q v) := only_setD (only_setD o u hp) v hq

set_option maxHeartbeats 8000000 in
theorem l9Into_any (d : Dg) (ok : d.Ok) (Ad : Option Addr) (cd : Nat) (k : Nat) : ∀ (M : Dg) (src : List Int) (A : Option Addr) (c : Nat) (n : Int) (base : Nat) (w : World), w.ownsRow base 152 3 (.slice A M.forks.length c) M.forks.length (fl M.forks) → base ≤ w.heap.size → Mem.rd w base [.slice Ad d.forks.length cd] d.forks → M.Ok → Src d M src → isP d n = true → d.vars - varP d n < k →
    Calls Try.prog 67 #[.agg #[.int .i64 M.vars, .slice A M.forks.length c], .agg #[.int .i64 d.vars, .slice Ad d.forks.length cd], .int .i64 n] w (GivesIn base (.slice A M.forks.length c) w (inF k d M n)) := by
  induction k with
  | zero => intro M src A c n base w _ _ _ _ _ p hk; have := (ok.var p).2; omega
  | succ k ih =>
    intro M src A c n base w ho hb hr mok S p hk
    have few := ok.few
    have pn := isP_iff.1 p
    by_cases h2 : n < 2
    · rw [inF_const h2]
      have HO := Lib.hid (fun W (B : Below w.heap.size w W) => own_below ho B)
      have BX := boxes3 w #[.int .i64 M.vars, .slice A M.forks.length c] #[.int .i64 d.vars, .slice Ad d.forks.length cd] #[.int .i64 0, .slice none 0 0] 62 62 62
      obtain ⟨m, fs⟩ := M
      dsimp only at *
      clear ih ho hr mok S
      go_enter Try.func67, Try.ntmps67
      go_wp2
      have BB := ((below_alloc w (.cells #[.int .i64 m, .slice A fs.length c] 62)).alloc (by simp) (.cells #[.int .i64 d.vars, .slice Ad d.forks.length cd] 62)).alloc (by simp; omega) (.cells #[.int .i64 m, .slice A fs.length c] 62)
      exact bodyPost_ret (v := .tuple #[.agg #[.int .i64 m, .slice A fs.length c], .int .i64 n]) (by simp [results, Try.results67, go_sem]) rfl ⟨A, c, rfl, Only.of_below BB _, HO.out _ BB, fun y hy => .inl hy⟩
    · rw [inF_two h2]
      have IH := Lib.hid ih
      have HO := Lib.hid (fun W (B : Below w.heap.size w W) => own_below ho B)
      have BX := boxes3 w #[.int .i64 M.vars, .slice A M.forks.length c] #[.int .i64 d.vars, .slice Ad d.forks.length cd] #[.int .i64 0, .slice none 0 0] 62 62 62
      have B0 : Below w.heap.size w (((w.alloc (.cells #[.int .i64 M.vars, .slice A M.forks.length c] 62)).alloc (.cells #[.int .i64 d.vars, .slice Ad d.forks.length cd] 62)).alloc (.cells #[.int .i64 0, .slice none 0 0] 62)) := ((below_alloc w _).alloc (by simp) _).alloc (by simp; omega) _
      have HBB := Lib.hid (fun y (q : y ∈ bl (.slice A M.forks.length c)) => (ho.lt y (mem_bl.1 q)).1)
      have NB := Lib.hid (fun y (hy : w.heap.size ≤ y) (q : y ∈ bl (.slice A M.forks.length c)) => show False from by have := (ho.lt y (mem_bl.1 q)).2; omega)
      obtain ⟨j, rfl⟩ : ∃ j : Nat, n = 2 + (j : Int) := ⟨(n - 2).toNat, by omega⟩
      have hj : j < d.forks.length := by omega
      have ef : fkA d (2 + (j : Int)) = el d.forks j := by unfold fkA; rw [show (2 + (j : Int) - 2).toNat = j by omega]
      have w1 : IntKind.i64.wrap (2 + (j : Int) - 2) = (j : Int) := by rw [show 2 + (j : Int) - 2 = j by omega]; exact IntWalk.i64_in _ (by omega)
      have F := ok.fit (n := 2 + (j : Int)) (by omega) pn.2
      have ev : varP d (2 + (j : Int)) = (fkA d (2 + (j : Int))).v := by unfold varP; rw [if_neg h2]
      have lv := F.lv
      have hv := F.hv
      have pl := F.low (d := d) (by omega)
      have ph := F.high (d := d) (by omega)
      have kl : d.vars - varP d (fkA d (2 + (j : Int))).lo < k := by omega
      have kh : d.vars - varP d (fkA d (2 + (j : Int))).hi < k := by omega
      obtain ⟨s1, S1, e1, i1, E1, ok1, z1⟩ := inF_ok ok k M src _ pl kl mok S
      obtain ⟨s2, S2, e2, i2, E2, ok2, z2⟩ := inF_ok ok k _ (src ++ s1) _ ph kh ok1 S1
      obtain ⟨s3, S3, e3, i3, E3, ok3, _, _, FT⟩ := src_put ok ok2 S2 (n := 2 + (j : Int)) (by omega) pn.2 (inS_app i1) i2
      rw [← e2, pm_app i1, ← e1] at S3 e3 E3 ok3 FT
      have L0 := Lib.hid FT.l0
      have H0 := Lib.hid FT.h0
      have X3 : Hid (0 ≤ (adF (inF k d (inF k d M (fkA d (2 + (j : Int))).lo).1 (fkA d (2 + (j : Int))).hi).1 ⟨(fkA d (2 + (j : Int))).v, (inF k d M (fkA d (2 + (j : Int))).lo).2, (inF k d (inF k d M (fkA d (2 + (j : Int))).lo).1 (fkA d (2 + (j : Int))).hi).2⟩).2) := Lib.hid (by rw [e3]; have := pm_lt (.inr i3) (by omega : (0 : Int) ≤ 2 + (j : Int)); omega)
      have HS := Lib.hid S
      have HS1 := Lib.hid S1
      have HOK := Lib.hid mok
      have HOK1 := Lib.hid ok1
      have few2 := ok2.few
      have FA := Lib.hid (fun W (B : Below base w W) => fk_at (Mem.rd_below hr B) hj)
      have HR := Lib.hid (fun W (B : Below base w W) => Mem.rd_below hr B)
      clear S S1 S2 S3 e1 e2 e3 i1 i2 i3 E1 E2 E3 z1 z2 mok ok1 ok2 ok3 F FT ih ho hr lv hv ev
      rw [ef] at pl ph kl kh L0 H0 X3 HS1 HOK1 few2 ⊢
      clear ef
      have PL := Lib.hid pl
      have PH := Lib.hid ph
      have KL := Lib.hid kl
      have KH := Lib.hid kh
      clear pl ph kl kh
      generalize hG : el d.forks j = G at *
      clear hG
      obtain ⟨gv, gl, gh⟩ := G
      dsimp only at *
      have Bb := B0.mono hb
      obtain ⟨ad, rfl, hbl, d0, d1, d2⟩ := FA.out _ Bb
      obtain ⟨k0, k1, k2⟩ := BX
      have C0 := Lib.hid (fun W (B : Below w.heap.size w W) => IH.out M src A c gl base W (HO.out W B) (Nat.le_trans hb B.size) (HR.out W (B.mono hb)) HOK.out HS.out PL.out KL.out)
      have hz : (((w.alloc (.cells #[.int .i64 M.vars, .slice A M.forks.length c] 62)).alloc (.cells #[.int .i64 d.vars, .slice (some ad) d.forks.length cd] 62)).alloc (.cells #[.int .i64 0, .slice none 0 0] 62)).heap.size = w.heap.size + 1 + 1 + 1 := by simp
      have hbl' : (ad.add (j * 3)).block < w.heap.size := by rw [add_block]; omega
      go_enter Try.func67, Try.ntmps67
      go_upto_region 3 with fail
      generalize ((w.alloc (.cells #[.int .i64 M.vars, .slice A M.forks.length c] 62)).alloc (.cells #[.int .i64 d.vars, .slice (some ad) d.forks.length cd] 62)).alloc (.cells #[.int .i64 0, .slice none 0 0] 62) = W3 at *
      have x10 := k1.cell 0
      have x11 := k1.cell 1
      have l1 := k1.lt
      simp only [List.getElem?_cons_zero, List.getElem?_cons_succ] at x10 x11
      have hbl3 : (ad.add (j * 3)).block < W3.heap.size := by omega
      go_upto_region 4 with fail
      have BA := below_alloc W3 (.cells #[.int .i64 gv, .int .i64 gl, .int .i64 gh] 152)
      have kf := ci_blk W3 #[.int .i64 gv, .int .i64 gl, .int .i64 gh] 152
      have k0 := k0.below BA k0.lt
      have k1 := k1.below BA k1.lt
      have k2 := k2.below BA k2.lt
      have B4 := B0.trans (BA.mono B0.size)
      have hz4 : (W3.alloc (.cells #[.int .i64 gv, .int .i64 gl, .int .i64 gh] 152)).heap.size = W3.heap.size + 1 := by simp
      clear x10 x11 l1 hbl3 hbl hbl' d0 d1 d2 BA B0 Bb FA
      generalize W3.alloc (.cells #[.int .i64 gv, .int .i64 gl, .int .i64 gh] 152) = W4 at *
      generalize W3.heap.size = F at *
      subst hz
      have x00 := k0.cell 0
      have x01 := k0.cell 1
      have x10 := k1.cell 0
      have x11 := k1.cell 1
      have q1 := kf.cell 1
      have l0 := k0.lt
      have l1 := k1.lt
      have lf := kf.lt
      simp only [List.getElem?_cons_zero, List.getElem?_cons_succ] at x00 x01 x10 x11 q1
      have K0 := Lib.hid k0
      have K1 := Lib.hid k1
      have K2 := Lib.hid k2
      have KF := Lib.hid kf
      clear k0 k1 k2 kf
      have C0' := Lib.hid (C0.out W4 B4)
      clear C0
      go_wp2_with fail
      refine (C0'.out).mono ?_
      rintro e w9 ⟨A1, c1, rfl, on9, ow9, y9⟩
      have hzz := K2.out.lt
      have k1 := only_blk on9 K1.out (fun q => NB.out _ (by omega) q)
      have k2 := only_blk on9 K2.out (fun q => NB.out _ (by omega) q)
      have kf := only_blk on9 KF.out (fun q => NB.out _ (by omega) q)
      have ON9 := (Only.of_below B4 (bl (.slice A M.forks.length c))).trans on9
      have S9 := on9.size
      clear K0 K1 K2 KF x00 x01 x10 x11 q1 l0 l1 lf C0' on9
      generalize inF k d M gl = R1 at *
      obtain ⟨⟨v1, f1⟩, r1⟩ := R1
      dsimp only at *
      go_upto_region 5 with fail
      have BA := below_alloc w9 (.cells #[.int .i64 v1, .slice A1 f1.length c1] 62)
      have kh := ci_blk w9 #[.int .i64 v1, .slice A1 f1.length c1] 62
      have k1 := k1.below BA k1.lt
      have k2 := k2.below BA k2.lt
      have kf := kf.below BA kf.lt
      have ON10 := ON9.trans (Only.of_below BA _)
      have ow10 := own_below ow9 BA
      have hz10 : (w9.alloc (.cells #[.int .i64 v1, .slice A1 f1.length c1] 62)).heap.size = w9.heap.size + 1 := by simp
      have NB1 : Hid (∀ y, w.heap.size ≤ y → y < W4.heap.size → y ∉ bl (.slice A1 f1.length c1)) := Lib.hid (fun y h1 h2 q => (y9 y q).elim (NB.out y h1) (fun z => by omega))
      have NBh := Lib.hid (fun (q : w9.heap.size ∈ bl (.slice A1 f1.length c1)) => show False from by have := (ow9.lt _ (mem_bl.1 q)).2; omega)
      have Y9 := Lib.hid y9
      clear ow9 BA ON9 y9
      generalize w9.alloc (.cells #[.int .i64 v1, .slice A1 f1.length c1] 62) = W10 at *
      generalize w9.heap.size = h1 at *
      have x10 := k1.cell 0
      have x11 := k1.cell 1
      have j0 := kh.cell 0
      have j1 := kh.cell 1
      have q2 := kf.cell 2
      have l1 := k1.lt
      have lf := kf.lt
      have lh := kh.lt
      simp only [List.getElem?_cons_zero, List.getElem?_cons_succ] at x10 x11 j0 j1 q2
      have C1 := Lib.hid (IH.out ⟨v1, f1⟩ (src ++ s1) A1 c1 gh base W10 ow10 (Nat.le_trans hb ON10.size) (HR.out W10 (ON10.below hb HBB.out)) HOK1.out HS1.out PH.out KH.out)
      dsimp only at C1
      have K2 := Lib.hid k2
      have KF := Lib.hid kf
      have KH1 := Lib.hid kh
      have HON10 := Lib.hid ON10
      clear k1 k2 kf kh ow10 ON10 IH HR HOK1 HS1 PH KH HOK HS PL KL
      go_wp2_with fail
      refine (C1.out).mono ?_
      rintro e w19 ⟨A2, c2, rfl, on19, ow19, y19⟩
      have k2 := only_blk on19 K2.out (NB1.out _ (by omega) (by omega))
      have kf := only_blk on19 KF.out (NB1.out _ (by omega) (by omega))
      have ON19 := only_trans2 HON10.out on19 (fun y hy => (Y9.out y hy).imp id (fun q => by omega))
      have S19 := on19.size
      clear K2 KF KH1 x10 x11 j0 j1 q2 l1 lf lh C1 on19
      generalize inF k d ⟨v1, f1⟩ gh = R2 at *
      obtain ⟨⟨v2, f2⟩, r2⟩ := R2
      dsimp only at *
      go_upto_region 6 with fail
      have BA := below_alloc w19 (.cells #[.int .i64 v2, .slice A2 f2.length c2] 62)
      have kh := ci_blk w19 #[.int .i64 v2, .slice A2 f2.length c2] 62
      have k2 := k2.below BA k2.lt
      have kf := kf.below BA kf.lt
      have ON20 := ON19.trans (Only.of_below BA _)
      have ow20 := own_below ow19 BA
      have hz20 : (w19.alloc (.cells #[.int .i64 v2, .slice A2 f2.length c2] 62)).heap.size = w19.heap.size + 1 := by simp
      have Y19 : Hid (∀ y ∈ bl (.slice A2 f2.length c2), y ∈ bl (.slice A M.forks.length c) ∨ W4.heap.size ≤ y) := Lib.hid (fun y hy => by
        rcases y19 y hy with q | q
        · exact Y9.out y q
        · exact .inr (by omega))
      clear ow19 BA ON19 y19
      generalize w19.alloc (.cells #[.int .i64 v2, .slice A2 f2.length c2] 62) = W20 at *
      generalize w19.heap.size = h2 at *
      have y0 := k2.cell 0
      have y1 := k2.cell 1
      have yf0 := k2.frozen 0
      have yf1 := k2.frozen 1
      have j0 := kh.cell 0
      have j1 := kh.cell 1
      have q0 := kf.cell 0
      have lf := kf.lt
      have lh := kh.lt
      simp only [List.getElem?_cons_zero, List.getElem?_cons_succ] at j0 j1 q0 y0 y1
      have LA := Lib.hid (l8Add_any ⟨v2, f2⟩ A2 c2 ⟨gv, r1, r2⟩ base W20 ow20 (Nat.le_trans hb ON20.size) few2 L0.out H0.out)
      dsimp only at LA
      have K2 := Lib.hid k2
      have HON20 := Lib.hid ON20
      clear k2 kf kh ow20 ON20 L0 H0
      generalize adF ⟨v2, f2⟩ ⟨gv, r1, r2⟩ = R3 at *
      obtain ⟨⟨v3, f3⟩, r3⟩ := R3
      dsimp only at *
      go_wp2_with fail
      refine LA.out.mono ?_
      rintro e w7 hG
      obtain ⟨m3, A3, n3, c3, x3, rfl, on7, kd7, on1⟩ := gives_de_one rfl hG
      rcases on1 with ⟨_, hr⟩ | ⟨_, ex, em, en, ho3, hy3⟩
      · exact absurd X3.out (by dsimp only at hr; omega)
      · dsimp only at ex em en ho3
        subst ex
        subst em
        subst en
        clear hG kd7 LA j0 j1 q0 lf lh y0 y1 yf0 yf1
        have k2 := only_blk on7 K2.out (fun q => (Y19.out _ q).elim (NB.out _ (by omega)) (fun z => by omega))
        have ON7 := only_trans2 HON20.out on7 (fun y hy => (Y19.out y hy).imp id (fun q => by omega))
        have Y7 : Hid (∀ y ∈ bl (.slice A3 f3.length c3), y ∈ bl (.slice A M.forks.length c) ∨ W4.heap.size ≤ y) := Lib.hid (fun y hy => by
          rcases hy3 y hy with q | q
          · exact Y19.out y q
          · exact .inr (by have := HON20.out.size; omega))
        have y0 := k2.cell 0
        have y1 := k2.cell 1
        have yf0 := k2.frozen 0
        have yf1 := k2.frozen 1
        simp only [List.getElem?_cons_zero, List.getElem?_cons_succ] at y0 y1
        have KR := Lib.hid k2
        have HO3 := Lib.hid ho3
        have NR : Hid ((Value.slice A3 f3.length c3).ownBlock ≠ some (w.heap.size + 1 + 1)) := Lib.hid (fun e => (Y7.out _ (mem_bl.2 e)).elim (NB.out _ (by omega)) (fun z => by omega))
        clear k2 ho3 on7 hy3 K2
        go_wp2
        have KE := (KR.out.set 0 (.int .i64 m3)).set 1 (.slice A3 f3.length c3)
        have q8 := only_two ON7 (p := ⟨w.heap.size + 1 + 1, 0, none⟩) (q := ⟨w.heap.size + 1 + 1, 1, none⟩) (.int .i64 m3) (.slice A3 f3.length c3) (by show w.heap.size ≤ w.heap.size + 1 + 1; omega) (by show w.heap.size ≤ w.heap.size + 1 + 1; omega)
        have o8 := own_away (own_away HO3.out (p := ⟨w.heap.size + 1 + 1, 0, none⟩) (.int .i64 m3) NR.out) (p := ⟨w.heap.size + 1 + 1, 1, none⟩) (.slice A3 f3.length c3) NR.out
        generalize (w7.setCell ⟨w.heap.size + 1 + 1, 0, none⟩ (.int .i64 m3)).setCell ⟨w.heap.size + 1 + 1, 1, none⟩ (.slice A3 f3.length c3) = w8 at KE q8 o8 ⊢
        have e0 := KE.cell 0
        have e1 := KE.cell 1
        simp only [List.set_cons_zero, List.set_cons_succ, List.getElem?_cons_zero, List.getElem?_cons_succ] at e0 e1
        exact bodyPost_ret (v := .tuple #[.agg #[.int .i64 m3, .slice A3 f3.length c3], .int .i64 x3]) (by simp [results, Try.results67, go_sem, e0, e1]) rfl ⟨A3, c3, rfl, q8, o8, fun y hy => (Y7.out y hy).imp id (fun z => by omega)⟩
end Go.Proofs.Ytnhjcokmajejcaa
