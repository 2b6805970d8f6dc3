/- Diagrams that are made anew of the forks to which one comes, in the program. -/
import Derived.Test.YtnhjcokmajejcaaDgE
import Derived.Test.YtnhjcokmajejcaaDgU
import Derived.Deep.CutRange
namespace Go.Proofs.Ytnhjcokmajejcaa
open Go.RowKit
set_option maxRecDepth 100000

/-- What became of each place: 0 where nothing did yet. -/
def becF (d : Dg) (src : List Int) : List Int := (List.range (2 + d.forks.length)).map fun (y : Nat) => if (y : Int) ∈ src then pm src y else 0
theorem becF_len (d : Dg) (src : List Int) : (becF d src).length = 2 + d.forks.length := by simp [becF]
theorem becF_at (d : Dg) (src : List Int) {i : Nat} (hi : i < (becF d src).length) : (becF d src)[i] = if (i : Int) ∈ src then pm src i else 0 := by simp [becF]
theorem becF_nil (d : Dg) : becF d [] = List.replicate (2 + d.forks.length) 0 := by
  refine List.ext_getElem (by simp [becF]) fun i h1 h2 => ?_
  simp [becF]
theorem becF_set {d : Dg} {src l : List Int} {j : Nat} (_hj : j < 2 + d.forks.length) (h1 : (j : Int) ∈ src → l = []) (h2 : (j : Int) ∉ src → l = [(j : Int)]) : (becF d src).set j (pm (src ++ l) j) = becF d (src ++ l) := by
  refine List.ext_getElem (by rw [List.length_set, becF_len, becF_len]) fun i hi1 hi2 => ?_
  rw [List.getElem_set]
  by_cases e : j = i
  · subst e
    rw [if_pos rfl, becF_at, if_pos]
    by_cases q : (j : Int) ∈ src
    · exact List.mem_append_left _ q
    · rw [h2 q]; simp
  · rw [if_neg e, becF_at, becF_at]
    by_cases q : (i : Int) ∈ src
    · rw [if_pos q, if_pos (List.mem_append_left _ q), pm_app (.inr q)]
    · rw [if_neg q, if_neg]
      intro hm
      rcases List.mem_append.1 hm with hm | hm
      · exact q hm
      · by_cases z : (j : Int) ∈ src
        · rw [h1 z] at hm; cases hm
        · rw [h2 z, List.mem_singleton] at hm; omega
/-- Of what was there, only the maker's own and block bb have changed. -/
structure Frame2 (g bb : Nat) (w w' : World) : Prop where
  size : w.heap.size ≤ w'.heap.size
  keep : ∀ b, b < w.heap.size → b ≠ bb → ¬ mine w g b → w'.heap[b]? = w.heap[b]? ∧ ¬ mine w' g b
  bn : ¬ mine w g bb → ¬ mine w' g bb
theorem Frame2.of {g bb : Nat} {w w' : World} (h : Frame g w w') (hb : bb < w.heap.size) : Frame2 g bb w w' := ⟨h.size, fun b hb _ hn => h.keep b hb hn, fun hn => (h.keep bb hb hn).2⟩
theorem Frame2.trans {g bb : Nat} {w w1 w2 : World} (h : Frame2 g bb w w1) (k : Frame2 g bb w1 w2) : Frame2 g bb w w2 :=
  ⟨Nat.le_trans h.size k.size, fun b hb hne hn => by
    obtain ⟨e1, n1⟩ := h.keep b hb hne hn
    obtain ⟨e2, n2⟩ := k.keep b (Nat.lt_of_lt_of_le hb h.size) hne n1
    exact ⟨e2.trans e1, n2⟩, fun hn => k.bn (h.bn hn)⟩
theorem Frame2.blk {g bb : Nat} {w w' : World} (h : Frame2 g bb w w') {b : Nat} {t : TypeId} {cs : List Value} (k : Blk w b t cs) (hne : b ≠ bb) (hn : ¬ mine w g b) : Blk w' b t cs := (h.keep b k.lt hne hn).1.trans k
theorem frame2_set {g bb : Nat} (w : World) (i : Nat) (u : Value) (hg : g ≠ bb) : Frame2 g bb w (w.setCell ⟨bb, i, none⟩ u) :=
  have e : (w.setCell ⟨bb, i, none⟩ u).heap[g]? = w.heap[g]? := setCell_heap _ _ _ (show g ≠ bb from hg)
  ⟨by rw [World.size_setCell]; exact Nat.le_refl _, fun b _ hne hn => ⟨setCell_heap _ _ _ (show b ≠ bb from hne), fun q => hn ((mine_heap e).1 q)⟩, fun hn q => hn ((mine_heap e).1 q)⟩
theorem mkD_set {w : World} {base g : Nat} {d : Dg} {full : Bool} {m : Nat} (h : MkD w base g d full m) {p : Addr} (u : Value) (hn : ¬ mine w g p.block) : MkD (w.setCell p u) base g d full m := by
  obtain ⟨A, cc, bp, cp, Dp, br, cr, Dr, kg, ho, hp, c1, f1, hr, c2, f2, r⟩ := h.mem
  have q := fun z => hn ((mine_iff kg).2 z)
  have hg : w.grownBy (w.setCell p u) (some p.block) := ⟨rfl, rfl, rfl, by simp [World.setCell], fun k _ hk => Below.heap_setCell w p u k (fun e => hk (by rw [e]))⟩
  refine ⟨h.ok, h.full_, A, cc, bp, cp, Dp, br, cr, Dr, (setCell_heap _ _ _ (fun e => q (.inl e.symm))).trans kg, own_away ho u (fun e => q (.inr (.inr (.inr e)))), mp_on hg hp rfl (fun e => q (.inr (.inl (by injection e)))), c1, f1, mp_on hg hr rfl (fun e => q (.inr (.inr (.inl (by injection e))))), c2, f2, r⟩
theorem mine_g (w : World) (g : Nat) : mine w g g := .inl rfl
/-- The call takes a place over. -/
def GivesTk (base g bb : Nat) (d M : Dg) (src : List Int) (n : Int) (m k : Nat) (w : World) (e : Ending) (w' : World) : Prop :=
  ∃ l, e = .returned (.int .i64 (inF k d M n).2) ∧ MkD w' base g (inF k d M n).1 false m ∧ Blk w' bb 3 (ints (becF d (src ++ l))) ∧ Below base w w' ∧ Src d (inF k d M n).1 (src ++ l) ∧ inS (src ++ l) n ∧ (inF k d M n).2 = pm (src ++ l) n ∧ Frame2 g bb w w'

set_option maxHeartbeats 8000000 in
theorem taken_any (d : Dg) (ok : d.Ok) (Ad : Option Addr) (cd : Nat) (k : Nat) : ∀ (M : Dg) (src : List Int) (n : Int) (m base g bb : Nat) (w : World), MkD w base g M false m → base ≤ w.heap.size → Blk w bb 3 (ints (becF d src)) → base ≤ bb → ¬ mine w g bb → Mem.rd w base [.slice Ad d.forks.length cd] d.forks → Src d M src → isP d n = true → d.vars - varP d n < k →
    Calls Try.prog 104 #[.pointer (some ⟨g, 0, none⟩), .agg #[.int .i64 d.vars, .slice Ad d.forks.length cd], .int .i64 n, .slice (some ⟨bb, 0, none⟩) (2 + d.forks.length) (2 + d.forks.length)] w (GivesTk base g bb d M src n m k w) := by
  induction k with
  | zero => intro M src n m base g bb w _ _ _ _ _ _ _ p hk; have := (ok.var p).2; omega
  | succ k ih =>
    intro M src n m base g bb w hM hb hB hbb hnb hr S p hk
    have few := ok.few
    have pn := isP_iff.1 p
    have IH := Lib.hid ih
    clear ih
    obtain ⟨l, SS, es, is_, EE, okk, zz⟩ := inF_ok ok (k + 1) M src n p hk hM.ok S
    obtain ⟨j, rfl⟩ : ∃ j : Nat, n = (j : Int) := ⟨n.toNat, by omega⟩
    have hj : j < 2 + d.forks.length := by omega
    have BD := below_alloc w (.cells #[.int .i64 d.vars, .slice Ad d.forks.length cd] 62)
    have lgM := (mkD_lt hM).1
    by_cases h2 : (j : Int) < 2
    · obtain ⟨rfl, eM⟩ := zz (.inl h2)
      rw [List.append_nil] at SS es
      have HM := Lib.hid (mkD_below hM BD)
      have HB := Lib.hid (hB.below BD hB.lt)
      have FR := Lib.hid (Frame2.of (Frame.of_below BD lgM) hB.lt)
      have E2 : Hid ((inF (k + 1) d M j).2 = j) := Lib.hid (by rw [inF_const h2])
      have P2 : Hid (pm src j = j) := Lib.hid (if_pos h2)
      have HS := Lib.hid SS
      have HEM := Lib.hid eM
      clear hM hB SS es EE okk zz S hr
      go_enter Try.func104, Try.ntmps104
      go_wp2
      go_ret
      exact ⟨[], by rw [E2.out]; rfl, by rw [HEM.out]; exact HM.out, by rw [List.append_nil]; exact HB.out, BD.mono hb, by rw [List.append_nil]; exact HS.out, .inl h2, by rw [List.append_nil, E2.out, P2.out], FR.out⟩
    · have hjl : j < (becF d src).length := by rw [becF_len]; exact hj
      have zc : w.cell? ⟨bb, j, none⟩ = some (.int .i64 (becF d src)[j]) := by
        rw [hB.cell j]
        unfold ints
        rw [List.getElem?_map, List.getElem?_eq_getElem hjl]; rfl
      rw [becF_at] at zc
      have lb := hB.lt
      have lbb : bb < (w.alloc (.cells #[.int .i64 d.vars, .slice Ad d.forks.length cd] 62)).heap.size := by simp; omega
      by_cases hm : (j : Int) ∈ src
      · obtain ⟨rfl, eM⟩ := zz (.inr hm)
        rw [List.append_nil] at SS es is_
        rw [if_pos hm] at zc
        have zc' := cell_below BD (p := ⟨bb, j, none⟩) lb zc
        have pge : (pm src j == 0) = false := by
          unfold pm
          rw [if_neg h2]
          simp; omega
        have HM := Lib.hid (mkD_below hM BD)
        have HB := Lib.hid (hB.below BD hB.lt)
        have FR := Lib.hid (Frame2.of (Frame.of_below BD lgM) hB.lt)
        have E2 := Lib.hid es
        have HS := Lib.hid SS
        have HEM := Lib.hid eM
        have HIS := Lib.hid is_
        clear hM hB SS es EE okk zz S hr is_ eM
        generalize hP : pm src j = P at *
        go_enter Try.func104, Try.ntmps104
        go_wp2
        go_ret
        exact ⟨[], by rw [E2.out]; rfl, by rw [HEM.out]; exact HM.out, by rw [List.append_nil]; exact HB.out, BD.mono hb, by rw [List.append_nil]; exact HS.out, by rw [List.append_nil]; exact HIS.out, by rw [List.append_nil, E2.out, hP], FR.out⟩
      · rw [if_neg hm] at zc
        have F := ok.fit (n := (j : Int)) (by omega) pn.2
        have ev : varP d j = (fkA d j).v := if_neg h2
        have lv := F.lv
        have hv := F.hv
        have pl := F.low (d := d) (by omega)
        have ph := F.high (d := d) (by omega)
        have kl : d.vars - varP d (fkA d j).lo < k := by omega
        have kh : d.vars - varP d (fkA d j).hi < k := by omega
        have E2 := Lib.hid (inF_two (k := k) (d := d) (M := M) h2)
        have SP := Lib.hid (fun (M2 : Dg) (src2 : List Int) (mok : M2.Ok) (S2 : Src d M2 src2) hl hh => src_put ok mok S2 (n := (j : Int)) (by omega) pn.2 hl hh)
        have BS := Lib.hid (fun (src2 l : List Int) => becF_set (d := d) (src := src2) (l := l) hj)
        have FK := Lib.hid (fun (W : World) (rd1 : Mem.rd W W.heap.size [.slice Ad d.forks.length cd] d.forks) => fork_any d Ad d.forks.length cd j W rd1 (by omega) (by omega) pn.2)
        have kd := ci_blk w #[.int .i64 d.vars, .slice Ad d.forks.length cd] 62
        have x0 := kd.cell 0
        have x1 := kd.cell 1
        have ld := kd.lt
        simp only [List.getElem?_cons_zero, List.getElem?_cons_succ] at x0 x1
        have zc := cell_below BD (p := ⟨bb, j, none⟩) lb zc
        have hM1 := mkD_below hM BD
        have hB1 := hB.below BD hB.lt
        have nd1 : ¬ mine (w.alloc (.cells #[.int .i64 d.vars, .slice Ad d.forks.length cd] 62)) g w.heap.size := fun q => by
          have := mine_lt hM ((mine_heap (BD.block g lgM)).1 q)
          omega
        have nb1 : ¬ mine (w.alloc (.cells #[.int .i64 d.vars, .slice Ad d.forks.length cd] 62)) g bb := fun q => hnb ((mine_heap (BD.block g lgM)).1 q)
        have fr1 := Frame2.of (bb := bb) (Frame.of_below BD lgM) lb
        have gne : g ≠ bb := fun e => hnb (by rw [← e]; exact mine_g w g)
        have hr1 := Mem.rd_below hr (BD.mono hb)
        have few0 := few
        have pv0 := F.v0
        have pv1 := F.v1
        have hi12 := ok.hi
        have L00 := F.l0
        have H00 := F.h0
        have PL := Lib.hid pl
        have PH := Lib.hid ph
        have KL := Lib.hid kl
        have KH := Lib.hid kh
        have HS := Lib.hid S
        have HBD := Lib.hid BD
        have LG1 := (mkD_lt hM1).1
        have BJ : Hid (∀ src', (ints (becF d src'))[j]? = some (.int .i64 ((becF d src')[j]?.getD 0))) := Lib.hid (fun src' => by
          have hjl : j < (becF d src').length := by rw [becF_len]; exact hj
          unfold ints
          rw [List.getElem?_map, List.getElem?_eq_getElem hjl]; rfl)
        clear hM hB SS es EE okk zz S hr is_ pl ph kl kh F lv hv ev hk p
        generalize hG : fkA d j = G at *
        clear hG
        obtain ⟨gv, gl, gh⟩ := G
        dsimp only [Fk.u] at *
        go_enter Try.func104, Try.ntmps104
        go_upto_region 4 with fail
        have rdW := Mem.rd_more hr1 (Nat.le_trans hb (Nat.le_trans (by simp) (Nat.le_refl (w.alloc (.cells #[.int .i64 d.vars, .slice Ad d.forks.length cd] 62)).heap.size)))
        have FKW := Lib.hid (FK.out _ rdW)
        generalize hW1 : w.alloc (.cells #[.int .i64 d.vars, .slice Ad d.forks.length cd] 62) = W1 at *
        clear zc rdW FK
        go_wp2_with fail
        refine (FKW.out).mono ?_
        rintro e w2 ⟨rfl, b2⟩
        have B2 := b2.alloc b2.size (.cells #[.int .i64 gv, .int .i64 gl, .int .i64 gh] 152)
        have kf2 := ci_blk w2 #[.int .i64 gv, .int .i64 gl, .int .i64 gh] 152
        have hM2 := mkD_below hM1 B2
        have hB2 := hB1.below B2 hB1.lt
        have kd2 := kd.below B2 kd.lt
        have nf2 : ¬ mine (w2.alloc (.cells #[.int .i64 gv, .int .i64 gl, .int .i64 gh] 152)) g w2.heap.size := fun q => by
          have := mine_lt hM1 ((mine_heap (B2.block g LG1)).1 q)
          have := b2.size
          omega
        have nd2 : ¬ mine (w2.alloc (.cells #[.int .i64 gv, .int .i64 gl, .int .i64 gh] 152)) g w.heap.size := fun q => nd1 ((mine_heap (B2.block g LG1)).1 q)
        have nb2 : ¬ mine (w2.alloc (.cells #[.int .i64 gv, .int .i64 gl, .int .i64 gh] 152)) g bb := fun q => nb1 ((mine_heap (B2.block g LG1)).1 q)
        have fr2 := Lib.hid (fr1.trans (Frame2.of (bb := bb) (Frame.of_below B2 LG1) hB1.lt))
        have bw2 := HBD.out.trans (B2.mono HBD.out.size)
        have hr2 := Mem.rd_below hr1 (B2.mono (Nat.le_trans hb HBD.out.size))
        have dne : w.heap.size ≠ bb := by omega
        have fne : w2.heap.size ≠ bb := by have := b2.size; have := hB1.lt; omega
        have C0 := Lib.hid (IH.out M src gl m base g bb _ hM2 (Nat.le_trans hb bw2.size) hB2 hbb nb2 hr2 HS.out PL.out KL.out)
        have HB2 := Lib.hid (bw2.mono hb)
        have x0 := kd2.cell 0
        have x1 := kd2.cell 1
        have ld := kd2.lt
        have y1 := kf2.cell 1
        have lf := kf2.lt
        simp only [List.getElem?_cons_zero, List.getElem?_cons_succ] at x0 x1 y1
        have hsz2 := bw2.size
        clear hM2 hM1 hB1 hB2 kd FKW nd1 nb1 fr1 hr1 B2 bw2 hW1
        go_upto_region 5 with fail
        generalize w2.alloc (.cells #[.int .i64 gv, .int .i64 gl, .int .i64 gh] 152) = W2 at *
        generalize w2.heap.size = f at *
        go_wp2_with fail
        refine (C0.out).mono ?_
        rintro e w3 ⟨l1, rfl, hM3, hB3, b3, S3, i3, e3, fr3⟩
        have kd3 := fr3.blk kd2 dne nd2
        have kf3 := fr3.blk kf2 fne nf2
        have nd3 := (fr3.keep _ kd2.lt dne nd2).2
        have nf3 := (fr3.keep _ kf2.lt fne nf2).2
        have nb3 := fr3.bn nb2
        have F3 := Lib.hid (fr2.out.trans fr3)
        have B3 := Lib.hid (HB2.out.trans b3)
        have hr3 := Mem.rd_below hr2 b3
        have sz3 := fr3.size
        generalize inF k d M gl = R1 at *
        obtain ⟨M1, r1⟩ := R1
        dsimp only at *
        have C1 := Lib.hid (IH.out M1 (src ++ l1) gh m base g bb w3 hM3 (Nat.le_trans hb (by omega)) hB3 hbb nb3 hr3 S3 PH.out KH.out)
        have x0 := kd3.cell 0
        have x1 := kd3.cell 1
        have ld := kd3.lt
        have y2 := kf3.cell 2
        have lf := kf3.lt
        simp only [List.getElem?_cons_zero, List.getElem?_cons_succ] at x0 x1 y2
        clear hM3 hB3 b3 fr3 kd2 kf2 nd2 nf2 nb2 C0 fr2 hr2
        go_upto_region 6 with fail
        go_wp2_with fail
        refine (C1.out).mono ?_
        rintro e w6 ⟨l2, rfl, hM6, hB6, b6, S6, i6, e6, fr6⟩
        have kf6 := fr6.blk kf3 fne nf3
        have nb6 := fr6.bn nb3
        have F6 := Lib.hid (F3.out.trans fr6)
        have B6 := Lib.hid (B3.out.trans b6)
        have sz6 := fr6.size
        generalize inF k d M1 gh = R2 at *
        obtain ⟨M2, r2⟩ := R2
        dsimp only at *
        obtain ⟨l3, S7, e7, i7, E7, ok7, z7, n7, ft7⟩ := SP.out M2 (src ++ l1 ++ l2) hM6.ok S6 (inS_app i3) i6
        rw [← e6, pm_app i3, ← e3] at S7 e7 E7 ok7 ft7
        have NN := Lib.hid (show 0 ≤ (adF M2 ⟨gv, r1, r2⟩).2 by rw [e7]; have := pm_lt (.inr i7) (show (0 : Int) ≤ j by omega); omega)
        have SM : sml gv ∧ sml r1 ∧ sml r2 := by
          have q1 : r1 ≤ M2.forks.length + 1 := ft7.l1
          have q2 : r2 ≤ M2.forks.length + 1 := ft7.h1
          have q3 : 0 ≤ r1 := ft7.l0
          have q4 : 0 ≤ r2 := ft7.h0
          have q5 : M2.forks.length ≤ 2000 := hM6.ok.few
          exact ⟨⟨pv0, by omega⟩, ⟨q3, by omega⟩, ⟨q4, by omega⟩⟩
        have AD := Lib.hid (addD_any M2 ⟨gv, r1, r2⟩ false m base g w6 hM6 (Nat.le_trans hb (by omega)) (fun _ => ft7) (ft7.low (Int.le_refl _)) SM.1 SM.2.1 SM.2.2)
        have y0 := kf6.cell 0
        have lf := kf6.lt
        have lb6 := hB6.lt
        simp only [List.getElem?_cons_zero] at y0
        have HB6 := Lib.hid hB6
        have HE7 := Lib.hid e7
        have HS7 := Lib.hid S7
        have HI7 := Lib.hid i7
        have HZ7 := Lib.hid (BS.out (src ++ l1 ++ l2) l3 (fun q => (z7 q).1) n7)
        clear e3 e6 hM6 hB6 b6 fr6 kd3 kf3 nd3 nf3 nb3 C1 hr3 e7 S7 i7 z7 n7 ft7 E7 ok7
        generalize hA : adF M2 ⟨gv, r1, r2⟩ = R3 at *
        obtain ⟨M3, r3⟩ := R3
        dsimp only [Fk.u] at *
        go_wp2_with fail
        refine (AD.out).mono ?_
        rintro e w10 ⟨x10, d10, full10, rfl, hM10, b10, P10, fr10⟩
        cases full10 with
        | true => exact absurd (P10.no rfl) (by rintro (q | q); cases q; rw [hA] at q; have := NN.out; dsimp only at q; omega)
        | false =>
          have hQ := (P10.new rfl).2
          rw [hA] at hQ
          have hQ1 : M3 = d10 := congrArg Prod.fst hQ
          have hQ2 : r3 = x10 := congrArg Prod.snd hQ
          subst hQ1
          subst hQ2
          have nb10 := (fr10.keep bb HB6.out.lt nb6).2
          have kb10 : Blk w10 bb 3 (ints (becF d (src ++ l1 ++ l2))) := (fr10.keep bb HB6.out.lt nb6).1.trans HB6.out
          have zb := kb10.cell j
          rw [BJ.out] at zb
          have zf := kb10.frozen j
          have lb10 := kb10.lt
          have hM11 := Lib.hid (mkD_set hM10 (p := ⟨bb, j, none⟩) (.int .i64 r3) nb10)
          have kb11 := kb10.set j (.int .i64 r3)
          have F11 := Lib.hid ((F6.out.trans (Frame2.of fr10 HB6.out.lt)).trans (frame2_set (bb := bb) w10 j (.int .i64 r3) gne))
          have B11 := Lib.hid ((B6.out.trans b10).setCell (p := ⟨bb, j, none⟩) hbb (.int .i64 r3))
          have eC : (ints (becF d (src ++ l1 ++ l2))).set j (.int .i64 r3) = ints (becF d (src ++ l1 ++ l2 ++ l3)) := by
            rw [← HZ7.out]
            rw [← HE7.out]
            unfold ints
            rw [List.map_set]
          have zr := kb11.cell j
          rw [eC] at kb11
          have KB11 := Lib.hid kb11
          rw [List.getElem?_set_self (by rw [len_ints, becF_len]; exact hj)] at zr
          have lb11 := kb11.lt
          clear hM10 kb10 b10 P10 fr10 hQ eC kb11 AD
          go_upto_region 8 with fail
          generalize w10.setCell ⟨bb, j, none⟩ (.int .i64 r3) = w11 at *
          go_wp2
          go_ret
          have assoc : src ++ l1 ++ l2 ++ l3 = src ++ (l1 ++ (l2 ++ l3)) := by simp [List.append_assoc]
          rw [assoc] at KB11 HS7 HE7 HI7
          exact ⟨l1 ++ (l2 ++ l3), by rw [E2.out]; dsimp only; rfl, by rw [E2.out]; dsimp only; exact hM11.out, KB11.out, B11.out, by rw [E2.out]; dsimp only; exact HS7.out, .inr HI7.out, by rw [E2.out]; dsimp only; exact HE7.out, F11.out⟩
end Go.Proofs.Ytnhjcokmajejcaa
