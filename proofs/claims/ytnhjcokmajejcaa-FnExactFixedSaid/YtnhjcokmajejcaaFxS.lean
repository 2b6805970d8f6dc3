/- Fixed, in the model. -/
import Derived.Test.YtnhjcokmajejcaaFxN
namespace Go.Proofs.Ytnhjcokmajejcaa
open Go.RowKit
set_option maxRecDepth 100000

/-- The circuit that is made, in its box, and what the nodes became. -/
def FxW (w : World) (q : Nat) (v : Value) (n : Nat) (r : Ci × List Int) : Prop :=
  ∃ Ak ck, Blk w q 49 [.int .i64 r.1.ins, .slice Ak r.1.gates.length ck] ∧ w.ownsRow (q + 1) 90 2 (.slice Ak r.1.gates.length ck) r.1.gates.length (fl r.1.gates) ∧ IL w (q + 1) 3 v n r.2 (bl v) ∧ ∀ x ∈ bl v, x ∉ bl (.slice Ak r.1.gates.length ck)
theorem fxOk_yes {s : Ci} {edge inp val : Int} (h : fxOk s edge inp val = true) : ckB s = true ∧ isE s edge = true ∧ (0 ≤ inp ∧ inp < s.ins) ∧ (val = 0 ∨ val = 1) := by
  unfold fxOk at h
  simpa [and_assoc] using h

set_option maxRecDepth 100000 in
set_option maxHeartbeats 16000000 in
theorem fixed_spec_yes (s : Ci) (edge inp val : Int) (A : Option Addr) (n c : Nat) (w : World) (h1 : Mem.rd w w.heap.size [.slice A n c] s.gates) (hy : fxOk s edge inp val = true) :
    Calls Try.prog 19 #[.agg #[.int .i64 s.ins, .slice A n c], .int .i64 edge, .int .i64 inp, .int .i64 val] w (GivesCiN w (fxTo s inp val s.gates.length).1 (atE (fxTo s inp val s.gates.length).2 edge)) := by
  obtain rfl : s.gates.length = n := rd_len h1
  have BX := Lib.hid (two_boxes w #[.int .i64 s.ins, .slice A s.gates.length c] #[.int .i64 0, .slice none 0 0] 49 49)
  have B0 : Below w.heap.size w ((w.alloc (.cells #[.int .i64 s.ins, .slice A s.gates.length c] 49)).alloc (.cells #[.int .i64 0, .slice none 0 0] 49)) := (below_alloc w _).alloc (by simp) _
  obtain ⟨k1, q0, ⟨i0, i1⟩, hv⟩ := fxOk_yes hy
  have ok := ckB_iff.1 k1
  have CK := Lib.hid (fun W (B : Below w.heap.size w W) => ckValid_spec s A s.gates.length c W (Mem.rd_on h1 B))
  have L0 := Lib.hid (fun W => l7Edge_any s A c edge W ok.lo ok.hi ok.few)
  rw [k1] at CK
  rw [q0] at L0
  have INV := Lib.hid (fun k (hk : k ≤ s.gates.length) => fx_inv (val := val) ok i0 i1 hv hk)
  have GT := Lib.hid ok.gate
  have HQ := Lib.hid (isE_iff.1 q0)
  have lo := ok.lo
  have hi := ok.hi
  have few := ok.few
  have hvr : 0 ≤ val ∧ val ≤ 1 := by omega
  have F0 : Hid ((fxTo s inp val 0) = (⟨s.ins, []⟩, fx0 inp val (1 + s.ins).toNat)) := Lib.hid rfl
  have H1 := Lib.hid (fun W (B : Below w.heap.size w W) => Mem.rd_below h1 B)
  have FX : Hid (∀ k, fxTo s inp val (k + 1) = ((andB (fxTo s inp val k).1 (atE (fxTo s inp val k).2 (el s.gates k).a) (atE (fxTo s inp val k).2 (el s.gates k).b)).1, (fxTo s inp val k).2 ++ [(andB (fxTo s inp val k).1 (atE (fxTo s inp val k).2 (el s.gates k).a) (atE (fxTo s inp val k).2 (el s.gates k).b)).2])) := Lib.hid (fun k => rfl)
  obtain ⟨T, hT⟩ : ∃ T, T = fxTo s inp val := ⟨_, rfl⟩
  rw [← hT] at F0 INV FX ⊢
  obtain ⟨m, gs⟩ := s
  dsimp only at *
  obtain ⟨N, rfl⟩ : ∃ N : Nat, m = N := ⟨m.toNat, by omega⟩
  have hNt : (1 + (N : Int)).toNat = 1 + N := by omega
  rw [hNt] at F0
  clear hT hy k1 q0 ok hNt h1
  have LI := Lib.hid (fun W => l1In_yes (n := inp) (lo := 0) (hi := (N : Int) - 1) (by omega) W)
  have LV := Lib.hid (fun W => l1In_yes (n := val) (lo := 0) (hi := 1) (by omega) W)
  go_enter Try.func19, Try.ntmps19
  go_wp2_with fail
  refine (CK.out _ B0).mono ?_
  rintro e w1 ⟨rfl, b1⟩
  obtain ⟨B1, kb1, kr1⟩ := BX.out _ b1
  have x0 := kb1.cell 0
  have x1 := kb1.cell 1
  have f0 := kr1.frozen 0
  have f1 := kr1.frozen 1
  have y0 := kr1.cell 0
  have y1 := kr1.cell 1
  simp only [List.getElem?_cons_zero, List.getElem?_cons_succ] at x0 x1 y0 y1
  go_wp2_with fail
  refine (L0.out _).mono ?_
  rintro e w2 ⟨rfl, c2⟩
  have b2 := b1.trans (c2.mono b1.size)
  obtain ⟨B2, kb2, kr2⟩ := BX.out _ b2
  have x0 := kb2.cell 0
  have x1 := kb2.cell 1
  have f0 := kr2.frozen 0
  have f1 := kr2.frozen 1
  have y0 := kr2.cell 0
  have y1 := kr2.cell 1
  simp only [List.getElem?_cons_zero, List.getElem?_cons_succ] at x0 x1 y0 y1
  have wm : IntKind.i64.wrap ((N : Int) - 1) = (N : Int) - 1 := IntWalk.i64_in _ (by omega)
  go_wp2_with fail
  refine (LI.out _).mono ?_
  rintro e w3 ⟨rfl, rfl⟩
  go_wp2_with fail
  refine (LV.out _).mono ?_
  rintro e w3 ⟨rfl, rfl⟩
  go_wp2
  have hown0 := World.ownsRow_lit (base := w2.heap.size + 1) (e := 3) (size := 1) (w2.alloc (.cells #[.int .i64 N, .slice none 0 0] 49)) #[.int .i64 0] 1 (by simp) (by unfold maxLen; omega) rfl
  have KB := Lib.hid (fun W (hW : Below w2.heap.size w2 W) => (⟨B2.trans (hW.mono B2.size), kb2.below hW kb2.lt, kr2.below hW kr2.lt⟩ : Below w.heap.size w W ∧ Blk W w.heap.size 49 [.int .i64 N, .slice A gs.length c] ∧ Blk W (w.heap.size + 1) 49 [.int .i64 0, .slice none 0 0]))
  have KQ : Hid (Blk (w2.alloc (.cells #[.int .i64 N, .slice none 0 0] 49)) w2.heap.size 49 [.int .i64 N, .slice none 0 0]) := Lib.hid (ci_blk w2 _ _)
  have hq2 := kr2.lt
  have BW := Lib.hid (below_alloc w2 (.cells #[.int .i64 N, .slice none 0 0] 49))
  have hown0' : (( w2.alloc (.cells #[.int .i64 N, .slice none 0 0] 49)).alloc (.cells #[.int .i64 0] 3)).ownsRow (w2.heap.size + 1) 3 1 (.slice (some ⟨w2.heap.size + 1, 0, none⟩) 1 1) (1 + 0) (ints (fx0 inp val (1 + 0))) := by
    rw [World.size_alloc] at hown0
    have e : fx0 inp val (1 + 0) = [0] := by
      show [] ++ [if ((0 : Nat) : Int) = 1 + inp then val else 2 * ((0 : Nat) : Int)] = [0]
      rw [if_neg (by omega)]; rfl
    rw [e]; exact hown0
  have hbs : Below (w2.heap.size + 1) (w2.alloc (.cells #[.int .i64 N, .slice none 0 0] 49)) ((w2.alloc (.cells #[.int .i64 N, .slice none 0 0] 49)).alloc (.cells #[.int .i64 0] 3)) := by
    have := below_alloc (w2.alloc (.cells #[.int .i64 N, .slice none 0 0] 49)) (.cells #[.int .i64 0] 3)
    rw [World.size_alloc] at this; exact this
  have hwz : (w2.alloc (.cells #[.int .i64 N, .slice none 0 0] 49)).heap.size = w2.heap.size + 1 := World.size_alloc _ _
  clear hown0 b1 b2 c2 B1 B2 kb1 kb2 kr1 kr2 x0 x1 f0 f1 y0 y1 wm
  generalize w2.alloc (.cells #[.int .i64 N, .slice none 0 0] 49) = W3 at *
  go_loopg [11, 12] N (fun r v i wr => ∃ k : Nat, k + r = N ∧ i = .int .i64 k ∧ wr.ownsRow (w2.heap.size + 1) 3 1 v (1 + k) (ints (fx0 inp val (1 + k))) ∧ Below (w2.heap.size + 1) W3 wr)
  case atStart => exact ⟨0, by omega, rfl, hown0', hbs⟩
  case round =>
    clear hown0' hbs
    obtain ⟨k, hk, rfl, ho, hb⟩ := hrel
    have hB2 : Below w2.heap.size w2 wr := BW.out.trans (hb.mono (Nat.le_succ _))
    obtain ⟨B, kb, kr⟩ := KB.out _ hB2
    have kq := KQ.out.below hb (Nat.lt_succ_self _)
    have x0 := kb.cell 0
    have x1 := kb.cell 1
    have hs1 : w2.heap.size + 1 ≤ wr.heap.size := by have := hb.size; omega
    simp only [List.getElem?_cons_zero, List.getElem?_cons_succ] at x0 x1
    by_cases hlt : k < N
    · have kn : (k : Int) < N := by omega
      have wa : IntKind.i64.wrap (1 + (k : Int)) = 1 + (k : Int) := IntWalk.i64_in _ (by omega)
      have wb : IntKind.i64.wrap (2 * (1 + (k : Int))) = 2 * (1 + (k : Int)) := IntWalk.i64_in _ (by omega)
      have hE : Hid (fx0 inp val (1 + (k + 1)) = fx0 inp val (1 + k) ++ [if (k : Int) = inp then val else 2 * (1 + (k : Int))]) := Lib.hid (by
        show fx0 inp val ((1 + k) + 1) = _
        show fx0 inp val (1 + k) ++ [if ((1 + k : Nat) : Int) = 1 + inp then val else 2 * ((1 + k : Nat) : Int)] = _
        by_cases q : (k : Int) = inp
        · rw [if_pos (by omega), if_pos q]
        · rw [if_neg (by omega), if_neg q]; simp)
      by_cases hi : (k : Int) = inp
      · rw [if_pos hi] at hE
        have g1 : ((k : Int) == inp) = true := by simp [hi]
        go_wp2_with (first | (at_builtin; refine app_int_at rfl _ _ rfl (w2.heap.size + 1) _ (1 + k) (fx0 inp val (1 + k)) val _ rfl (ho.alloc _) rfl (World.cell?_alloc_at _ _ _ _ rfl) (by omega) (by rw [World.size_alloc]; omega) ?_; intro v' w' ho4 hb4))
        go_roundg (N - (k + 1))
        case measure => omega
        case rel => exact ⟨k + 1, by omega, by go_num, by rw [hE.out]; exact ho4, (hb.alloc (by omega) _).trans hb4⟩
      · rw [if_neg hi] at hE
        have g1 : ((k : Int) == inp) = false := by simp [hi]
        go_wp2_with (first | (at_builtin; refine app_int_at rfl _ _ rfl (w2.heap.size + 1) _ (1 + k) (fx0 inp val (1 + k)) (2 * (1 + (k : Int))) _ rfl (ho.alloc _) rfl (World.cell?_alloc_at _ _ _ _ rfl) (by omega) (by rw [World.size_alloc]; omega) ?_; intro v' w' ho4 hb4))
        go_roundg (N - (k + 1))
        case measure => omega
        case rel => exact ⟨k + 1, by omega, by go_num, by rw [hE.out]; exact ho4, (hb.alloc (by omega) _).trans hb4⟩
    · obtain rfl : k = N := by omega
      have HX : Hid (FxW wr w2.heap.size _ (1 + k + 0) (T 0)) := Lib.hid ⟨none, 0, by rw [F0.out]; exact kq, by rw [F0.out]; exact World.ownsRow_nil _ _ _ _, by rw [F0.out]; exact ⟨ho, rfl⟩, by simp [bl, Value.ownBlock]⟩
      have HB2 := Lib.hid hB2
      clear ho F0 kq KQ hb BW hB2
      go_wp2
      clear x0 x1 kb kr B hs1
      go_loopg [11, 13] gs.length (fun r v i wr => ∃ j : Nat, j + r = gs.length ∧ i = .int .i64 j ∧ Hid (FxW wr w2.heap.size v (1 + k + j) (T j)) ∧ Hid (Below w2.heap.size w2 wr))
      case atStart => exact ⟨0, by omega, rfl, HX, HB2⟩
      case round =>
        clear HX HB2
        obtain ⟨j, hj, rfl, ho, hb⟩ := hrel
        obtain ⟨Ak, ck, kq, hg, hv', hd⟩ := ho.out
        obtain ⟨B, kb, kr⟩ := KB.out _ hb.out
        have x0 := kb.cell 0
        have x1 := kb.cell 1
        simp only [List.getElem?_cons_zero, List.getElem?_cons_succ] at x0 x1
        obtain ⟨Av, cv, hvv⟩ := row_slice hv'.1
        subst hvv
        by_cases hlt : j < gs.length
        · obtain ⟨ad, rfl, hbl, d0, d1⟩ := ga_at (H1.out _ B) hlt
          have ok1 := GT.out j hlt
          have I := INV.out j (by omega)
          have E := FX.out j
          generalize T j = R at *
          generalize el gs j = g at *
          obtain ⟨a, b⟩ := g
          obtain ⟨a0, a1, b0, b1⟩ := ok1
          dsimp only at *
          have A2 := edIn.lt I (I.at a0 (by show a < 2 * (1 + (k : Int) + j); exact a1))
          have B3 := edIn.lt I (I.at b0 (by show b < 2 * (1 + (k : Int) + j); exact b1))
          have VX := fun x (hx : x < 1 + k + j) => edIn.lt I (I.ed x (by have := I.nodes; have := hv'.1.1; rw [len_ints] at this; omega))
          obtain ⟨xa, hxa⟩ : ∃ x : Nat, x = (a / 2).toNat := ⟨_, rfl⟩
          obtain ⟨xb, hxb⟩ : ∃ x : Nat, x = (b / 2).toNat := ⟨_, rfl⟩
          have xal : xa < 1 + k + j := by omega
          have xbl : xb < 1 + k + j := by omega
          have va := VX xa xal
          have vb := VX xb xbl
          have EA : atE R.2 a = if a % 2 = 1 then notE (ix R.2 xa) else ix R.2 xa := by unfold atE; rw [hxa]
          have EB : atE R.2 b = if b % 2 = 1 then notE (ix R.2 xb) else ix R.2 xb := by unfold atE; rw [hxb]
          have hqs : w2.heap.size + 1 ≤ wr.heap.size := kq.lt
          have LAw := l7And_any R.1 Ak ck (atE R.2 a) (atE R.2 b) (w2.heap.size + 1) wr hg hqs A2.1 A2.2 B3.1 B3.2 I.gd
          generalize andB R.1 (atE R.2 a) (atE R.2 b) = R5 at *
          obtain ⟨⟨m5, g5⟩, e5⟩ := R5
          obtain ⟨⟨mj, gj⟩, lj⟩ := R
          dsimp only at *
          have HE := Lib.hid E
          have RR := Rd.of_own hv'.1
          obtain ⟨av, rfl, hbv, dA⟩ := RR.int xal
          obtain ⟨av2, eav, _, dB⟩ := RR.int xbl
          injection eav with eav
          subst eav
          rw [EA, EB] at LAw
          generalize ix lj xa = ya at *
          generalize ix lj xb = yb at *
          have na := Lib.hid (fun W => l7Not_any ya W (by omega) va.2)
          have nb := Lib.hid (fun W => l7Not_any yb W (by omega) vb.2)
          have ra : a.tmod 2 = a % 2 := Int.tmod_eq_emod_of_nonneg a0
          have rb : b.tmod 2 = b % 2 := Int.tmod_eq_emod_of_nonneg b0
          have qa : IntKind.i64.wrap (a.tdiv 2) = (xa : Int) := by rw [Int.tdiv_eq_ediv_of_nonneg a0, show a / 2 = xa by omega]; exact IntWalk.i64_in _ (by omega)
          have qb : IntKind.i64.wrap (b.tdiv 2) = (xb : Int) := by rw [Int.tdiv_eq_ediv_of_nonneg b0, show b / 2 = xb by omega]; exact IntWalk.i64_in _ (by omega)
          have xai : (xa : Int) < ((1 + k + j : Nat) : Int) := by omega
          have xbi : (xb : Int) < ((1 + k + j : Nat) : Int) := by omega
          have pa : a % 2 = 0 ∨ a % 2 = 1 := by omega
          have pb : b % 2 = 0 ∨ b % 2 = 1 := by omega
          have kn : (j : Int) < gs.length := by omega
          have z0 := kq.cell 0
          have z1 := kq.cell 1
          simp only [List.getElem?_cons_zero, List.getElem?_cons_succ] at z0 z1
          have HV := Lib.hid hv'
          have HG := Lib.hid hg
          have HD := Lib.hid hd
          have KQ := Lib.hid kq
          clear E EA EB A2 B3 VX I hv' hg hd kq RR hxa hxb a0 a1 b0 b1 va vb
          rcases pa with pa | pa <;> rcases pb with pb | pb <;> rw [pa] at ra LAw <;> rw [pb] at rb LAw <;> simp only [reduceIte, Int.reduceEq] at LAw
          all_goals
            first
              | (have na0 := (show a % 2 = 0 from pa); clear na0 na)
              | skip
            clear pa pb
            have LAw : Calls Try.prog 52 _ wr (fun e w' => ∃ A5 c5, e = .returned (.tuple #[.agg #[.int .i64 m5, .slice A5 g5.length c5], .int .i64 e5]) ∧ w'.ownsRow (w2.heap.size + 1) 90 2 (.slice A5 g5.length c5) g5.length (fl g5) ∧ Only (bl (.slice Ak gj.length ck)) wr w' ∧ ∀ x ∈ bl (.slice A5 g5.length c5), x ∈ bl (.slice Ak gj.length ck) ∨ wr.heap.size ≤ x) := LAw
            have LAW := Lib.hid LAw
            clear LAw
            go_wp2_with (first
              | (go_at_call 51; refine (na.out _).mono ?_; rintro e w3 ⟨rfl, rfl⟩; clear na)
              | (go_at_call 51; refine (nb.out _).mono ?_; rintro e w3 ⟨rfl, rfl⟩)
              | (go_at_call 52; refine LAW.out.mono ?_; rintro e w5 ⟨A5, c5, rfl, ho5, on5, lo5⟩
                 have hqn : w2.heap.size ∉ bl (.slice Ak gj.length ck) := fun hm => by have := (HG.out.lt _ (mem_bl.1 hm)).1; omega
                 have kq5 := Blk.only KQ.out on5 hqn
                 have hv5 := HV.out.only on5 HD.out
                 have hb5 := hb.out.trans (on5.below (Nat.le_of_succ_le hqs) (fun x hx => by have := (HG.out.lt x (mem_bl.1 hx)).1; omega))
                 have D5 : Hid (∀ x ∈ bl (.slice (some av) (1 + k + j) cv), x ∉ bl (.slice A5 g5.length c5)) := Lib.hid (fun x hx hm => by
                   rcases lo5 x hm with q | q
                   · exact HD.out x hx q
                   · have := (HV.out.lt x hx).2; omega)
                 have nqv : (Value.slice (some av) (1 + k + j) cv).ownBlock ≠ some w2.heap.size := fun e => by have := (HV.out.lt _ (mem_bl.2 e)).1; omega
                 have nqa : (Value.slice A5 g5.length c5).ownBlock ≠ some w2.heap.size := fun e => by have := (ho5.lt _ e).1; omega
                 have hs5 : w2.heap.size < w5.heap.size := kq5.lt
                 have AL := Lib.hid (fun x (hx : x ∈ bl (.slice A5 g5.length c5)) => (ho5.lt x (mem_bl.1 hx)).2)
                 have k6 := ci_blk w5 #[.int .i64 m5, .slice A5 g5.length c5] 49
                 have K8 := Lib.hid (((kq5.set 0 (.int .i64 m5)).set 1 (.slice A5 g5.length c5)).alloc (.cells #[.int .i64 m5, .slice A5 g5.length c5] 49))
                 have G8 := Lib.hid ((own_away (own_away ho5 (p := ⟨w2.heap.size, 0, none⟩) (.int .i64 m5) nqa) (p := ⟨w2.heap.size, 1, none⟩) (.slice A5 g5.length c5) nqa).alloc (.cells #[.int .i64 m5, .slice A5 g5.length c5] 49))
                 have V8 := Lib.hid ((own_away (own_away hv5.1 (p := ⟨w2.heap.size, 0, none⟩) (.int .i64 m5) nqv) (p := ⟨w2.heap.size, 1, none⟩) (.slice A5 g5.length c5) nqv).alloc (.cells #[.int .i64 m5, .slice A5 g5.length c5] 49))
                 have HV8 : Hid (∀ o, IL ((((w5.setCell ⟨w2.heap.size, 0, none⟩ (.int .i64 m5)).setCell ⟨w2.heap.size, 1, none⟩ (.slice A5 g5.length c5)).alloc (.cells #[.int .i64 m5, .slice A5 g5.length c5] 49)).alloc o) (w2.heap.size + 1) 3 (.slice (some av) (1 + k + j) cv) (1 + k + j) lj (bl (.slice (some av) (1 + k + j) cv))) := Lib.hid (fun o => ⟨V8.out.alloc o, rfl⟩)
                 have HSZ : Hid (w2.heap.size + 1 ≤ (((w5.setCell ⟨w2.heap.size, 0, none⟩ (.int .i64 m5)).setCell ⟨w2.heap.size, 1, none⟩ (.slice A5 g5.length c5)).alloc (.cells #[.int .i64 m5, .slice A5 g5.length c5] 49)).heap.size) := Lib.hid (by rw [World.size_alloc, World.size_setCell, World.size_setCell]; omega)
                 have B8 := Lib.hid (((hb5.setCell (p := ⟨w2.heap.size, 0, none⟩) (Nat.le_refl _) (.int .i64 m5)).setCell (p := ⟨w2.heap.size, 1, none⟩) (Nat.le_refl _) (.slice A5 g5.length c5)).alloc (by rw [World.size_setCell, World.size_setCell]; exact Nat.le_of_lt hs5) (.cells #[.int .i64 m5, .slice A5 g5.length c5] 49))
                 have t0 := k6.cell 0
                 have t1 := k6.cell 1
                 have f0 := kq5.frozen 0
                 have f1 := kq5.frozen 1
                 have z0 := kq5.cell 0
                 have z1 := kq5.cell 1
                 simp only [List.getElem?_cons_zero, List.getElem?_cons_succ] at t0 t1 z0 z1
                 clear kq5 hv5 hb5 k6 ho5 on5 lo5)
              | (at_builtin
                 refine app_il rfl _ _ rfl rfl (HV8.out _) rfl (World.cell?_alloc_at _ _ _ _ (by simp)) (by omega) (by rw [World.size_alloc]; have := HSZ.out; omega) ?_
                 intro v' w' fp' ho9 on9 lo9))
            go_roundg (gs.length - (j + 1))
            case measure => omega
            case rel =>
              obtain ⟨ho9, rfl⟩ := ho9
              have nqv' : w2.heap.size ∉ bl (.slice (some av) (1 + k + j) cv) := fun hm => nqv (mem_bl.1 hm)
              have hs8 : w2.heap.size ≤ (((w5.setCell ⟨w2.heap.size, 0, none⟩ (.int .i64 m5)).setCell ⟨w2.heap.size, 1, none⟩ (.slice A5 g5.length c5)).alloc (.cells #[.int .i64 m5, .slice A5 g5.length c5] 49)).heap.size := by rw [World.size_alloc, World.size_setCell, World.size_setCell]; omega
              refine ⟨j + 1, by omega, by go_num, Lib.hid ?_, Lib.hid ((B8.out.alloc hs8 _).trans (on9.below (by rw [World.size_alloc]; omega) (fun x hx => by have := (HV.out.lt x hx).1; omega)))⟩
              rw [HE.out]
              refine ⟨A5, c5, Blk.only (K8.out.alloc _) on9 nqv', row_only (G8.out.alloc _) on9 (fun x hx hm => D5.out x hm hx), ⟨ho9, rfl⟩, fun x hx hm => ?_⟩
              rcases lo9 x hx with q | q
              · exact D5.out x q hm
              · have := AL.out x hm
                rw [World.size_alloc, World.size_alloc, World.size_setCell, World.size_setCell] at q
                omega
        · obtain rfl : j = gs.length := by omega
          have hq := HQ.out
          unfold Ci.nodes at hq
          dsimp only at hq
          have I := INV.out _ (Nat.le_refl gs.length)
          generalize T gs.length = R at *
          have VE := edIn.lt I (I.ed (edge / 2).toNat (by have := I.nodes; have := hv'.1.1; rw [len_ints] at this; omega))
          obtain ⟨xe, hxe⟩ : ∃ x : Nat, x = (edge / 2).toNat := ⟨_, rfl⟩
          have xel : xe < 1 + k + gs.length := by omega
          have EE : atE R.2 edge = if edge % 2 = 1 then notE (ix R.2 xe) else ix R.2 xe := by unfold atE; rw [hxe]
          rw [← hxe] at VE
          have gfew := I.gd.few
          obtain ⟨⟨mj, gj⟩, lj⟩ := R
          dsimp only at *
          have RR := Rd.of_own hv'.1
          obtain ⟨av, rfl, hbv, dA⟩ := RR.int xel
          generalize ix lj xe = ye at *
          have ne := Lib.hid (fun W => l7Not_any ye W (by omega) VE.2)
          have re : edge.tmod 2 = edge % 2 := Int.tmod_eq_emod_of_nonneg hq.1
          have qe : IntKind.i64.wrap (edge.tdiv 2) = (xe : Int) := by rw [Int.tdiv_eq_ediv_of_nonneg hq.1, show edge / 2 = xe by omega]; exact IntWalk.i64_in _ (by omega)
          have xei : (xe : Int) < ((1 + k + gs.length : Nat) : Int) := by omega
          have pe : edge % 2 = 0 ∨ edge % 2 = 1 := by omega
          have z0 := kq.cell 0
          have z1 := kq.cell 1
          have f0 := kr.frozen 0
          have f1 := kr.frozen 1
          have y0 := kr.cell 0
          have y1 := kr.cell 1
          simp only [List.getElem?_cons_zero, List.getElem?_cons_succ] at z0 z1 y0 y1
          have nq : (Value.slice Ak gj.length ck).ownBlock ≠ some (w.heap.size + 1) := fun e => by have := (hg.lt _ e).1; omega
          have K2 := Lib.hid ((kr.set 0 (.int .i64 mj)).set 1 (.slice Ak gj.length ck))
          have b8 := Lib.hid ((B.setCell (p := ⟨w.heap.size + 1, 0, none⟩) (Nat.le_succ _) (.int .i64 mj)).setCell (p := ⟨w.heap.size + 1, 1, none⟩) (Nat.le_succ _) (.slice Ak gj.length ck))
          have o8 := Lib.hid (own_away (own_away hg (p := ⟨w.heap.size + 1, 0, none⟩) (.int .i64 mj) nq) (p := ⟨w.heap.size + 1, 1, none⟩) (.slice Ak gj.length ck) nq)
          clear hq I VE RR hv' hg hd kq kr hxe
          rcases pe with pe | pe <;> rw [pe] at re EE <;> simp only [reduceIte, Int.reduceEq] at EE
          all_goals
            have HEE := Lib.hid EE
            clear EE pe
            go_wp2_with (first | (go_at_call 51; refine (ne.out _).mono ?_; rintro e w3 ⟨rfl, rfl⟩))
            have r0 := K2.out.cell 0
            have r1 := K2.out.cell 1
            simp only [List.set_cons_zero, List.set_cons_succ, List.getElem?_cons_zero, List.getElem?_cons_succ] at r0 r1
            obtain ⟨fp, q1, q2, q3⟩ := own_flat (α := Ga) o8.out rfl (by unfold maxLen; omega)
            first
              | exact bodyPost_ret (v := .tuple #[.agg #[.int .i64 mj, .slice Ak gj.length ck], .int .i64 ye]) (by simp [results, Try.results19, go_sem, r0, r1]) rfl ⟨Ak, _, ck, fp, congrArg (fun z => Ending.returned (.tuple #[.agg #[.int .i64 mj, .slice Ak gj.length ck], .int .i64 z])) HEE.out.symm, q1, q2, fun x hx => by have := q3 x hx; omega, b8.out⟩
              | exact bodyPost_ret (v := .tuple #[.agg #[.int .i64 mj, .slice Ak gj.length ck], .int .i64 (notE ye)]) (by simp [results, Try.results19, go_sem, r0, r1]) rfl ⟨Ak, _, ck, fp, congrArg (fun z => Ending.returned (.tuple #[.agg #[.int .i64 mj, .slice Ak gj.length ck], .int .i64 z])) HEE.out.symm, q1, q2, fun x hx => by have := q3 x hx; omega, b8.out⟩
end Go.Proofs.Ytnhjcokmajejcaa
