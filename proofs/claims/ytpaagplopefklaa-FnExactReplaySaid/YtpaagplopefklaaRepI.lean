/- Replay of the program, and how large a run is. -/
import Derived.Test.YtpaagplopefklaaRepS
import Derived.Deep.RegionHeld3
import Derived.RegionTactic
import Derived.Test.YtpaagplopefklaaIl
namespace Go.Proofs.Ytpaagplopefklaa
open Go.RowKit

theorem six_only (g : Nat) (W : World) (a b c d e f : Value) : Only [g] W ((((((W.setCell ⟨g, 0, none⟩ a).setCell ⟨g, 1, none⟩ b).setCell ⟨g, 2, none⟩ c).setCell ⟨g, 3, none⟩ d).setCell ⟨g, 4, none⟩ e).setCell ⟨g, 5, none⟩ f) :=
  (((((set_only W g 0 a).trans (set_only _ g 1 b)).trans (set_only _ g 2 c)).trans (set_only _ g 3 d)).trans (set_only _ g 4 e)).trans (set_only _ g 5 f)
theorem rep_drew {w X : World} {L : List (List Int)} {l : List Int} {z : Int} {e : Ending} (h : GivesTrI w L l z e X) : GivesTrI w L l z e X.drew := by
  obtain ⟨A, n, c, A', n', c', f1, f2, h1, h2, h3, h4, h5, h6⟩ := h
  have b : Below X.heap.size X X.drew := ⟨rfl, rfl, rfl, Nat.le_refl _, fun _ _ => rfl⟩
  exact ⟨A, n, c, A', n', c', f1, f2, h1, Mem.own_below h2 b, Mem.own_below h3 b, h4, h5, h6.trans (b.mono h6.size)⟩
theorem step_ll {ops : Array Oper} {o : Oper} {a : Act} {K : Act → World → Prop} {Q : Exit → Act → World → Prop} {E : Prop} {W w : World} {base k n c : Nat} {v : Value} {L : List (List Int)} {l : List Int} {fp fq : List Nat} {A : Option Addr} {ad : Addr} (hgd : o.guard = none) (s x : Operand)
    (ho : o.op = .call { callee := .builtin .append, args := #[s, x], argTypes := #[51, 51] }) (hs : a.eval s = v) (h : LL w base 35 v k L fp) (hb : Below w.heap.size w W) (own : Mem.own W fq [.slice A n c] l) (nq : fq.Nodup) (lo : ∀ b ∈ fq, w.heap.size ≤ b)
    (hx : a.eval x = .slice (some ad) 1 1) (hc : W.cell? ad = some (.slice A n c)) (hk : k ≤ 1000000000) (hbase : base ≤ w.heap.size)
    (hK : ∀ A' c' w' fp', LL w' base 35 (.slice A' (k + 1) c') (k + 1) (L ++ [l]) fp' → Only fp W w' → (∀ b ∈ fp', b ∈ fp ∨ b ∈ fq ∨ b = W.heap.size) → K (a.put o.dst (.slice A' (k + 1) c')) w') :
    if Region.wanted o (yielded ops a.tmps) = true then Oper.wp Try.prog o a W K Q else E := by
  have hw : Region.wanted o (yielded ops a.tmps) = true := by simp [Region.wanted, hgd]
  rw [if_pos hw]
  obtain ⟨v', w', fp', hr, q1, q2, q3⟩ := LL.app (P := Try.prog) (t := 51) (ty := o.type) Try.underlying51 inS_row.1 inS_row.2.1 inS_row.2.2.1 inS_row.2.2.2 h hb own nq lo hc hk hbase
  obtain ⟨A', c', rfl⟩ := row_slice q1.2.2.choose_spec.choose_spec.1
  unfold Oper.wp execOp
  simp only [ho, resolve, invoke, builtin, Sem.run_bind, Sem.run_pure, Result.andThen_ok, List.map_toArray, List.map_cons, List.map_nil, hs, hx, hr]
  exact hK _ _ w' fp' q1 q2 q3

set_option maxRecDepth 100000 in
set_option maxHeartbeats 8000000 in
theorem replay_impl (s : Sy) (rs : List Int) (A1 : Option Addr) (n1 c1 : Nat) (A2 : Option Addr) (n2 c2 : Nat) (A3 : Option Addr) (n3 c3 : Nat) (w : World) (h1 : Mem.rd w w.heap.size [.slice A1 n1 c1] s.vars) (h2 : Mem.rd w w.heap.size [.slice A2 n2 c2] s.rules) (h3 : Mem.rd w w.heap.size [.slice A3 n3 c3] rs) :
    Calls Try.prog 35 #[.agg #[.slice A1 n1 c1, .slice A2 n2 c2], .slice A3 n3 c3] w (GivesTrI w (repS s rs) (repR s rs) (repK s rs)) := by
  have BX := Lib.hid (fun W hW => repW_box (w := w) (v1 := .slice A1 n1 c1) (v2 := .slice A2 n2 c2) (W := W) hW)
  have bW := repW_below w (.slice A1 n1 c1) (.slice A2 n2 c2)
  have SV := Lib.hid (sysValid_impl s A1 n1 c1 A2 n2 c2 (repW w (.slice A1 n1 c1) (.slice A2 n2 c2)) (Mem.rd_on h1 bW) (Mem.rd_on h2 bW))
  have L2 := rd_len h2
  have L3 := rd_len h3
  have m3 := rd_max h3
  unfold maxLen at m3
  obtain ⟨F, hF⟩ : ∃ F, F = repS s rs := ⟨_, rfl⟩
  obtain ⟨G, hG⟩ : ∃ G, G = repR s rs := ⟨_, rfl⟩
  obtain ⟨N, hN⟩ : ∃ N, N = repK s rs := ⟨_, rfl⟩
  rw [← hF, ← hG, ← hN]
  by_cases h5 : n3 < 500
  · cases hz : sysB s
    · have q : repOk s rs = false := by unfold repOk; rw [hz]; rfl
      have E : Hid (F = [] ∧ G = [] ∧ N = 0) := Lib.hid (by rw [hF, hG, hN]; unfold repS repR repK; rw [q]; exact ⟨rfl, rfl, rfl⟩)
      have HZ := Lib.hid hz; clear hz hF hG hN
      unfold repW at SV
      go_enter Try.func35, Try.ntmps35
      go_wp2_with fail
      refine SV.out.mono ?_
      rintro e w2 ⟨rfl, b2⟩
      rw [HZ.out]
      have b2 := rep_b (w := w) (v1 := .slice A1 n1 c1) (v2 := .slice A2 n2 c2) b2
      obtain ⟨B2, ⟨x0, x1⟩, kZ, lx⟩ := BX.out _ b2
      have z0 := kZ.cell 0
      have z1 := kZ.cell 1
      have f0 := kZ.frozen 0
      have f1 := kZ.frozen 1
      simp only [List.getElem?_cons_zero, List.getElem?_cons_succ] at z0 z1
      clear kZ
      go_wp2_with fail
      refine bodyPost_ret (v := .tuple #[.agg #[.slice none 0 0, .slice none 0 0], .int .i64 0]) (by simp [results, Try.results35, go_sem, z0, z1]) rfl ?_
      rw [E.out.1, E.out.2.1, E.out.2.2]
      refine ⟨none, 0, 0, none, 0, 0, [], [], rfl, own_none2 _, own_none _, List.nodup_nil, by simp, ?_⟩
      exact (B2.setCell (by show w.heap.size ≤ w.heap.size + 1; omega) _).setCell (by show w.heap.size ≤ w.heap.size + 1; omega) _
    · have ok := sysOk_of hz
      have q : repOk s rs = true := by unfold repOk; rw [hz, L3, decide_eq_true h5]; rfl
      have E : Hid (F = statesTo s rs (repN s rs n3) ∧ G = rs.take (repN s rs n3) ∧ N = repN s rs n3) := Lib.hid (by rw [hF, hG, hN]; unfold repS repR repK; rw [q, L3]; exact ⟨rfl, rfl, rfl⟩)
      have FC := Lib.hid (fun W (B : Below w.heap.size w W) => first_impl s A1 n1 c1 A2 n2 c2 W (Mem.rd_on h1 B) (Mem.rd_on h2 B))
      have hFB : firstB s = firsts s.vars := by unfold firstB; rw [hz]; rfl
      rw [hFB] at FC
      have fl := firsts_len s.vars
      have hv1 := ok.lo
      have hv5 := ok.hi
      have hmo := ok.most
      have UC := Lib.hid (fun k (hr : runOk s rs k = true) r (hk : r < s.rules.length) A n c W (B : Below w.heap.size w W) (h : Mem.rd W W.heap.size [.slice A n c] (stAt s rs k)) => l2Use_any s (stAt s rs k) r A1 n1 c1 A2 n2 c2 A n c W (Mem.rd_on h1 B) (Mem.rd_on h2 B) h ok (stAt_has ok hr) hk)
      have hn2 : n2 ≤ 8 := by omega
      have HZ := Lib.hid hz; clear hz hF hG hN hFB
      obtain ⟨nv, hnv⟩ : ∃ nv, nv = (firsts s.vars).length := ⟨_, rfl⟩
      have HNV := Lib.hid hnv
      have hnv5 : 1 ≤ nv ∧ nv ≤ 5 := by omega
      clear hnv fl
      unfold repW at SV
      go_enter Try.func35, Try.ntmps35
      go_wp2_with fail
      refine SV.out.mono ?_
      rintro e w2 ⟨rfl, b2⟩
      rw [HZ.out]
      have b2 := rep_b (w := w) (v1 := .slice A1 n1 c1) (v2 := .slice A2 n2 c2) b2
      obtain ⟨B2, ⟨x0, x1⟩, kZ, lx⟩ := BX.out _ b2
      clear kZ
      go_wp2_with fail
      refine (FC.out _ B2).mono ?_
      rintro e w3 ⟨v3, rfl, o3, b3⟩
      rw [← HNV.out] at o3
      obtain ⟨A0, c0, rfl, _, r3⟩ := own_form o3
      have b23 := b2.trans (b3.mono lx)
      obtain ⟨B3, ⟨y0, y1⟩, kZ, lx3⟩ := BX.out _ b23
      have PC := Lib.hid (pointOf_any A0 nv c0 (firsts s.vars) w3 r3 (by omega) (by omega))
      unfold ptV at PC
      clear kZ x0 x1 o3 r3
      go_wp2_with fail
      refine PC.out.mono ?_
      rintro e w4 ⟨rfl, b4⟩
      have b24 := b23.trans (b4.mono lx3)
      have LC := Lib.hid (fun W => list_any (firsts s.vars) W (by rw [← HNV.out]; exact hnv5.1) (by rw [← HNV.out]; exact hnv5.2))
      unfold ptV at LC
      go_wp2_with fail
      refine (LC.out _).mono ?_
      rintro e w5 ⟨v5, rfl, o5, b5⟩
      rw [← HNV.out, World.size_alloc] at o5
      obtain ⟨A7, c7, rfl, _, _⟩ := own_form o5
      obtain ⟨f0, om0, nd0, lo0⟩ := mem_ints (l := firsts s.vars) (by rw [← HNV.out]; exact o5) (by rw [← HNV.out]; unfold maxLen; omega)
      rw [← HNV.out] at om0
      have lx4 : w.heap.size + 2 ≤ w4.heap.size := Nat.le_trans lx3 b4.size
      have b25 := (b24.alloc lx4 _).trans (b5.mono (by rw [World.size_alloc]; omega))
      have l45 : w4.heap.size + 1 ≤ w5.heap.size := by have := b5.size; rw [World.size_alloc] at this; exact this
      have kP5 : Blk w5 w4.heap.size 84 (ptC (firsts s.vars)) := (Blk.new w4 (ptC (firsts s.vars)).toArray 84).below b5 (by rw [World.size_alloc]; exact Nat.lt_succ_self _)
      have hLL0 := LL.one (base := w.heap.size + 2) (e := 35) om0 nd0 (fun b hb => by have := lo0 b hb; omega) (by omega)
      have hLL1 := hLL0.below (below_alloc _ (.cells #[.slice (some ⟨w5.heap.size, 0, none⟩) 1 1, .slice none 0 0] 53))
      have hiS := Mem.own_lt om0
      have kB := Blk.new (w5.alloc (.cells #[.slice A7 nv c7] 35)) #[.slice (some ⟨w5.heap.size, 0, none⟩) 1 1, .slice none 0 0] 53
      rw [World.size_alloc] at kB
      have kP := (kP5.alloc (.cells #[.slice A7 nv c7] 35)).alloc (.cells #[.slice (some ⟨w5.heap.size, 0, none⟩) 1 1, .slice none 0 0] 53)
      have bQ := (b25.alloc (by omega) (.cells #[.slice A7 nv c7] 35)).alloc (by rw [World.size_alloc]; omega) (.cells #[.slice (some ⟨w5.heap.size, 0, none⟩) 1 1, .slice none 0 0] 53)
      have h3' := (rd_ints.1 h3).2
      clear hLL0 o5 kP5 y0 y1
      go_wp2
      go_loopg [9, 10, 11, 30] n3 (fun m i9 i10 i11 i wr => ∃ (k : Nat) (vS vR : Value) (fS fR : List Nat), k + m = n3 ∧ i = .int .i64 k ∧ Hid (runOk s rs k = true) ∧ Hid (LL wr (w.heap.size + 2) 35 vS (k + 1) (statesTo s rs k) fS) ∧ Hid (IL wr (w.heap.size + 2) 3 vR k (rs.take k) fR) ∧ Blk wr (w5.heap.size + 1) 53 [vS, vR] ∧ Blk wr w4.heap.size 84 (ptC (stAt s rs k)) ∧
        Hid ((∀ b ∈ fS, b ≠ w5.heap.size + 1 ∧ b ≠ w4.heap.size ∧ b ∉ fR) ∧ w5.heap.size + 1 ∉ fR ∧ w4.heap.size ∉ fR) ∧ Below (w.heap.size + 2) (repW w (.slice A1 n1 c1) (.slice A2 n2 c2)) wr)
      case atStart => exact ⟨0, _, _, w5.heap.size :: f0, [], by omega, rfl, Lib.hid rfl, Lib.hid hLL1, Lib.hid (IL.nil _ _ _), kB, kP, Lib.hid ⟨fun b hb => ⟨by rcases List.mem_cons.1 hb with rfl | hb; omega; have := hiS b hb; omega, by rcases List.mem_cons.1 hb with rfl | hb; omega; have := lo0 b hb; omega, by simp⟩, by simp, by simp⟩, bQ⟩
      case round =>
        clear hLL1 kB bQ kP
        obtain ⟨k, vS, vR, fS, fR, hk, rfl, RO, HL, HI, kB, kP, HD, hb⟩ := hrel
        obtain ⟨B, ⟨x0, x1⟩, kZ, lx⟩ := BX.out _ hb
        have p0 := kB.cell 0
        have p1 := kB.cell 1
        have z0 := kZ.cell 0
        have z1 := kZ.cell 1
        have g0 := kZ.frozen 0
        have g1 := kZ.frozen 1
        simp only [List.getElem?_cons_zero, List.getElem?_cons_succ] at p0 p1 z0 z1
        have lB := kB.lt
        have hkm : k + 1 ≤ maxLen := by unfold maxLen; omega
        obtain ⟨AS, cS, rfl⟩ := row_slice HL.out.2.2.choose_spec.choose_spec.1
        obtain ⟨AR, cR, rfl⟩ := row_slice HI.out.1
        by_cases hlt : k < n3
        · obtain ⟨ad3, rfl, hbl3, d3⟩ := (h3'.below B).int hlt
          cases hr : ruleIn s (ix rs k)
          · have HR := Lib.hid hr
            have EK : Hid (repN s rs n3 = k) := Lib.hid (run_stop RO.out (by unfold stepOk; rw [hr]; rfl) hlt).2
            clear hr
            go_wp2_with fail
            refine (hasRule_any s _ A1 n1 c1 A2 n2 c2 wr (Mem.rd_on h2 B)).mono ?_
            rintro e w6 ⟨rfl, b6⟩
            rw [HR.out]
            have hL := HL.out.below b6
            have hI := HI.out.below b6
            have hB := B.trans (b6.mono B.size)
            have z0 := cell_below b6 (p := ⟨w.heap.size + 1, 0, none⟩) (by show w.heap.size + 1 < wr.heap.size; omega) z0
            have z1 := cell_below b6 (p := ⟨w.heap.size + 1, 1, none⟩) (by show w.heap.size + 1 < wr.heap.size; omega) z1
            have kZ6 := kZ.below b6 (by omega)
            have g0 := kZ6.frozen 0
            have g1 := kZ6.frozen 1
            have p0 := cell_below b6 (p := ⟨w5.heap.size + 1, 0, none⟩) lB p0
            have p1 := cell_below b6 (p := ⟨w5.heap.size + 1, 1, none⟩) lB p1
            go_wp2
            go_region
            go_wp2_with fail
            refine bodyPost_ret (v := .tuple #[.agg #[.slice AS (k + 1) cS, .slice AR k cR], .int .i64 k]) (by simp [results, Try.results35, go_sem, z0, z1]) rfl ?_
            rw [E.out.1, E.out.2.1, E.out.2.2, EK.out]
            exact rep_drew (rep_fin (W := w6) hB hL hI hkm (by unfold maxLen; omega) fun b hb => (HD.out.1 b hb).2.2)
          · obtain ⟨rk, hrk, hrk2⟩ := ruleIn_at hr
            have HR := Lib.hid hr
            have us : useL s (stAt s rs k) rk = stAt s rs (k + 1) := by show _ = useL s (stAt s rs k) (ix rs k).toNat; rw [hrk]; rfl
            have ub : stepOk s (stAt s rs k) (ix rs k) = useB s (stAt s rs k) rk := by unfold stepOk; rw [hr, hrk]; rfl
            have UK := Lib.hid (fun W (BW : Below w.heap.size w W) => useP_any s (stAt s rs k) rk A1 n1 c1 A2 n2 c2 W (Mem.rd_on h1 BW) (Mem.rd_on h2 BW) ok (stAt_has ok RO.out) hrk2)
            rw [us, ← ub, ← hrk] at UK
            have RS := Lib.hid (show stepOk s (stAt s rs k) (ix rs k) = true → hasB s.vars (stAt s rs (k + 1)) = true from fun h => stAt_has ok (k := k + 1) (by unfold runOk; rw [RO.out, h]; rfl))
            unfold ptV at UK
            clear hr us ub hrk hrk2
            have b60 := Lib.hid (hasRule_any s (ix rs k) A1 n1 c1 A2 n2 c2 wr (Mem.rd_on h2 B))
            obtain ⟨u, hu⟩ : ∃ u, u = stepOk s (stAt s rs k) (ix rs k) := ⟨_, rfl⟩
            rw [← hu] at UK RS
            have HU := Lib.hid hu
            clear hu
            cases u
            · have EK : Hid (repN s rs n3 = k) := Lib.hid (run_stop RO.out HU.out.symm hlt).2
              go_wp2_with fail
              refine b60.out.mono ?_
              rintro e w6 ⟨rfl, b6⟩
              rw [HR.out]
              have hL6 := HL.out.below b6
              have hI6 := HI.out.below b6
              have hB6 := B.trans (b6.mono B.size)
              have hb6 := hb.trans (b6.mono lx)
              have kP6 := kP.below b6 kP.lt
              have kB6 := kB.below b6 lB
              obtain ⟨c0', c1', c2', c3', c4', c5'⟩ := pt_cells kP6
              have x0 := cell_below b6 (p := ⟨w.heap.size, 0, none⟩) (by show w.heap.size < wr.heap.size; omega) x0
              have x1 := cell_below b6 (p := ⟨w.heap.size, 1, none⟩) (by show w.heap.size < wr.heap.size; omega) x1
              have lx6 := Nat.le_trans lx b6.size
              go_wp2_with fail
              refine (UK.out _ hB6).mono ?_
              rintro e w7 ⟨rfl, b7⟩
              have b67 := b7.trans ((below_alloc w7 (.cells #[.int .i64 (ix (stAt s rs (k + 1)) 0), .int .i64 (ix (stAt s rs (k + 1)) 1), .int .i64 (ix (stAt s rs (k + 1)) 2), .int .i64 (ix (stAt s rs (k + 1)) 3), .int .i64 (ix (stAt s rs (k + 1)) 4), .int .i64 (stAt s rs (k + 1)).length] 84)).mono b7.size)
              have bW := b6.trans (b67.mono b6.size)
              have z0 := cell_below bW (p := ⟨w.heap.size + 1, 0, none⟩) (by show w.heap.size + 1 < wr.heap.size; omega) z0
              have z1 := cell_below bW (p := ⟨w.heap.size + 1, 1, none⟩) (by show w.heap.size + 1 < wr.heap.size; omega) z1
              have kZW := kZ.below bW (by omega)
              have g0 := kZW.frozen 0
              have g1 := kZW.frozen 1
              have p0 := cell_below bW (p := ⟨w5.heap.size + 1, 0, none⟩) lB p0
              have p1 := cell_below bW (p := ⟨w5.heap.size + 1, 1, none⟩) lB p1
              go_wp2
              go_region
              go_wp2_with fail
              refine bodyPost_ret (v := .tuple #[.agg #[.slice AS (k + 1) cS, .slice AR k cR], .int .i64 k]) (by simp [results, Try.results35, go_sem, z0, z1]) rfl ?_
              rw [E.out.1, E.out.2.1, E.out.2.2, EK.out]
              exact rep_drew (rep_fin (W := _) (B.trans (bW.mono B.size)) (HL.out.below bW) (HI.out.below bW) hkm (by unfold maxLen; omega) fun b hb => (HD.out.1 b hb).2.2)
            · have ROn : Hid (runOk s rs (k + 1) = true) := Lib.hid (by unfold runOk; rw [RO.out, ← HU.out]; rfl)
              have hlen := has_len (RS.out rfl)
              have LC2 := Lib.hid (fun W => list_any (stAt s rs (k + 1)) W (by have := ok.lo; omega) (by have := ok.hi; omega))
              unfold ptV at LC2
              have hst5 : Hid ((stAt s rs (k + 1)).length ≤ 5) := Lib.hid (by have := ok.hi; omega)
              clear hlen
              go_wp2_with fail
              refine b60.out.mono ?_
              rintro e w6 ⟨rfl, b6⟩
              rw [HR.out]
              have hL6 := HL.out.below b6
              have hI6 := HI.out.below b6
              have hB6 := B.trans (b6.mono B.size)
              have hb6 := hb.trans (b6.mono lx)
              have kP6 := kP.below b6 kP.lt
              have kB6 := kB.below b6 lB
              obtain ⟨c0', c1', c2', c3', c4', c5'⟩ := pt_cells kP6
              have x0 := cell_below b6 (p := ⟨w.heap.size, 0, none⟩) (by show w.heap.size < wr.heap.size; omega) x0
              have x1 := cell_below b6 (p := ⟨w.heap.size, 1, none⟩) (by show w.heap.size < wr.heap.size; omega) x1
              have lx6 := Nat.le_trans lx b6.size
              go_wp2_with fail
              refine (UK.out _ hB6).mono ?_
              rintro e w7 ⟨rfl, b7⟩
              have b67 := b7.trans ((below_alloc w7 (.cells #[.int .i64 (ix (stAt s rs (k + 1)) 0), .int .i64 (ix (stAt s rs (k + 1)) 1), .int .i64 (ix (stAt s rs (k + 1)) 2), .int .i64 (ix (stAt s rs (k + 1)) 3), .int .i64 (ix (stAt s rs (k + 1)) 4), .int .i64 (stAt s rs (k + 1)).length] 84)).mono b7.size)
              have bW := b6.trans (b67.mono b6.size)
              have z0 := cell_below bW (p := ⟨w.heap.size + 1, 0, none⟩) (by show w.heap.size + 1 < wr.heap.size; omega) z0
              have z1 := cell_below bW (p := ⟨w.heap.size + 1, 1, none⟩) (by show w.heap.size + 1 < wr.heap.size; omega) z1
              have kZW := kZ.below bW (by omega)
              have g0 := kZW.frozen 0
              have g1 := kZW.frozen 1
              have p0 := cell_below bW (p := ⟨w5.heap.size + 1, 0, none⟩) lB p0
              have p1 := cell_below bW (p := ⟨w5.heap.size + 1, 1, none⟩) lB p1
              go_wp2
              obtain ⟨wW, hW⟩ : ∃ wW, wW = w7.alloc (.cells #[.int .i64 (ix (stAt s rs (k + 1)) 0), .int .i64 (ix (stAt s rs (k + 1)) 1), .int .i64 (ix (stAt s rs (k + 1)) 2), .int .i64 (ix (stAt s rs (k + 1)) 3), .int .i64 (ix (stAt s rs (k + 1)) 4), .int .i64 (stAt s rs (k + 1)).length] 84) := ⟨_, rfl⟩
              have kM : Blk wW w7.heap.size 84 (ptC (stAt s rs (k + 1))) := by rw [hW]; exact Blk.new w7 (ptC (stAt s rs (k + 1))).toArray _
              rw [← hW] at bW z0 z1 kZW g0 g1 p0 p1 ⊢
              have lM := kM.lt
              have lBW := Nat.lt_of_lt_of_le lB bW.size
              obtain ⟨m0, m1, m2, m3', m4, m5⟩ := pt_cells kM
              have LW := Lib.hid (HL.out.below bW)
              have IW := Lib.hid (HI.out.below bW)
              have kBW := kB.below bW lB
              have kPW := kP.below bW kP.lt
              have hbW := hb.trans (bW.mono lx)
              have lMW : w.heap.size + 2 ≤ wW.heap.size := Nat.le_trans lx bW.size
              have s67 : wr.heap.size ≤ w7.heap.size := Nat.le_trans b6.size b7.size
              clear hW
              have nSo : w5.heap.size + 1 ∉ fS := fun hm => (HD.out.1 _ hm).1 rfl
              have nSa : w4.heap.size ∉ fS := fun hm => (HD.out.1 _ hm).2.1 rfl
              have nSm : w7.heap.size ∉ fS := fun hm => by have := (HL.out.lt _ hm).2; have := b6.size; have := b7.size; omega
              have nRm : w7.heap.size ∉ fR := fun hm => by have := (HI.out.lt _ hm).2; have := b6.size; have := b7.size; omega
              go_region_law (first
                | (go_simp; go_at_call 61; refine (LC2.out _).mono ?_; rintro e w8 ⟨v8, rfl, o8, b8⟩; have p08 := cell_below b8 (p := ⟨w5.heap.size + 1, 0, none⟩) lBW p0; have p08a := fun o => cell_below (below_alloc w8 o) (Nat.lt_of_lt_of_le lBW b8.size) p08; obtain ⟨A8, c8, rfl, _, _⟩ := own_form o8; obtain ⟨fq, om, nq, loq'⟩ := mem_ints o8 (Nat.le_trans hst5.out (by unfold maxLen; omega)); have loq : ∀ b ∈ fq, wW.heap.size ≤ b := loq'; have bd8 : Below wW.heap.size wW w8 := ⟨b8.os, b8.tape, b8.output, b8.size, b8.block⟩; have OM8 := Lib.hid (fun o => Mem.own_below om (below_alloc w8 o)); have BW8 := Lib.hid (fun o => bd8.trans ((below_alloc w8 o).mono bd8.size)); have sd8 : ∀ o, (w8.alloc o).heap.size = w8.heap.size + 1 := fun o => World.size_alloc _ _)
                | (refine step_ll rfl _ _ rfl rfl LW.out (BW8.out _) (OM8.out _) nq loq rfl (World.cell?_alloc_at _ _ _ _ rfl) (by omega) (by have := lMW; omega) ?_; intro A9 c9 w9 f9 l9 on9 in9; have kB9 := Blk.only ((kBW.below bd8 lBW).alloc _) on9 nSo; have q90 := kB9.cell 0; have g90 := kB9.frozen 0; simp only [List.getElem?_cons_zero] at q90))
              all_goals
                have hs8 := bd8.size
                have kM9 := Blk.only ((kM.below bd8 lM).alloc _) on9 nSm
                have kP9 := Blk.only ((kPW.below bd8 (by have := lMW; have := kPW.lt; omega)).alloc _) on9 nSa
                have I9 := Lib.hid (((IW.out.below bd8).below (below_alloc w8 _)).only on9 fun b hbR hm => (HD.out.1 b hm).2.2 hbR)
                have k9 := ((hbW.trans (bd8.mono lMW)).alloc (by omega) _).trans (on9.below (B := w.heap.size + 2) (by rw [sd8]; omega) fun b hb9 => (HL.out.lt b hb9).1)
                have HD9 := Lib.hid (show ∀ b ∈ f9, b ≠ w5.heap.size + 1 ∧ b ≠ w4.heap.size ∧ b ∉ fR from fun b hb9 => by
                  rcases in9 b hb9 with h | h | h
                  · exact HD.out.1 b h
                  · have := loq b h
                    exact ⟨by omega, by omega, fun hm => by have := (HI.out.lt b hm).2; have := bW.size; omega⟩
                  · rw [sd8] at h
                    exact ⟨by omega, by omega, fun hm => by have := (HI.out.lt b hm).2; have := bW.size; omega⟩)
                obtain ⟨wt, hwt⟩ : ∃ wt, wt = w9.setCell ⟨w5.heap.size + 1, 0, none⟩ (.slice A9 (k + 1 + 1) c9) := ⟨_, rfl⟩
                have on10 : Only [w5.heap.size + 1] w9 wt := by rw [hwt]; exact set_only w9 _ 0 _
                have kBt : Blk wt (w5.heap.size + 1) 53 [.slice A9 (k + 1 + 1) c9, .slice AR k cR] := by rw [hwt]; exact kB9.set 0 _
                have kMt := Blk.only kM9 on10 (by simp; omega)
                have kPt := Blk.only kP9 on10 (by simp; omega)
                have Lt := Lib.hid (l9.only on10 fun b hb9 hm => (HD9.out b hb9).1 (by simpa using hm))
                have It := Lib.hid (I9.out.only on10 fun b hbR hm => HD.out.2.1 (by simp at hm; rw [← hm]; exact hbR))
                have kt : Below (w.heap.size + 2) (repW w (.slice A1 n1 c1) (.slice A2 n2 c2)) wt := by rw [hwt]; exact k9.setCell (by show w.heap.size + 2 ≤ w5.heap.size + 1; omega) _
                first | rw [← hwt] | skip
                have p1t := kBt.cell 1
                simp only [List.getElem?_cons_zero, List.getElem?_cons_succ] at p1t
                have st : w.heap.size + 2 ≤ wt.heap.size := by have := kt.size; rw [repW_size] at this; exact this
                have Itd := Lib.hid (fun o => IL.below It.out (below_alloc wt o))
                have lBt := kBt.lt
                have nMB : w7.heap.size ∉ [w5.heap.size + 1] := by simp; omega
                have nAB : w4.heap.size ∉ [w5.heap.size + 1] := by simp; omega
                clear hwt on10 kB9 kM9 kP9 q90 g90 l9 on9 in9 p0 p1 p08 p08a m0 m1 m2 m3' m4 m5 z0 z1 g0 g1
                go_wp2_with (first
                  | (at_builtin; go_loud (refine app_il rfl _ _ rfl rfl (Itd.out _) rfl (World.cell?_alloc_at _ _ _ _ rfl) (by omega) (by rw [World.size_alloc]; omega) ?_; intro v12 w12 f12 l12 on12 in12; obtain ⟨A12, c12, rfl⟩ := row_slice l12.1; have kB12 := Blk.only (kBt.alloc _) on12 HD.out.2.1; have q121 := kB12.cell 1; have g121 := kB12.frozen 1; simp only [List.getElem?_cons_zero, List.getElem?_cons_succ] at q121; have on13 := set_only w12 (w5.heap.size + 1) 1 (.slice A12 (k + 1) c12); have kM13 := Blk.only (Blk.only (kMt.alloc _) on12 nRm) on13 nMB; have kP13 := Blk.only (Blk.only (kPt.alloc _) on12 HD.out.2.2) on13 nAB; obtain ⟨a0, a1, a2, a3, a4, a5⟩ := pt_cells kM13; obtain ⟨d0', d1', d2', d3', d4', d5'⟩ := pt_cells kP13; obtain ⟨e0, e1, e2, e3, e4, e5⟩ := six_frozen kP13)))
                have sdt : ∀ o, (wt.alloc o).heap.size = wt.heap.size + 1 := fun o => World.size_alloc _ _
                have kB13 := kB12.set 1 (.slice A12 (k + 1) c12)
                have on14 := six_only w4.heap.size (w12.setCell ⟨w5.heap.size + 1, 1, none⟩ (.slice A12 (k + 1) c12)) (.int .i64 (ix (stAt s rs (k + 1)) 0)) (.int .i64 (ix (stAt s rs (k + 1)) 1)) (.int .i64 (ix (stAt s rs (k + 1)) 2)) (.int .i64 (ix (stAt s rs (k + 1)) 3)) (.int .i64 (ix (stAt s rs (k + 1)) 4)) (.int .i64 (stAt s rs (k + 1)).length)
                have H12 : ∀ b ∈ f12, b ∈ fR ∨ b = wt.heap.size + 1 := fun b hb' => by
                  rcases in12 b hb' with h | h
                  · exact .inl h
                  · rw [sdt] at h; exact .inr h
                have nb12 : w5.heap.size + 1 ∉ f12 := fun hm => by
                  rcases H12 _ hm with h | h
                  · exact HD.out.2.1 h
                  · omega
                have na12 : w4.heap.size ∉ f12 := fun hm => by
                  rcases H12 _ hm with h | h
                  · exact HD.out.2.2 h
                  · omega
                have L14 := Lib.hid ((((Lt.out.below (below_alloc wt _)).only on12 fun b hb' => (HD9.out b hb').2.2).only on13 fun b hb' hm => (HD9.out b hb').1 (by simpa using hm)).only on14 fun b hb' hm => (HD9.out b hb').2.1 (by simpa using hm))
                have I14 := Lib.hid ((l12.only on13 fun b hb' hm => nb12 (by simp at hm; rw [← hm]; exact hb')).only on14 fun b hb' hm => na12 (by simp at hm; rw [← hm]; exact hb'))
                have k14 := six_below6 (g := w4.heap.size) (a := .int .i64 (ix (stAt s rs (k + 1)) 0)) (b := .int .i64 (ix (stAt s rs (k + 1)) 1)) (c := .int .i64 (ix (stAt s rs (k + 1)) 2)) (d := .int .i64 (ix (stAt s rs (k + 1)) 3)) (e := .int .i64 (ix (stAt s rs (k + 1)) 4)) (f := .int .i64 (stAt s rs (k + 1)).length) lx4 (((kt.alloc st _).trans (on12.below (B := w.heap.size + 2) (by rw [sdt]; omega) fun b hb' => (HI.out.lt b hb').1)).setCell (p := ⟨w5.heap.size + 1, 1, none⟩) (by show w.heap.size + 2 ≤ w5.heap.size + 1; omega) (.slice A12 (k + 1) c12))
                have HD14 := Lib.hid (show (∀ b ∈ f9, b ≠ w5.heap.size + 1 ∧ b ≠ w4.heap.size ∧ b ∉ f12) ∧ w5.heap.size + 1 ∉ f12 ∧ w4.heap.size ∉ f12 from ⟨fun b hb' => ⟨(HD9.out b hb').1, (HD9.out b hb').2.1, fun hm => by
                  rcases H12 b hm with h | h
                  · exact (HD9.out b hb').2.2 h
                  · have := (Lt.out.lt b hb').2; omega⟩, nb12, na12⟩)
                go_roundg (n3 - (k + 1))
                case measure => omega
                case rel =>
                  exact ⟨k + 1, _, _, f9, f12, by omega, by go_num, ROn, by rw [states_succ]; exact L14, by rw [take_el (by omega)]; exact I14, Blk.only kB13 on14 (by simp; omega), (((((kP13.set 0 _).set 1 _).set 2 _).set 3 _).set 4 _).set 5 _, HD14, k14⟩
        · obtain rfl : k = n3 := by omega
          have EK : Hid (repN s rs k = k) := Lib.hid (rep_all RO.out)
          clear kP kB kZ
          go_wp2
          go_region
          go_wp2_with fail
          refine bodyPost_ret (v := .tuple #[.agg #[.slice AS (k + 1) cS, .slice AR k cR], .int .i64 k]) (by simp [results, Try.results35, go_sem, z0, z1]) rfl ?_
          rw [E.out.1, E.out.2.1, E.out.2.2, EK.out]
          exact rep_drew (rep_fin (W := wr) B HL.out HI.out hkm (by unfold maxLen; omega) fun b hb => (HD.out.1 b hb).2.2)
  · have q : repOk s rs = false := by unfold repOk; rw [L3, decide_eq_false h5]; simp
    have E : Hid (F = [] ∧ G = [] ∧ N = 0) := Lib.hid (by rw [hF, hG, hN]; unfold repS repR repK; rw [q]; exact ⟨rfl, rfl, rfl⟩)
    have b2 : Below (w.heap.size + 2) (repW w (.slice A1 n1 c1) (.slice A2 n2 c2)) (repW w (.slice A1 n1 c1) (.slice A2 n2 c2)) := Below.refl _ _
    obtain ⟨B2, _, kZ, _⟩ := BX.out _ b2
    have z0 := kZ.cell 0
    have z1 := kZ.cell 1
    have f0 := kZ.frozen 0
    have f1 := kZ.frozen 1
    simp only [List.getElem?_cons_zero, List.getElem?_cons_succ] at z0 z1
    have B3 : Below w.heap.size w (repW w (.slice A1 n1 c1) (.slice A2 n2 c2)) := B2
    clear kZ hF hG hN b2 SV B2
    unfold repW at z0 z1 f0 f1 B3
    go_enter Try.func35, Try.ntmps35
    go_wp2_with fail
    refine bodyPost_ret (v := .tuple #[.agg #[.slice none 0 0, .slice none 0 0], .int .i64 0]) (by simp [results, Try.results35, go_sem, z0, z1]) rfl ?_
    rw [E.out.1, E.out.2.1, E.out.2.2]
    refine ⟨none, 0, 0, none, 0, 0, [], [], rfl, own_none2 _, own_none _, List.nodup_nil, by simp, ?_⟩
    first
      | exact B3
      | exact (B3.setCell (by show w.heap.size ≤ w.heap.size + 1; omega) _).setCell (by show w.heap.size ≤ w.heap.size + 1; omega) _

theorem sumTo_bound {f : Nat → Nat} {b : Nat} (n : Nat) (h : ∀ k, k < n → f k ≤ b) : sumTo f n ≤ n * b := by
  induction n with
  | zero => simp [sumTo]
  | succ n ih => have := ih fun k hk => h k (by omega); have := h n (by omega); show sumTo f n + f n ≤ (n + 1) * b; rw [Nat.succ_mul]; omega
theorem repS_sz (s : Sy) (rs : List Int) : szII (repS s rs) ≤ 1048576 := by
  unfold repS
  cases h : repOk s rs
  · simp [szII, sumTo]
  · rw [if_pos rfl]
    unfold repOk at h
    rw [Bool.and_eq_true, decide_eq_true_eq] at h
    have ok := sysOk_of h.1
    have hN := rep_le s rs rs.length
    unfold szII
    rw [states_len]
    have := sumTo_bound (f := fun i => (el (statesTo s rs (repN s rs rs.length)) i).length) (b := 5) (repN s rs rs.length + 1) fun k hk => by
      show (el (statesTo s rs (repN s rs rs.length)) k).length ≤ 5
      rw [states_at s rs (by omega)]
      have hr : ∀ d k, runOk s rs (k + d) = true → runOk s rs k = true := by
        intro d
        induction d with
        | zero => intro k h; exact h
        | succ d ih => intro k h; exact ih k (run_less h)
      have := has_len (stAt_has ok (hr (repN s rs rs.length - k) k (by rw [show k + (repN s rs rs.length - k) = repN s rs rs.length by omega]; exact run_rep s rs _)))
      have := ok.hi
      omega
    omega
theorem repR_len (s : Sy) (rs : List Int) : (repR s rs).length ≤ 1000000 := by
  unfold repR
  cases h : repOk s rs
  · simp
  · unfold repOk at h
    rw [Bool.and_eq_true, decide_eq_true_eq] at h
    rw [if_pos rfl, List.length_take]; omega
end Go.Proofs.Ytpaagplopefklaa
