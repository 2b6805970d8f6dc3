/- Replay of the model. -/
import Derived.Test.YtpaagplopefklaaRep
import Derived.Test.YtpaagplopefklaaIl
import Derived.Deep.RegionHeld3
import Derived.Deep.RegionLaw
import Derived.Deep.AppendLies
namespace Go.Proofs.Ytpaagplopefklaa
open Go.RowKit

/-- The boxes of 'Replay': a system, a run that is nil. -/
def repW (w : World) (v1 v2 : Value) : World := (w.alloc (.cells #[v1, v2] 31)).alloc (.cells #[.slice none 0 0, .slice none 0 0] 53)
theorem repW_size (w : World) (v1 v2 : Value) : (repW w v1 v2).heap.size = w.heap.size + 2 := by unfold repW; simp
theorem rep_b {w : World} {v1 v2 : Value} {W : World} (h : Below (repW w v1 v2).heap.size (repW w v1 v2) W) : Below (w.heap.size + 2) (repW w v1 v2) W := by rw [repW_size] at h; exact h
theorem repW_below (w : World) (v1 v2 : Value) : Below w.heap.size w (repW w v1 v2) := ((Below.refl w.heap.size w).alloc (Nat.le_refl _) _).alloc (by simp) _
theorem repW_box {w : World} {v1 v2 : Value} {W : World} (hW : Below (w.heap.size + 2) (repW w v1 v2) W) :
    Below w.heap.size w W ∧ (W.cell? ⟨w.heap.size, 0, none⟩ = some v1 ∧ W.cell? ⟨w.heap.size, 1, none⟩ = some v2) ∧ Blk W (w.heap.size + 1) 53 [.slice none 0 0, .slice none 0 0] ∧ w.heap.size + 2 ≤ W.heap.size := by
  have hs : w.heap.size + 2 ≤ W.heap.size := by have := hW.size; rw [repW_size] at this; exact this
  have k0 : Blk (repW w v1 v2) w.heap.size 31 [v1, v2] := (Blk.new w _ _).alloc _
  have k1 : Blk (repW w v1 v2) (w.heap.size + 1) 53 [.slice none 0 0, .slice none 0 0] := by
    have := Blk.new (w.alloc (.cells #[v1, v2] 31)) #[.slice none 0 0, .slice none 0 0] 53
    rw [World.size_alloc] at this
    exact this
  have j0 := k0.below hW (by omega)
  exact ⟨(repW_below w v1 v2).trans (hW.mono (by omega)), ⟨j0.cell 0, j0.cell 1⟩, k1.below hW (by omega), hs⟩
theorem set_only (W : World) (g o : Nat) (u : Value) : Only [g] W (W.setCell ⟨g, o, none⟩ u) :=
  ⟨rfl, rfl, rfl, by simp [World.setCell], fun k _ hk => setCell_heap W ⟨g, o, none⟩ u (fun e => hk (by simp [e]))⟩
theorem own_none2 (w : World) : Mem.own w [] [.slice none 0 0] ([] : List (List Int)) := ⟨none, 0, 0, rfl, Nat.zero_le _, rfl, .inl ⟨rfl, rfl⟩⟩
theorem inS_one : Try.prog.info? 35 = some inSRow ∧ inSRow.zero = some (.slice none 0 0) ∧ inSRow.size = 1 ∧ inSRow.bytes = 24 := inS_row

theorem drew_below (W : World) (n : Nat) : Below W.heap.size W (W.drewN n) := ⟨rfl, rfl, rfl, Nat.le_refl _, fun _ _ => rfl⟩
theorem LL.nd {w : World} {base k : Nat} {e : TypeId} {v : Value} {L : List (List Int)} {fp : List Nat} (h : LL w base e v k L fp) : fp.Nodup := h.2.1
/-- A row of one slice, as it stands in the text. -/
theorem LL.one {W : World} {base n c : Nat} {e : TypeId} {A : Option Addr} {l : List Int} {fq : List Nat} (o : Mem.own W fq [.slice A n c] l) (nq : fq.Nodup) (lo : ∀ b ∈ fq, base ≤ b) (hb : base ≤ W.heap.size) :
    LL (W.alloc (.cells #[.slice A n c] e)) base e (.slice (some ⟨W.heap.size, 0, none⟩) 1 1) 1 [l] (W.heap.size :: fq) := by
  have ho := World.ownsRow_lit (base := base) (e := e) (size := 1) W #[.slice A n c] 1 hb (by unfold maxLen; omega) rfl
  have hlt := Mem.own_lt o
  refine ⟨rfl, List.nodup_cons.2 ⟨fun hm => by have := hlt _ hm; omega, nq⟩, fun _ => [.slice A n c], fun _ => fq, by simpa [cat] using ho, fun i hi => ?_, by simp [cat, bl, Value.ownBlock], fun b hm => ?_⟩
  · obtain rfl : i = 0 := by omega
    exact Mem.own_below o (below_alloc W _)
  · rcases List.mem_cons.1 hm with rfl | hm
    · exact hb
    · exact lo b hm
/-- What Replay hands out. -/
theorem rep_fin {w W : World} {e e' : TypeId} {vS vR a b : Value} {k k' : Nat} {L : List (List Int)} {l : List Int} {fS fR : List Nat} {z : Int} (hb : Below w.heap.size w W) (h : LL W (w.heap.size + 2) e vS k L fS) (h' : IL W (w.heap.size + 2) e' vR k' l fR) (hk : k ≤ maxLen) (hk' : k' ≤ maxLen) (hd : ∀ b ∈ fS, b ∉ fR) :
    GivesTrI w L l z (.returned (.tuple #[.agg #[vS, vR], .int .i64 z])) ((W.setCell ⟨w.heap.size + 1, 0, none⟩ a).setCell ⟨w.heap.size + 1, 1, none⟩ b) := by
  have lS := h.lt
  have lR := h'.lt
  have o2 := (set_only W (w.heap.size + 1) 0 a).trans (set_only _ (w.heap.size + 1) 1 b)
  have h2 := (h.only o2 fun b hm hm2 => by have := (lS b hm).1; simp at hm2; omega).out hk
  obtain ⟨h3, nR⟩ := (h'.only o2 fun b hm hm2 => by have := (lR b hm).1; simp at hm2; omega).out hk'
  obtain ⟨A, c, rfl⟩ := row_slice h.2.2.choose_spec.choose_spec.1
  obtain ⟨A', c', rfl⟩ := row_slice h'.1
  refine ⟨A, _, c, A', _, c', fS, fR, rfl, h2, h3, List.nodup_append.2 ⟨h.nd, nR, fun x hx y hy e => by subst e; exact hd x hx hy⟩, fun x hx => ?_, (hb.setCell (by show w.heap.size ≤ w.heap.size + 1; omega) _).setCell (by show w.heap.size ≤ w.heap.size + 1; omega) _⟩
  rcases List.mem_append.1 hx with hx | hx
  · have := (lS x hx).1; omega
  · have := (lR x hx).1; omega

set_option maxRecDepth 100000 in
set_option maxHeartbeats 8000000 in
theorem replay_spec (s : Sy) (rs : List Int) (A1 : Option Addr) (n1 c1 : Nat) (A2 : Option Addr) (n2 c2 : Nat) (A3 : Option Addr) (n3 c3 : Nat) (w : World) (h1 : Mem.rd w w.heap.size [.slice A1 n1 c1] s.vars) (h2 : Mem.rd w w.heap.size [.slice A2 n2 c2] s.rules) (h3 : Mem.rd w w.heap.size [.slice A3 n3 c3] rs) :
    Calls Try.prog 34 #[.agg #[.slice A1 n1 c1, .slice A2 n2 c2], .slice A3 n3 c3] w (GivesTrI w (repS s rs) (repR s rs) (repK s rs)) := by
  have BX := Lib.hid (fun W hW => repW_box (w := w) (v1 := .slice A1 n1 c1) (v2 := .slice A2 n2 c2) (W := W) hW)
  have bW := repW_below w (.slice A1 n1 c1) (.slice A2 n2 c2)
  have SV := Lib.hid (sysValid_spec s A1 n1 c1 A2 n2 c2 (repW w (.slice A1 n1 c1) (.slice A2 n2 c2)) (Mem.rd_on h1 bW) (Mem.rd_on h2 bW))
  have L2 := rd_len h2
  have L3 := rd_len h3
  have m3 := rd_max h3
  unfold maxLen at m3
  obtain ⟨F, hF⟩ : ∃ F, F = repS s rs := ⟨_, rfl⟩
  obtain ⟨G, hG⟩ : ∃ G, G = repR s rs := ⟨_, rfl⟩
  obtain ⟨N, hN⟩ : ∃ N, N = repK s rs := ⟨_, rfl⟩
  rw [← hF, ← hG, ← hN]
  cases hz : sysB s
  · have q : repOk s rs = false := by unfold repOk; rw [hz]; rfl
    have E : Hid (F = [] ∧ G = [] ∧ N = 0) := Lib.hid (by rw [hF, hG, hN]; unfold repS repR repK; rw [q]; exact ⟨rfl, rfl, rfl⟩)
    have HZ := Lib.hid hz; clear hz hF hG hN
    unfold repW at SV
    go_enter Try.func34, Try.ntmps34
    go_wp2_with fail
    refine SV.out.mono ?_
    rintro e w2 ⟨rfl, b2⟩
    rw [HZ.out]
    have b2 := rep_b (w := w) (v1 := .slice A1 n1 c1) (v2 := .slice A2 n2 c2) b2
    obtain ⟨B2, ⟨x0, x1⟩, kZ, lx⟩ := BX.out _ b2
    have z0 := kZ.cell 0
    have z1 := kZ.cell 1
    have f0 := kZ.frozen 0
    have f1 := kZ.frozen 1
    simp only [List.getElem?_cons_zero, List.getElem?_cons_succ] at z0 z1
    clear kZ
    go_wp2_with fail
    refine bodyPost_ret (v := .tuple #[.agg #[.slice none 0 0, .slice none 0 0], .int .i64 0]) (by simp [results, Try.results34, go_sem, z0, z1]) rfl ?_
    rw [E.out.1, E.out.2.1, E.out.2.2]
    refine ⟨none, 0, 0, none, 0, 0, [], [], rfl, own_none2 _, own_none _, List.nodup_nil, by simp, ?_⟩
    exact (B2.setCell (by show w.heap.size ≤ w.heap.size + 1; omega) _).setCell (by show w.heap.size ≤ w.heap.size + 1; omega) _
  · by_cases h5 : n3 < 500
    · have ok := sysOk_of hz
      have q : repOk s rs = true := by unfold repOk; rw [hz, L3, decide_eq_true h5]; rfl
      have E : Hid (F = statesTo s rs (repN s rs n3) ∧ G = rs.take (repN s rs n3) ∧ N = repN s rs n3) := Lib.hid (by rw [hF, hG, hN]; unfold repS repR repK; rw [q, L3]; exact ⟨rfl, rfl, rfl⟩)
      have FC := Lib.hid (fun W (B : Below w.heap.size w W) => first_spec s A1 n1 c1 A2 n2 c2 W (Mem.rd_on h1 B) (Mem.rd_on h2 B))
      have hFB : firstB s = firsts s.vars := by unfold firstB; rw [hz]; rfl
      rw [hFB] at FC
      have fl := firsts_len s.vars
      have hv5 := ok.hi
      have hmo := ok.most
      have UC := Lib.hid (fun k (hr : runOk s rs k = true) r (hk : r < s.rules.length) A n c W (B : Below w.heap.size w W) (h : Mem.rd W W.heap.size [.slice A n c] (stAt s rs k)) => l2Use_any s (stAt s rs k) r A1 n1 c1 A2 n2 c2 A n c W (Mem.rd_on h1 B) (Mem.rd_on h2 B) h ok (stAt_has ok hr) hk)
      have hn2 : n2 ≤ 8 := by omega
      have HZ := Lib.hid hz; clear hz hF hG hN hFB
      obtain ⟨nv, hnv⟩ : ∃ nv, nv = (firsts s.vars).length := ⟨_, rfl⟩
      have HNV := Lib.hid hnv
      clear hnv
      unfold repW at SV
      go_enter Try.func34, Try.ntmps34
      go_wp2_with fail
      refine SV.out.mono ?_
      rintro e w2 ⟨rfl, b2⟩
      rw [HZ.out]
      have b2 := rep_b (w := w) (v1 := .slice A1 n1 c1) (v2 := .slice A2 n2 c2) b2
      obtain ⟨B2, ⟨x0, x1⟩, kZ, lx⟩ := BX.out _ b2
      clear kZ
      go_wp2_with fail
      refine (FC.out _ B2).mono ?_
      rintro e w3 ⟨v3, rfl, o3, b3⟩
      rw [← HNV.out] at o3
      obtain ⟨A0, c0, rfl, _, _⟩ := own_form o3
      have b23 := b2.trans (b3.mono lx)
      obtain ⟨B3, ⟨y0, y1⟩, kZ, lx3⟩ := BX.out _ b23
      clear kZ x0 x1
      obtain ⟨f0, om0, nd0, lo0⟩ := mem_ints (l := firsts s.vars) (by rw [← HNV.out]; exact o3) (by unfold maxLen; omega)
      rw [← HNV.out] at om0
      have hLL0 := LL.one (base := w.heap.size + 2) (e := 35) om0 nd0 (fun b hb => Nat.le_trans lx (lo0 b hb)) lx3
      have hLL1 := hLL0.below (below_alloc _ (.cells #[.slice (some ⟨w3.heap.size, 0, none⟩) 1 1, .slice none 0 0] 53))
      have hiS := Mem.own_lt om0
      have kB := Blk.new (w3.alloc (.cells #[.slice A0 nv c0] 35)) #[.slice (some ⟨w3.heap.size, 0, none⟩) 1 1, .slice none 0 0] 53
      rw [World.size_alloc] at kB
      have bQ := (b23.alloc lx3 (.cells #[.slice A0 nv c0] 35)).alloc (by rw [World.size_alloc]; omega) (.cells #[.slice (some ⟨w3.heap.size, 0, none⟩) 1 1, .slice none 0 0] 53)
      have h3' := (rd_ints.1 h3).2
      clear hLL0 o3
      go_wp2
      go_loopg [7, 8] n3 (fun m i nx wr => ∃ (k : Nat) (vS vR : Value) (fS fR : List Nat), k + m = n3 ∧ i = .int .i64 k ∧ Hid (runOk s rs k = true) ∧ Hid (LL wr (w.heap.size + 2) 35 vS (k + 1) (statesTo s rs k) fS) ∧ Hid (IL wr (w.heap.size + 2) 3 vR k (rs.take k) fR) ∧ Blk wr (w3.heap.size + 1) 53 [vS, vR] ∧
        Hid ((∀ b ∈ fS, b ≠ w3.heap.size + 1 ∧ b ∉ fR) ∧ w3.heap.size + 1 ∉ fR) ∧ Below (w.heap.size + 2) (repW w (.slice A1 n1 c1) (.slice A2 n2 c2)) wr)
      case atStart => exact ⟨0, _, _, w3.heap.size :: f0, [], by omega, rfl, Lib.hid rfl, Lib.hid hLL1, Lib.hid (IL.nil _ _ _), kB, Lib.hid ⟨fun b hb => ⟨by rcases List.mem_cons.1 hb with rfl | hb; omega; have := hiS b hb; omega, by simp⟩, by simp⟩, bQ⟩
      case round =>
        clear hLL1 kB bQ y0 y1
        obtain ⟨k, vS, vR, fS, fR, hk, rfl, RO, HL, HI, kB, HD, hb⟩ := hrel
        obtain ⟨B, ⟨x0, x1⟩, kZ, lx⟩ := BX.out _ hb
        have p0 := kB.cell 0
        have p1 := kB.cell 1
        have z0 := kZ.cell 0
        have z1 := kZ.cell 1
        have g0 := kZ.frozen 0
        have g1 := kZ.frozen 1
        simp only [List.getElem?_cons_zero, List.getElem?_cons_succ] at p0 p1 z0 z1
        have lB := kB.lt
        have hkm : k + 1 ≤ maxLen := by unfold maxLen; omega
        by_cases hlt : k < n3
        · obtain ⟨ad3, rfl, hbl3, d3⟩ := (h3'.below B).int hlt
          cases hr : ruleIn s (ix rs k)
          · have HR : Hid (inB (ix rs k) 0 (n2 - 1) = false) := Lib.hid (by rw [← hr]; unfold inB ruleIn; rw [L2]; congr 1; rw [decide_eq_decide]; omega)
            have EK : Hid (repN s rs n3 = k) := Lib.hid (run_stop RO.out (by unfold stepOk; rw [hr]; rfl) hlt).2
            go_wp2
            go_quiet ((go_at_call 43; exact Calls.quiet_of_same ((l1In_any _ _ _ _).mono fun _ _ h => ⟨h.1.trans (by rw [HR.out]), h.2.symm⟩)))
            obtain ⟨AS, cS, rfl⟩ := row_slice HL.out.2.2.choose_spec.choose_spec.1
            obtain ⟨AR, cR, rfl⟩ := row_slice HI.out.1
            have hL := HL.out.below (drew_below wr nq)
            have hI := HI.out.below (drew_below wr nq)
            have hB := B.trans ((drew_below wr nq).mono B.size)
            have z0 : (wr.drewN nq).cell? ⟨w.heap.size + 1, 0, none⟩ = some (.slice none 0 0) := z0
            have z1 : (wr.drewN nq).cell? ⟨w.heap.size + 1, 1, none⟩ = some (.slice none 0 0) := z1
            go_wp2_with fail
            refine bodyPost_ret (v := .tuple #[.agg #[.slice AS (k + 1) cS, .slice AR k cR], .int .i64 k]) (by simp [results, Try.results34, go_sem, z0, z1]) rfl ?_
            rw [E.out.1, E.out.2.1, E.out.2.2, EK.out]
            exact rep_fin hB hL hI hkm (by unfold maxLen; omega) fun b hb => (HD.out.1 b hb).2
          · have HR : Hid (inB (ix rs k) 0 (n2 - 1) = true) := Lib.hid (by rw [← hr]; unfold inB ruleIn; rw [L2]; congr 1; rw [decide_eq_decide]; omega)
            go_wp2
            go_quiet ((go_at_call 43; exact Calls.quiet_of_same ((l1In_any _ _ _ _).mono fun _ _ h => ⟨h.1.trans (by rw [HR.out]), h.2.symm⟩)))
            obtain ⟨rk, hrk, hrk2⟩ := ruleIn_at hr
            obtain ⟨wq, hwq⟩ : ∃ wq, wq = wr.drewN nq := ⟨_, rfl⟩
            rw [← hwq]
            have bq : Below wr.heap.size wr wq := by rw [hwq]; exact drew_below wr nq
            have hL := HL.out.below bq
            have hI := HI.out.below bq
            have hb := hb.trans (bq.mono lx)
            have kB := kB.below bq lB
            have d3 := cell_below bq (p := ad3.add k) (by rw [add_block]; exact Nat.lt_of_lt_of_le hbl3 B.size) d3
            have hbl3' : (ad3.add k).block < wq.heap.size := by rw [add_block]; exact Nat.lt_of_lt_of_le hbl3 (Nat.le_trans B.size bq.size)
            clear hwq bq x0 x1 kZ p0 p1 z0 z1 g0 g1 B lx lB HL HI
            obtain ⟨B, ⟨x0, x1⟩, kZ, lx⟩ := BX.out _ hb
            have p0 := kB.cell 0
            have p1 := kB.cell 1
            have z0 := kZ.cell 0
            have z1 := kZ.cell 1
            have g0 := kZ.frozen 0
            have g1 := kZ.frozen 1
            simp only [List.getElem?_cons_zero, List.getElem?_cons_succ] at p0 p1 z0 z1
            have lB := kB.lt
            obtain ⟨AR, cR, rfl⟩ := row_slice hI.1
            obtain ⟨g, cS, A4, n4, c4, rfl, hce, hrd⟩ := hL.at (show k < k + 1 by omega)
            rw [states_at _ _ (Nat.le_refl _)] at hrd
            have HL := Lib.hid hL
            have HI := Lib.hid hI
            have lg : g < wq.heap.size := (hL.lt g (by rw [hL.2.2.choose_spec.choose_spec.2.2.1]; simp [bl, Value.ownBlock])).2
            rw [hrk] at d3
            have UK := Lib.hid (UC.out k RO.out rk hrk2 A4 n4 c4 wq.drew (B.trans ⟨rfl, rfl, rfl, Nat.le_refl _, fun _ _ => rfl⟩) (Mem.rd_drew hrd))
            have us : useL s (stAt s rs k) rk = stAt s rs (k + 1) := by show _ = useL s (stAt s rs k) (ix rs k).toNat; rw [hrk]; rfl
            have ub : stepOk s (stAt s rs k) (ix rs k) = decide (0 < (stAt s rs (k + 1)).length) := by unfold stepOk; rw [hr, hrk, ← us]; rfl
            rw [us] at UK
            have US := Lib.hid ub
            clear hL hI hrd us ub hr hrk
            have s0 : wq.drew.cell? ⟨w.heap.size, 0, none⟩ = some (.slice A1 n1 c1) := x0
            have s1 : wq.drew.cell? ⟨w.heap.size, 1, none⟩ = some (.slice A2 n2 c2) := x1
            have s2 : wq.drew.cell? ⟨w3.heap.size + 1, 0, none⟩ = some (.slice (some ⟨g, 0, none⟩) (k + 1) cS) := p0
            have s3 : wq.drew.cell? ⟨g, k, none⟩ = some (.slice A4 n4 c4) := hce
            have s4 : wq.drew.cell? (ad3.add k) = some (.int .i64 rk) := d3
            have lw : w.heap.size < wq.heap.size := by omega
            have hkk : k < k + 1 := by omega
            have hki : (k : Int) < (k : Int) + 1 := by omega
            go_wp2
            go_region_held3 (fun w' => w'.cell? ⟨w.heap.size, 0, none⟩ = some (.slice A1 n1 c1) ∧ w'.cell? ⟨w.heap.size, 1, none⟩ = some (.slice A2 n2 c2) ∧ w'.cell? ⟨w3.heap.size + 1, 0, none⟩ = some (.slice (some ⟨g, 0, none⟩) (k + 1) cS) ∧ w'.cell? ⟨g, k, none⟩ = some (.slice A4 n4 c4) ∧ w'.cell? (ad3.add k) = some (.int .i64 rk))
              (first | with_reducible exact ⟨s0, s1, s2, s3, s4⟩ | with_reducible exact ⟨t0, t1, t2, t3, t4⟩ | fail)
              ((go_at_call 57; refine UK.out.mono ?_; rintro e w5 ⟨v5, rfl, o5, b5⟩
                have t0 := cell_below b5 (p := ⟨w.heap.size, 0, none⟩) lw s0
                have t1 := cell_below b5 (p := ⟨w.heap.size, 1, none⟩) lw s1
                have t2 := cell_below b5 (p := ⟨w3.heap.size + 1, 0, none⟩) lB s2
                have t3 := cell_below b5 (p := ⟨g, k, none⟩) lg s3
                have t4 := cell_below b5 (p := ad3.add k) hbl3' s4
                have b5n : Below wq.heap.size wq w5 := ⟨b5.os, b5.tape, b5.output, b5.size, b5.block⟩))
            obtain ⟨q, hq⟩ : ∃ q : Nat, q = (stAt s rs (k + 1)).length := ⟨_, rfl⟩
            have HQ := Lib.hid hq
            rw [← hq] at o5
            obtain ⟨A5, c5, rfl, _, _⟩ := own_form o5
            have hbw := hb.trans (b5n.mono lx)
            have hL5 := Lib.hid (HL.out.below b5n)
            have hI5 := Lib.hid (HI.out.below b5n)
            have kB5 := kB.below b5n lB
            have kZ5 := kZ.below b5n (by omega)
            have B5 := B.trans (b5n.mono B.size)
            have z0 := kZ5.cell 0
            have z1 := kZ5.cell 1
            have g0 := kZ5.frozen 0
            have g1 := kZ5.frozen 1
            have t5 := kB5.cell 1
            simp only [List.getElem?_cons_zero, List.getElem?_cons_succ] at z0 z1 t5
            clear s0 s1 s2 s3 s4 x0 x1 p0 p1 kZ
            by_cases hu : 0 < q
            · obtain ⟨fq, om, nq, loq⟩ := mem_ints (l := stAt s rs (k + 1)) (by rw [← HQ.out]; exact o5) (by
                have := stAt_has ok (k := k + 1) (rs := rs) (by unfold runOk; rw [RO.out, US.out, ← HQ.out]; simp [hu])
                have := has_len this; have := ok.hi; unfold maxLen; omega)
              rw [← HQ.out] at om
              have loq : ∀ b ∈ fq, wq.heap.size ≤ b := loq
              have ROn : Hid (runOk s rs (k + 1) = true) := Lib.hid (by unfold runOk; rw [RO.out, US.out, ← HQ.out]; simp [hu])
              have OM := Lib.hid (fun o => Mem.own_below om (below_alloc w5 o))
              have BW := Lib.hid (fun o => b5n.trans ((below_alloc w5 o).mono b5n.size))
              clear o5 om hq
              go_wp2_with (first
                | (at_builtin; refine app_ll rfl _ _ rfl rfl HL.out (BW.out _) (OM.out _) nq loq rfl (World.cell?_alloc_at _ _ _ _ rfl) (by omega) (by omega) ?_; intro v6 w6 f6 l6 on6 in6
                   obtain ⟨A6, c6, rfl⟩ := row_slice l6.2.2.choose_spec.choose_spec.1
                   have nS : w3.heap.size + 1 ∉ fS := fun hm => (HD.out.1 _ hm).1 rfl
                   have kB6 := Blk.only (kB5.alloc _) on6 nS
                   have q60 := kB6.cell 0
                   have g60 := kB6.frozen 0
                   simp only [List.getElem?_cons_zero] at q60))
              have HD6 := Lib.hid (show ∀ b ∈ f6, b ≠ w3.heap.size + 1 ∧ b ∉ fR from fun b hb6 => by
                rcases in6 b hb6 with h | h | h
                · exact HD.out.1 b h
                · have := loq b h
                  exact ⟨by omega, fun hm => by have := (HI.out.lt b hm).2; omega⟩
                · have hs5 := b5n.size
                  rw [World.size_alloc] at h
                  exact ⟨by omega, fun hm => by have := (HI.out.lt b hm).2; omega⟩)
              have dR : ∀ b ∈ fR, b ∉ fS := fun b hm hm2 => (HD.out.1 b hm2).2 hm
              have I6 := Lib.hid ((hI5.out.below (below_alloc w5 _)).only on6 dR)
              have k6 := (hbw.alloc (by have := b5n.size; omega) _).trans (on6.below (B := w.heap.size + 2) (by rw [World.size_alloc]; have := b5n.size; omega) fun b hb6 => (HL.out.lt b hb6).1)
              have B6 := (BX.out _ k6).1
              obtain ⟨ad', e', hbl', d36⟩ := (h3'.below B6).int hlt
              injection e' with e'
              subst e'
              have lw3 : w.heap.size + 2 ≤ w3.heap.size := lx3
              have hf3 : (ad3.add k).block ≠ w3.heap.size + 1 := by rw [add_block]; omega
              obtain ⟨w7, hw7⟩ : ∃ w7, w7 = w6.setCell ⟨w3.heap.size + 1, 0, none⟩ (.slice A6 (k + 1 + 1) c6) := ⟨_, rfl⟩
              rw [← hw7]
              have kB7 : Blk w7 (w3.heap.size + 1) 53 [.slice A6 (k + 1 + 1) c6, .slice AR k cR] := by rw [hw7]; exact kB6.set 0 _
              have on7 : Only [w3.heap.size + 1] w6 w7 := by rw [hw7]; exact set_only w6 _ 0 _
              have L7 := Lib.hid (l6.only on7 fun b hb6 hm => (HD6.out b hb6).1 (by simpa using hm))
              have I7 := Lib.hid (I6.out.only on7 fun b hbR hm => HD.out.2 (by simp at hm; rw [← hm]; exact hbR))
              have k7 : Below (w.heap.size + 2) (repW w (.slice A1 n1 c1) (.slice A2 n2 c2)) w7 := by rw [hw7]; exact k6.setCell (by show w.heap.size + 2 ≤ w3.heap.size + 1; omega) _
              have d37 : w7.cell? (ad3.add k) = some (.int .i64 (ix rs k)) := by rw [hw7]; exact set_far hf3 d36
              have p71 := kB7.cell 1
              simp only [List.getElem?_cons_zero, List.getElem?_cons_succ] at p71
              have lB7 := kB7.lt
              have sz7 := k7.size
              rw [repW_size] at sz7
              clear hw7 d36 q60 g60 kB6 on6 in6 l6 t0 t1 t2 t3 t4 t5
              have bd7 := fun o => (below_alloc w7 o).trans (show Below w7.heap.size (w7.alloc o) (w7.alloc o).drew from ⟨rfl, rfl, rfl, Nat.le_refl (w7.alloc o).heap.size, fun _ _ => rfl⟩)
              have sd7 : ∀ o, (w7.alloc o).drew.heap.size = w7.heap.size + 1 := fun o => World.size_alloc w7 o
              have I7d := Lib.hid (fun o => IL.below I7.out (bd7 o))
              have p71d : w7.drew.cell? ⟨w3.heap.size + 1, 1, none⟩ = some (.slice AR k cR) := p71
              have d37d : w7.drew.cell? (ad3.add k) = some (.int .i64 (ix rs k)) := d37
              go_region_law (refine step_il rfl _ _ rfl rfl (I7d.out _) rfl (World.cell?_alloc_at _ _ _ _ rfl) (by omega) (by rw [sd7]; omega) ?_; intro A8 c8 w8 f8 l8 on8 in8; have kB8 := Blk.only (kB7.below (bd7 _) lB7) on8 HD.out.2; have q81 := kB8.cell 1; have g81 := kB8.frozen 1; simp only [List.getElem?_cons_zero, List.getElem?_cons_succ] at q81)
              all_goals
                have L8 := (L7.out.below (bd7 _)).only on8 fun b hb6 => (HD6.out b hb6).2
                have on9 := set_only w8 (w3.heap.size + 1) 1 (.slice A8 (k + 1) c8)
                have H8 : ∀ b ∈ f8, b ∈ fR ∨ b = w7.heap.size + 1 := fun b hb8 => by
                  rcases in8 b hb8 with h | h
                  · exact .inl h
                  · rw [sd7] at h; exact .inr h
                have nb8 : w3.heap.size + 1 ∉ f8 := fun hm => by
                  rcases H8 _ hm with h | h
                  · exact HD.out.2 h
                  · omega
                have L9 := Lib.hid (L8.only on9 fun b hb6 hm => (HD6.out b hb6).1 (by simpa using hm))
                have I9 := Lib.hid (l8.only on9 fun b hb8 hm => nb8 (by simp at hm; rw [← hm]; exact hb8))
                have k9 := (k7.trans ((bd7 _).mono sz7)).trans (on8.below (B := w.heap.size + 2) (by rw [sd7]; omega) fun b hb8 => (HI.out.lt b hb8).1)
                have kB9 := kB8.set 1 (.slice A8 (k + 1) c8)
                have HD9 := Lib.hid (show (∀ b ∈ f6, b ≠ w3.heap.size + 1 ∧ b ∉ f8) ∧ w3.heap.size + 1 ∉ f8 from ⟨fun b hb6 => ⟨(HD6.out b hb6).1, fun hm => by
                  rcases H8 b hm with h | h
                  · exact (HD6.out b hb6).2 h
                  · have := (L7.out.lt b hb6).2; omega⟩, nb8⟩)
                go_wp2
                go_roundg (n3 - (k + 1))
                case measure => omega
                case rel =>
                  exact ⟨k + 1, _, _, f6, f8, by omega, by go_num, ROn, by rw [states_succ]; exact L9, by rw [take_el (by omega)]; exact I9, kB9, HD9, k9.setCell (by show w.heap.size + 2 ≤ w3.heap.size + 1; omega) _⟩
            · have EK : Hid (repN s rs n3 = k) := Lib.hid (run_stop RO.out (by rw [US.out, ← HQ.out]; exact decide_eq_false hu) hlt).2
              obtain rfl : q = 0 := by omega
              clear o5 hq
              go_wp2_with fail
              refine bodyPost_ret (v := .tuple #[.agg #[.slice (some ⟨g, 0, none⟩) (k + 1) cS, .slice AR k cR], .int .i64 k]) (by simp [results, Try.results34, go_sem, z0, z1]) rfl ?_
              rw [E.out.1, E.out.2.1, E.out.2.2, EK.out]
              exact rep_fin B5 hL5.out hI5.out hkm (by unfold maxLen; omega) fun b hb => (HD.out.1 b hb).2
        · obtain rfl : k = n3 := by omega
          have EK : Hid (repN s rs k = k) := Lib.hid (rep_all RO.out)
          clear kB kZ
          obtain ⟨AS, cS, rfl⟩ := row_slice HL.out.2.2.choose_spec.choose_spec.1
          obtain ⟨AR, cR, rfl⟩ := row_slice HI.out.1
          go_wp2_with fail
          refine bodyPost_ret (v := .tuple #[.agg #[.slice AS (k + 1) cS, .slice AR k cR], .int .i64 k]) (by simp [results, Try.results34, go_sem, z0, z1]) rfl ?_
          rw [E.out.1, E.out.2.1, E.out.2.2, EK.out]
          exact rep_fin B HL.out HI.out hkm (by unfold maxLen; omega) fun b hb => (HD.out.1 b hb).2
    · have q : repOk s rs = false := by unfold repOk; rw [L3, decide_eq_false h5]; simp
      have E : Hid (F = [] ∧ G = [] ∧ N = 0) := Lib.hid (by rw [hF, hG, hN]; unfold repS repR repK; rw [q]; exact ⟨rfl, rfl, rfl⟩)
      have HZ := Lib.hid hz; clear hz hF hG hN
      unfold repW at SV
      go_enter Try.func34, Try.ntmps34
      go_wp2_with fail
      refine SV.out.mono ?_
      rintro e w2 ⟨rfl, b2⟩
      rw [HZ.out]
      have b2 := rep_b (w := w) (v1 := .slice A1 n1 c1) (v2 := .slice A2 n2 c2) b2
      obtain ⟨B2, ⟨x0, x1⟩, kZ, lx⟩ := BX.out _ b2
      have z0 := kZ.cell 0
      have z1 := kZ.cell 1
      have f0 := kZ.frozen 0
      have f1 := kZ.frozen 1
      simp only [List.getElem?_cons_zero, List.getElem?_cons_succ] at z0 z1
      clear kZ
      go_wp2_with fail
      refine bodyPost_ret (v := .tuple #[.agg #[.slice none 0 0, .slice none 0 0], .int .i64 0]) (by simp [results, Try.results34, go_sem, z0, z1]) rfl ?_
      rw [E.out.1, E.out.2.1, E.out.2.2]
      refine ⟨none, 0, 0, none, 0, 0, [], [], rfl, own_none2 _, own_none _, List.nodup_nil, by simp, ?_⟩
      exact (B2.setCell (by show w.heap.size ≤ w.heap.size + 1; omega) _).setCell (by show w.heap.size ≤ w.heap.size + 1; omega) _
end Go.Proofs.Ytpaagplopefklaa
