/- The search from a set, of the program. -/
import Derived.Test.YtfgjogmgcamfdaaGreatDoorPf
namespace Go.Proofs.YtfgjogmgcamfdaaGreatDoor
open Go.RowKit

theorem srcC_congr {D D' H H' : Nat → Int} {q : Value} (h : ∀ n, n < 400 → D n = D' n) (h' : ∀ n, n < 400 → H n = H' n) : srcC D H q = srcC D' H' q := by
  apply List.ext_getElem?
  intro j
  by_cases hj : j < 801
  · rw [srcC_at _ _ _ hj, srcC_at _ _ _ hj]
    by_cases e : j < 400
    · rw [if_pos e, if_pos e, h j e]
    · rw [if_neg e, if_neg e]
      by_cases e2 : j < 800
      · rw [if_pos e2, if_pos e2, h' _ (by omega)]
      · rw [if_neg e2, if_neg e2]
  · rw [srcC_none _ _ _ hj, srcC_none _ _ _ hj]

theorem zero_src : (Tryz.zeroCells97).toList = srcC (fun _ => 0) (fun _ => 0) (.slice none 0 0) := by
  kernel_rfl
theorem IL.int {w : World} {base n c : Nat} {t : TypeId} {A : Option Addr} {l : List Int} {fp : List Nat} (h : IL w base t (.slice A n c) n l fp) {k : Nat} (hk : k < n) : ∃ ad, A = some ad ∧ ad.block < w.heap.size ∧ w.cell? (ad.add k) = some (.int .i64 (ix l k)) := by
  obtain ⟨A', c', e, _, r⟩ := own_form h.1
  injection e with e1 e2 e3
  subst e1
  obtain ⟨ad, e, hb, d⟩ := r.int hk
  exact ⟨ad, e, hb, d⟩
theorem less_upd (k : Nat) : upd (fun n => if n < k then (-1 : Int) else 0) k (-1) = fun n => if n < k + 1 then (-1 : Int) else 0 := by
  funext n
  unfold upd
  show (if n = k then (-1 : Int) else if n < k then -1 else 0) = if n < k + 1 then -1 else 0
  by_cases q : n = k
  · rw [if_pos q, if_pos (by omega)]
  · rw [if_neg q]
    by_cases q2 : n < k
    · rw [if_pos q2, if_pos (by omega)]
    · rw [if_neg q2, if_neg (by omega)]
theorem mem_upd (P : Nat → Bool) (k : Nat) : upd (fun n => if P n then (0 : Int) else -1) k 0 = fun n => if addP P k n then (0 : Int) else -1 := by
  funext n
  unfold upd addP
  show (if n = k then (0 : Int) else if P n then 0 else -1) = if (P n || decide (n = k)) then 0 else -1
  by_cases q : n = k
  · rw [if_pos q, decide_eq_true q, Bool.or_true, if_pos rfl]
  · rw [if_neg q, decide_eq_false q, Bool.or_false]
/-- What a search has found, handed out. -/
def GivesSea (w : World) (x : Sst) (e : Ending) (w' : World) : Prop :=
  ∃ h A c fp, e = .returned (.pointer (some ⟨h, 0, none⟩)) ∧ Blk w' h 97 (srcC x.D x.H (.slice A x.Q.length c)) ∧ IL w' w.heap.size 3 (.slice A x.Q.length c) x.Q.length x.Q fp ∧ w.heap.size ≤ h ∧ Below w.heap.size w w'

set_option maxRecDepth 100000 in
set_option maxHeartbeats 8000000 in
theorem searchFrom_any (T : Nat → Nat → Bool) (M : Nat → Bool) (z g : Nat) (w : World) (hg : Blk w g 133 (tabC T)) (hz : z ≤ 400) (hT : ∀ y n, T y n = true → n < z) (hM : ∀ n, M n = true → n < z) (hD : DoorAt w) :
    Calls Tryz.prog 66 #[.pointer (some ⟨g, 0, none⟩), wsV M] w (fun e w' => ∃ x, Inv T M z x x.Q.length ∧ GivesSea w x e w') := by
  have SL := Lib.hid (fun P W (B : Below w.heap.size w W) => setList_any P W (hD.on B))
  have SL0 := Lib.hid (SL.out M (w.alloc (.cells #[.int .u64 (wd M 0), .int .u64 (wd M 1), .int .u64 (wd M 2), .int .u64 (wd M 3), .int .u64 (wd M 4), .int .u64 (wd M 5), .int .u64 (wd M 6)] 61)) (below_alloc _ _))
  obtain ⟨Q0, hQ0⟩ : ∃ Q0, Q0 = pick M 448 := ⟨_, rfl⟩
  rw [← hQ0] at SL0
  obtain ⟨n0, hn0⟩ : ∃ n0, n0 = Q0.length := ⟨_, rfl⟩
  have NL := Lib.hid hn0.symm
  have hn448 : n0 ≤ 448 := by rw [hn0, hQ0]; exact pick_len _ _
  have HR := Lib.hid (fun k (hk : k < n0) => show 0 ≤ ix Q0 k ∧ ix Q0 k < 400 by
    rw [hQ0]
    have := pick_range k (P := M) (m := 448) (by rw [← hQ0]; omega)
    have := hM _ this.2.2
    omega)
  have HTK := Lib.hid (fun k (hk : k < n0) (x : Nat) (hx : ix Q0 k = x) => show addP (memP (Q0.take k)) x = memP (Q0.take (k + 1)) by rw [take_el (by omega), ← mem_snoc, ← hx]; rfl)
  have HE : Hid (∀ n, n < 400 → (if memP (Q0.take n0) n then (0 : Int) else -1) = if M n then 0 else -1) := Lib.hid (fun n hn => by
    have : memP (Q0.take n0) n = M n := by
      rw [List.take_of_length_le (by omega), hQ0]
      apply bool_iff
      rw [memP_iff, pick_mem]
      exact ⟨fun h => h.2, fun h => ⟨by omega, h⟩⟩
    rw [this])
  have X0 : Hid (bfs0 M = ⟨fun n => if M n then 0 else -1, fun _ => 0, Q0⟩) := Lib.hid (by rw [hQ0]; rfl)
  have I0 := Lib.hid (inv_first (T := T) (M := M) (z := z) (by omega) hM)
  have HZ := Lib.hid hz
  have HIT := Lib.hid hT
  have HG := Lib.hid hg
  clear hQ0 hn0 hM hD hT hg
  unfold wsV at SL0
  unfold wsV
  go_enter Tryz.func66, Tryz.ntmps66
  go_wp2_with fail
  refine SL0.out.mono ?_
  rintro e w2 ⟨v2, rfl, o2, b2⟩
  rw [NL.out] at o2
  have w1s : (w.alloc (.cells #[.int .u64 (wd M 0), .int .u64 (wd M 1), .int .u64 (wd M 2), .int .u64 (wd M 3), .int .u64 (wd M 4), .int .u64 (wd M 5), .int .u64 (wd M 6)] 61)).heap.size = w.heap.size + 1 := World.size_alloc _ _
  have o2 := own_lower o2 (show w.heap.size ≤ _ by rw [w1s]; omega)
  obtain ⟨A2, c2, rfl, _, _⟩ := own_form o2
  have i2 : IL w2 w.heap.size 3 (.slice A2 n0 c2) n0 Q0 (bl (.slice A2 n0 c2)) := ⟨o2, rfl⟩
  obtain ⟨fp0, hfp⟩ : ∃ fp0, fp0 = bl (.slice A2 n0 c2) := ⟨_, rfl⟩
  rw [← hfp] at i2
  clear hfp
  have B2 : Below w.heap.size w w2 := below_call b2
  have l2 : w.heap.size < w2.heap.size := by have := b2.size; rw [w1s] at this; omega
  have m3 : Hid (Blk (w2.alloc (.cells (Tryz.zeroCells97.setIfInBounds 800 (.slice A2 n0 c2)) 97)) w2.heap.size 97 (srcC (fun n => if n < 0 then -1 else 0) (fun _ => 0) (.slice A2 n0 c2))) := Lib.hid (by
    have := Blk.new w2 (Tryz.zeroCells97.setIfInBounds 800 (.slice A2 n0 c2)) 97
    rw [Array.toList_setIfInBounds, zero_src, srcC_setQ] at this
    exact this)
  have i3 := Lib.hid (i2.below (below_alloc w2 (.cells (Tryz.zeroCells97.setIfInBounds 800 (.slice A2 n0 c2)) 97)))
  have B3 := Lib.hid (B2.trans ((below_alloc w2 (.cells (Tryz.zeroCells97.setIfInBounds 800 (.slice A2 n0 c2)) 97)).mono (Nat.le_of_lt l2)))
  have NF : Hid (w2.heap.size ∉ fp0 ∧ w.heap.size < w2.heap.size) := Lib.hid ⟨fun hm => by have := (i2.lt _ hm).2; omega, l2⟩
  clear i2 o2 b2 B2 w1s l2
  go_wp2
  go_loopg [6, 17] 400 (fun m i6 i wr => ∃ k : Nat, k + m = 400 ∧ i = .int .i64 k ∧ Hid (Blk wr w2.heap.size 97 (srcC (fun n => if n < k then -1 else 0) (fun _ => 0) (.slice A2 n0 c2))) ∧ Hid (IL wr w.heap.size 3 (.slice A2 n0 c2) n0 Q0 fp0) ∧ Hid (Below w.heap.size w wr))
  case atStart => exact ⟨0, by omega, rfl, m3, i3, B3⟩
  case round =>
    clear m3 i3 B3
    obtain ⟨k, hk, rfl, hm, hi, hb⟩ := hrel
    by_cases hlt : k < 400
    · have k4 : (k : Int) < 400 := by omega
      have d0 := (hm.out.cell k).trans (srcC_d _ _ _ hlt)
      have f0 := hm.out.frozen k
      go_wp2
      go_roundg (400 - (k + 1))
      case measure => omega
      case rel =>
        refine ⟨k + 1, by omega, by go_num, Lib.hid ?_, Lib.hid (hi.out.only (only_set _ _ _ _) (fun b hb' hc => by simp at hc; rw [hc] at hb'; exact NF.out.1 hb')), Lib.hid (hb.out.setCell (Nat.le_of_lt NF.out.2) _)⟩
        rw [← less_upd, ← srcC_setD _ _ _ _ hlt]
        exact hm.out.set k _
    · have ek : k = 400 := by omega
      have nk : ¬ (k : Int) < 400 := by omega
      have hq := (hm.out.cell 800).trans (srcC_q _ _ _)
      have M4 : Hid (Blk wr w2.heap.size 97 (srcC (fun n => if memP (Q0.take 0) n then 0 else -1) (fun _ => 0) (.slice A2 n0 c2))) := Lib.hid (by
        have := hm.out
        rw [srcC_congr (D' := fun n => if memP (Q0.take 0) n then 0 else -1) (H' := fun _ => 0) (fun n hn => by rw [if_pos (by omega)]; rfl) fun _ _ => rfl] at this
        exact this)
      clear ek
      have I4 := hi
      have B4 := hb
      clear hm hi hb
      go_wp2
      go_loopg [8, 31] n0 (fun m i8 i wr => ∃ k : Nat, k + m = n0 ∧ i = .int .i64 k ∧ Hid (Blk wr w2.heap.size 97 (srcC (fun n => if memP (Q0.take k) n then 0 else -1) (fun _ => 0) (.slice A2 n0 c2))) ∧ Hid (IL wr w.heap.size 3 (.slice A2 n0 c2) n0 Q0 fp0) ∧ Hid (Below w.heap.size w wr))
      case atStart => exact ⟨0, by omega, rfl, M4, I4, B4⟩
      case round =>
        clear M4 I4 B4 hq
        obtain ⟨k, hk, rfl, hm, hi, hb⟩ := hrel
        by_cases hlt : k < n0
        · obtain ⟨ad, rfl, hbl, e0⟩ := hi.out.int hlt
          obtain ⟨x, hx⟩ : ∃ x : Nat, ix Q0 k = x := ⟨(ix Q0 k).toNat, by have := HR.out k hlt; omega⟩
          have x4 : x < 400 := by have := HR.out k hlt; omega
          have x4i : (x : Int) < 400 := by omega
          have NX := Lib.hid (HTK.out k hlt x hx)
          rw [hx] at e0
          clear hx
          have d0 := (hm.out.cell x).trans (srcC_d _ _ _ x4)
          have f0 := hm.out.frozen x
          go_wp2
          go_roundg (n0 - (k + 1))
          case measure => omega
          case rel =>
            refine ⟨k + 1, by omega, by go_num, Lib.hid ?_, Lib.hid (hi.out.only (only_set _ _ _ _) (fun b hb' hc => by simp at hc; rw [hc] at hb'; exact NF.out.1 hb')), Lib.hid (hb.out.setCell (Nat.le_of_lt NF.out.2) _)⟩
            rw [← NX.out, ← mem_upd, ← srcC_setD _ _ _ _ x4]
            exact hm.out.set x _
        · obtain rfl : k = n0 := by omega
          have S5 : Hid (Sea wr w2.heap.size w.heap.size (bfsO T (bfs0 M) 0) fp0) := Lib.hid (by
            show Sea wr w2.heap.size w.heap.size (bfs0 M) fp0
            rw [X0.out]
            have := hm.out
            rw [srcC_congr HE.out fun _ _ => rfl] at this
            refine ⟨A2, c2, ?_, ?_, NF.out.1⟩
            · show Blk _ _ _ (srcC _ _ (.slice A2 Q0.length c2))
              rw [NL.out]; exact this
            · show IL _ _ _ (.slice A2 Q0.length c2) Q0.length _ _
              rw [NL.out]; exact hi.out)
          have B5 := hb
          clear hm hi hb HE X0 HTK HR
          go_wp2
          go_loopg [9, 10, 12] 400 (fun m i9 i10 i12 wr => ∃ k : Nat, k + m = 400 ∧ i9 = .int .i64 k ∧ Hid (∃ fp, Sea wr w2.heap.size w.heap.size (bfsO T (bfs0 M) k) fp) ∧ Hid (Inv T M z (bfsO T (bfs0 M) k) k ∧ k ≤ (bfsO T (bfs0 M) k).Q.length) ∧ Hid (Below w.heap.size w wr))
          case atStart => exact ⟨0, by omega, rfl, Lib.hid ⟨fp0, S5.out⟩, Lib.hid ⟨I0.out, Nat.zero_le _⟩, B5⟩
          case round =>
            clear S5 B5
            obtain ⟨k, hk, rfl, hs, hv, hb⟩ := hrel
            obtain ⟨hv1, hv2⟩ := hv.out
            have hz4 := HZ.out
            have sh := hv1.short
            obtain ⟨fp, hs⟩ := hs.out
            have lsz := Lib.hid hb.out.size
            by_cases hlt : k < (bfsO T (bfs0 M) k).Q.length
            · have hk400 : k < 400 := by omega
              have NX := Lib.hid (inv_out (by omega) HIT.out hv1 hlt)
              have IN := Lib.hid (inv_in HIT.out hv1 hlt)
              have hA := hv1.has hlt
              have RA := Lib.hid (fun i hi => rowT_at HIT.out (a := (ix (bfsO T (bfs0 M) k).Q k).toNat) (i := i) hi)
              have ES : Hid (bfsO T (bfs0 M) (k + 1) = bfsIn T (bfsO T (bfs0 M) k) (ix (bfsO T (bfs0 M) k).Q k).toNat (rowT T (ix (bfsO T (bfs0 M) k).Q k).toNat).length) := Lib.hid rfl
              obtain ⟨y, hy⟩ : ∃ y, y = bfsO T (bfs0 M) (k + 1) := ⟨_, rfl⟩
              rw [← hy] at NX ES
              have HY := Lib.hid hy
              clear hy
              generalize bfsO T (bfs0 M) k = x at *
              obtain ⟨a, ha⟩ : ∃ a, a = (ix x.Q k).toNat := ⟨_, rfl⟩
              rw [← ha] at IN hA RA ES
              obtain ⟨hA1, hA2, hA3⟩ := hA
              obtain ⟨A5, c5, hm, hi, hf⟩ := hs
              obtain ⟨q, hq⟩ : ∃ q, q = x.Q.length := ⟨_, rfl⟩
              rw [← hq] at hm hi hlt hv2 sh
              obtain ⟨ad, rfl, hbl, e0⟩ := hi.int hlt
              rw [← hA3] at e0
              have a4 : a < 400 := by omega
              have a4i : (a : Int) < 400 := by omega
              have qi : (k : Int) < q := by omega
              have c800 := (hm.cell 800).trans (srcC_q _ _ _)
              obtain ⟨t0, t1, t2, t3, t4, t5, t6⟩ := tab_cells (HG.out.below hb.out HG.out.lt) a4
              have SK := Lib.hid (SL.out (T a) wr hb.out)
              unfold wsV at SK
              have HQ := Lib.hid hq
              have HM := Lib.hid hm
              have HI := Lib.hid hi
              have HF := Lib.hid hf
              have HV := Lib.hid hv1
              have HA := Lib.hid ha
              clear hq hm hi hf hv1 hv2 ha hA1 hA3
              go_wp2_with fail
              refine SK.out.mono ?_
              rintro e w5 ⟨v5, rfl, o5, b5⟩
              change w5.ownsRow _ _ _ v5 (rowT T a).length (ints (rowT T a)) at o5
              have m5 : (rowT T a).length ≤ 448 := pick_len _ _
              obtain ⟨A6, c6, rfl, _, _⟩ := own_form o5
              obtain ⟨f6, om6, _, lo6⟩ := mem_ints o5 (by unfold maxLen; omega)
              obtain ⟨R, hR⟩ : ∃ R, R = rowT T a := ⟨_, rfl⟩
              rw [← hR] at om6 IN RA m5
              obtain ⟨n5, hn5⟩ : ∃ n5, n5 = R.length := ⟨_, rfl⟩
              rw [← hn5] at om6 IN RA m5
              have l5 := b5.size
              have S5 : Hid (∃ fp', Sea w5 w2.heap.size w.heap.size (bfsIn T x a 0) fp' ∧ ∀ b ∈ f6, b ≠ w2.heap.size ∧ b ∉ fp') := Lib.hid ⟨fp, ⟨some ad, c5, by show Blk _ _ _ (srcC x.D x.H (.slice (some ad) x.Q.length c5)); rw [← HQ.out]; exact HM.out.below b5 HM.out.lt, by show IL _ _ _ (.slice (some ad) x.Q.length c5) x.Q.length x.Q fp; rw [← HQ.out]; exact HI.out.below b5, HF.out⟩, fun b hb' => by
                have := lo6 b hb'
                have := HM.out.lt
                exact ⟨by omega, fun hc => by have := (HI.out.lt b hc).2; omega⟩⟩
              have O5 := Lib.hid om6
              have B5 := Lib.hid (hb.out.trans (b5.mono lsz.out))
              have HN5 := Lib.hid hn5
              have HR' := Lib.hid hR
              have HRN : Hid ((rowT T a).length = n5) := Lib.hid (by rw [hn5, hR])
              rw [HRN.out]
              clear om6 o5 b5 hb hn5 hR lo6 l5 c800 t0 t1 t2 t3 t4 t5 t6 e0 hbl
              obtain ⟨wo, rfl⟩ : ∃ wo : World, wo = wr := ⟨_, rfl⟩
              go_wp2
              go_loopg [12, 64] n5 (fun m i12 i ws => ∃ i' : Nat, i' + m = n5 ∧ i = .int .i64 i' ∧ Hid (∃ fp', Sea ws w2.heap.size w.heap.size (bfsIn T x a i') fp' ∧ ∀ b ∈ f6, b ≠ w2.heap.size ∧ b ∉ fp') ∧ Hid (Mem.own ws f6 [.slice A6 n5 c6] R) ∧ Hid (Below w.heap.size w ws))
              case atStart => exact ⟨0, by omega, rfl, S5, O5, B5⟩
              case round =>
                clear S5 O5 B5
                obtain ⟨i', hi', rfl, hs, ho, hb⟩ := hrel
                obtain ⟨fp', hs, hd⟩ := hs.out
                by_cases hlt' : i' < n5
                · obtain ⟨ad', rfl, hbl, e0⟩ := (rd_ints.1 (Mem.own_rd ho.out)).2.int hlt'
                  obtain ⟨r1, r2, r3⟩ := RA.out i' hlt'
                  obtain ⟨n, hn⟩ : ∃ n : Nat, n = (ix R i').toNat := ⟨_, rfl⟩
                  have hnR : ix R i' = n := by omega
                  rw [hnR] at e0
                  obtain ⟨v1, v2, _⟩ := IN.out i' (by omega)
                  have sq := v1.short
                  have ST := Lib.hid (step_any (bfsIn T x a i') a n w2.heap.size w.heap.size fp' wr hs a4 (by omega) ⟨v1.low a, by have := v1.big a; omega⟩ (by omega) hb.out.size)
                  have EX : Hid (stp (bfsIn T x a i') a n = bfsIn T x a (i' + 1)) := Lib.hid (by show _ = stp _ _ _; rw [← HR'.out, hn])
                  have HS := Lib.hid hs
                  have HDJ := Lib.hid hd
                  clear hs hd r1 r2 r3 hn hnR v1 v2 sq
                  go_wp2_with fail
                  refine ST.out.mono ?_
                  rintro e w7 ⟨rfl, fp7, s7, on7, in7⟩
                  go_wp2
                  go_roundg (n5 - (i' + 1))
                  case measure => omega
                  case rel =>
                    have hlo : ∀ k ∈ w2.heap.size :: fp', w.heap.size ≤ k := fun k hk => by
                      rcases List.mem_cons.1 hk with h | h
                      · rw [h]; exact Nat.le_of_lt NF.out.2
                      · obtain ⟨_, _, _, hi, _⟩ := HS.out
                        exact (hi.lt k h).1
                    refine ⟨i' + 1, by omega, by go_num, Lib.hid ⟨fp7, by rw [← EX.out]; exact s7, fun b hb' => ⟨(HDJ.out b hb').1, fun hc => ?_⟩⟩, Lib.hid (Mem.own_only ho.out on7 fun b hb' hc => ?_), Lib.hid (hb.out.trans (on7.below hb.out.size hlo))⟩
                    · rcases in7 b hc with h | h
                      · exact (HDJ.out b hb').2 h
                      · have := Mem.own_lt ho.out b hb'
                        omega
                    · rcases List.mem_cons.1 hc with h | h
                      · exact (HDJ.out b hb').1 h
                      · exact (HDJ.out b hb').2 h
                · have ei : i' = n5 := by omega
                  have nin : ¬ (i' : Int) < (n5 : Int) := by omega
                  have S8 : Hid (∃ fp, Sea wr w2.heap.size w.heap.size y fp) := Lib.hid ⟨fp', by rw [ES.out, HRN.out, ← ei]; exact hs⟩
                  clear hs hd ei hi'
                  go_wp2
                  go_roundg (400 - (k + 1))
                  case measure => omega
                  case rel => exact ⟨k + 1, by omega, by go_num, by rw [← HY.out]; exact S8, by rw [← HY.out]; exact NX, hb⟩
            · have ek : k = (bfsO T (bfs0 M) k).Q.length := by omega
              generalize bfsO T (bfs0 M) k = x at *
              obtain ⟨A5, c5, hm, hi, hf⟩ := hs
              have c800 := (hm.cell 800).trans (srcC_q _ _ _)
              have i5 := Lib.hid hi
              have HM := Lib.hid hm
              have HV := Lib.hid hv1
              rw [← ek] at c800 HM i5
              have qi : ¬ (k : Int) < k := by omega
              have EK := Lib.hid ek
              clear hi hm hv1 ek
              go_wp2
              go_ret
              refine ⟨x, by rw [← EK.out]; exact HV.out, _, A5, c5, fp, rfl, ?_, ?_, Nat.le_of_lt NF.out.2, hb.out⟩
              · rw [← EK.out]; exact HM.out
              · rw [← EK.out]; exact i5.out
end Go.Proofs.YtfgjogmgcamfdaaGreatDoor
