/- RangeOf, in the model. -/
import Derived.Test.YthlkbkomecnbaaaRgU
import Derived.Test.YthlkbkomecnbaaaSeq
import Derived.Test.YthlkbkomecnbaaaRgJ
namespace Go.Proofs.Ythlkbkomecnbaaa
open Go.RowKit
set_option maxRecDepth 100000

theorem step_rowsV {ops : Array Oper} {o : Oper} {a : Act} {K : Act → World → Prop} {Q : Exit → Act → World → Prop} {E : Prop} {W w : World} {base k n c : Nat} {v : Value} {L : List (List Int)} {l : List Int} {fp fq : List Nat} {A : Option Addr} {ad : Addr} (hgd : o.guard = none) (s x : Operand)
    (ho : o.op = .call { callee := .builtin .append, args := #[s, x], argTypes := #[26, 26] }) (hs : a.eval s = v) (h : LL w base 22 v k L fp) (hb : Below w.heap.size w W) (own : Mem.own W fq [.slice A n c] l) (nq : fq.Nodup) (lo : ∀ b ∈ fq, w.heap.size ≤ b)
    (hx : a.eval x = .slice (some ad) 1 1) (hc : W.cell? ad = some (.slice A n c)) (hk : k ≤ 1000000000) (hbase : base ≤ w.heap.size)
    (hK : ∀ A' c' w' fp', LL w' base 22 (.slice A' (k + 1) c') (k + 1) (L ++ [l]) fp' → Only fp W w' → (∀ b ∈ fp', b ∈ fp ∨ b ∈ fq ∨ b = W.heap.size) → K (a.put o.dst (.slice A' (k + 1) c')) w') :
    if Region.wanted o (yielded ops a.tmps) = true then Oper.wp Try.prog o a W K Q else E := by
  have hw : Region.wanted o (yielded ops a.tmps) = true := by simp [Region.wanted, hgd]
  rw [if_pos hw]
  obtain ⟨v', w', fp', hr, q1, q2, q3⟩ := LL.app (P := Try.prog) (t := 26) (ty := o.type) Try.underlying26 inS_row.1 inS_row.2.1 inS_row.2.2.1 inS_row.2.2.2 h hb own nq lo hc hk hbase
  obtain ⟨A', c', rfl⟩ := row_slice q1.2.2.choose_spec.choose_spec.1
  unfold Oper.wp execOp
  simp only [ho, resolve, invoke, builtin, Sem.run_bind, Sem.run_pure, Result.andThen_ok, List.map_toArray, List.map_cons, List.map_nil, hs, hx, hr]
  exact hK _ _ w' fp' q1 q2 q3
theorem bel3 (w : World) (a b c : Obj) : Below w.heap.size w (((w.alloc a).alloc b).alloc c) :=
  (((Below.refl _ _).alloc (Nat.le_refl _) _).alloc (by simp) _).alloc (by simp <;> omega) _
theorem own_two (w : World) (o o' : Obj) (a b : Int) : Mem.own (((w.alloc o).alloc (.cells #[.int .i64 a, .int .i64 b] 3)).alloc o') [w.heap.size + 1] [.slice (some ⟨w.heap.size + 1, 0, none⟩) 2 2] [a, b] := by
  have h : IL ((w.alloc o).alloc (.cells #[.int .i64 a, .int .i64 b] 3)) (w.alloc o).heap.size 3 (.slice (some ⟨(w.alloc o).heap.size, 0, none⟩) 2 2) 2 [a, b] (bl (.slice (some ⟨(w.alloc o).heap.size, 0, none⟩) 2 2)) :=
    ⟨World.ownsRow_lit (base := (w.alloc o).heap.size) (e := 3) (size := 1) (w.alloc o) #[.int .i64 a, .int .i64 b] 2 (Nat.le_refl _) (by unfold maxLen; omega) rfl, rfl⟩
  have h2 := Mem.own_below (h.out (by unfold maxLen; omega)).1 (below_alloc _ o')
  rw [World.size_alloc] at h2
  exact h2
theorem el_two {E : List En} {k : Nat} (h : k < E.length) : el (E.map twoOf) k = twoOf (ex E k) := by
  rw [el_lt (by simpa using h), ex_lt h]
  simp

set_option maxHeartbeats 8000000 in
theorem rangeOf_spec (l : List Tm) (lo hi : List Int) (A : Option Addr) (n c : Nat) (A2 : Option Addr) (n2 c2 : Nat) (A3 : Option Addr) (n3 c3 : Nat) (w : World) (h1 : Mem.rd w w.heap.size [.slice A n c] l) (h2 : Mem.rd w w.heap.size [.slice A2 n2 c2] lo) (h3 : Mem.rd w w.heap.size [.slice A3 n3 c3] hi) :
    Calls Try.prog 37 #[.slice A n c, .slice A2 n2 c2, .slice A3 n3 c3] w (GivesV w (.tuple #[.int .i64 (rgLo l lo hi), .int .i64 (rgHi l lo hi), .bool (rgOk l lo hi)])) := by
  obtain ⟨m1, h⟩ := rd_tms.1 h1
  obtain ⟨m2, h'⟩ := rd_ints.1 h2
  obtain ⟨m3, h''⟩ := rd_ints.1 h3
  have L := Lib.hid h.tlen
  have L2 := Lib.hid h'.len
  have L3 := Lib.hid h''.len
  by_cases e0 : n2 = n3
  case neg =>
    have e : rgOk l lo hi = false := by unfold rgOk endsB; rw [L2.out, L3.out, decide_eq_false e0]; simp
    obtain ⟨e1, e2⟩ := rg_no e
    rw [e, e1, e2]
    have ne : ((n2 : Int) != (n3 : Int)) = true := by simp; omega
    clear e e1 e2 h h' h'' h1 h2 h3 m1 m2 m3
    go_enter Try.func37, Try.ntmps37
    go_wp2
    exact bodyPost_ret (v := .tuple #[.int .i64 0, .int .i64 0, .bool false]) (by simp [results, Try.results37, go_sem]) rfl ⟨rfl, Below.refl _ _⟩
  subst e0
  have TV := Lib.hid (valid_spec A n c l (n2 : Int) w h m1)
  cases g2 : validB l n2
  · have e : rgOk l lo hi = false := by unfold rgOk; rw [L2.out, g2]; simp
    obtain ⟨e1, e2⟩ := rg_no e
    rw [e, e1, e2]
    rw [g2] at TV
    clear e e1 e2 g2 h h' h'' h1 h2 h3 m1 m2 m3
    go_enter Try.func37, Try.ntmps37
    go_wp2_with fail
    refine TV.out.mono ?_
    rintro e w1 ⟨rfl, b1⟩
    go_wp2
    exact bodyPost_ret (v := .tuple #[.int .i64 0, .int .i64 0, .bool false]) (by simp [results, Try.results37, go_sem]) rfl ⟨rfl, b1⟩
  rw [g2] at TV
  have S1 := Lib.hid (fun W (B : Below w.heap.size w W) => l1State_any A2 n2 c2 lo W ((h'.below B).more B.size) m2)
  have S2 := Lib.hid (fun W (B : Below w.heap.size w W) => l1State_any A3 n2 c3 hi W ((h''.below B).more B.size) m3)
  cases g3 : numsB lo
  · have e : rgOk l lo hi = false := by unfold rgOk endsB; rw [g3]; simp
    obtain ⟨e1, e2⟩ := rg_no e
    rw [e, e1, e2]
    rw [g3] at S1
    clear e e1 e2 g2 g3 h h' h'' h1 h2 h3 m1 m2 m3
    go_enter Try.func37, Try.ntmps37
    go_wp2_with fail
    refine TV.out.mono ?_
    rintro e w1 ⟨rfl, b1⟩
    go_wp2_with fail
    refine (S1.out _ b1).mono ?_
    rintro e w2 ⟨rfl, rfl⟩
    go_wp2
    exact bodyPost_ret (v := .tuple #[.int .i64 0, .int .i64 0, .bool false]) (by simp [results, Try.results37, go_sem]) rfl ⟨rfl, b1⟩
  cases g4 : numsB hi
  · have e : rgOk l lo hi = false := by unfold rgOk endsB; rw [g4]; simp
    obtain ⟨e1, e2⟩ := rg_no e
    rw [e, e1, e2]
    rw [g3] at S1
    rw [g4] at S2
    clear e e1 e2 g2 g3 g4 h h' h'' h1 h2 h3 m1 m2 m3
    go_enter Try.func37, Try.ntmps37
    go_wp2_with fail
    refine TV.out.mono ?_
    rintro e w1 ⟨rfl, b1⟩
    go_wp2_with fail
    refine (S1.out _ b1).mono ?_
    rintro e w2 ⟨rfl, rfl⟩
    go_wp2_with fail
    refine (S2.out _ b1).mono ?_
    rintro e w2 ⟨rfl, rfl⟩
    go_wp2
    exact bodyPost_ret (v := .tuple #[.int .i64 0, .int .i64 0, .bool false]) (by simp [results, Try.results37, go_sem]) rfl ⟨rfl, b1⟩
  rw [g3] at S1
  rw [g4] at S2
  unfold maxLen at m2
  cases g5 : leB lo hi
  · have e : rgOk l lo hi = false := by unfold rgOk endsB; rw [g5]; simp
    obtain ⟨e1, e2⟩ := rg_no e
    rw [e, e1, e2]
    have G5 := Lib.hid g5
    clear e e1 e2 g2 g3 g4 g5 h h1 h2 h3 m1 m3
    go_enter Try.func37, Try.ntmps37
    go_wp2_with fail
    refine TV.out.mono ?_
    rintro e w1 ⟨rfl, b1⟩
    go_wp2_with fail
    refine (S1.out _ b1).mono ?_
    rintro e w2 ⟨rfl, rfl⟩
    go_wp2_with fail
    refine (S2.out _ b1).mono ?_
    rintro e w2 ⟨rfl, rfl⟩
    go_wp2
    go_loopg [9] n2 (fun m i wr => ∃ k : Nat, k + m = n2 ∧ i = .int .i64 k ∧ Hid (∀ j, j < k → ix lo j ≤ ix hi j) ∧ Hid (Below w.heap.size w wr))
    case atStart => exact ⟨0, by omega, rfl, Lib.hid (fun j hj => absurd hj (by omega)), Lib.hid b1⟩
    case round =>
      clear b1
      obtain ⟨k, hk, rfl, hto, hb⟩ := hrel
      by_cases hlt : k < n2
      · obtain ⟨ad, rfl, _, d0⟩ := (h'.below hb.out).int hlt
        obtain ⟨ad', rfl, _, d0'⟩ := (h''.below hb.out).int hlt
        have Y : Hid (ix lo k ≤ ix hi k → ∀ j, j < k + 1 → ix lo j ≤ ix hi j) := Lib.hid (fun z j hj => by
          by_cases e : j < k
          · exact hto.out j e
          · obtain rfl : j = k := by omega
            exact z)
        have hlt' : (k : Int) < (n2 : Int) := by omega
        generalize ix lo k = x at *
        generalize ix hi k = y at *
        by_cases z : y < x
        · go_wp2
          try (go_quiet (fail))
          try go_wp2
          exact bodyPost_ret (v := .tuple #[.int .i64 0, .int .i64 0, .bool false]) (by simp [results, Try.results37, go_sem]) rfl ⟨rfl, by first | exact hb.out | exact (hb.out).drew | exact below_drewN hb.out _⟩
        · go_wp2
          try (go_quiet (fail))
          try go_wp2
          go_roundg (n2 - (k + 1))
          case measure => omega
          case rel => exact ⟨k + 1, by omega, by go_num, Lib.hid (Y.out (by omega)), Lib.hid (below_drewN hb.out _)⟩
      · obtain rfl : k = n2 := by omega
        exact absurd (leB_true (lo := lo) (hi := hi) (by rw [L2.out]; exact hto.out)) (by rw [G5.out]; decide)
  · have e : rgOk l lo hi = true := by unfold rgOk endsB; rw [g3, g4, g5, L2.out, L3.out, g2]; simp
    obtain ⟨ok, s1, s2, ks, hks⟩ := rg_yes e
    have e1 : rgLo l lo hi = (ex (ensTo l lo hi n) (n - 1)).lo := by unfold rgLo rgB; rw [e, if_pos rfl, L.out]
    have e2 : rgHi l lo hi = (ex (ensTo l lo hi n) (n - 1)).hi := by unfold rgHi rgB; rw [e, if_pos rfl, L.out]
    rw [e, e1, e2]
    rw [L.out] at hks s1 s2
    have HK := Lib.hid hks
    have LE := Lib.hid (leB_at g5)
    have OK := Lib.hid ok
    clear e e1 e2 g2 g3 g4 g5 hks ok h1 h2 h3 m1 m3
    go_enter Try.func37, Try.ntmps37
    go_wp2_with fail
    refine TV.out.mono ?_
    rintro e w1 ⟨rfl, b1⟩
    go_wp2_with fail
    refine (S1.out _ b1).mono ?_
    rintro e w2 ⟨rfl, rfl⟩
    go_wp2_with fail
    refine (S2.out _ b1).mono ?_
    rintro e w2 ⟨rfl, rfl⟩
    go_wp2
    go_loopg [9] n2 (fun m i wr => ∃ k : Nat, k + m = n2 ∧ i = .int .i64 k ∧ Hid (Below w.heap.size w wr))
    case atStart => exact ⟨0, by omega, rfl, Lib.hid b1⟩
    case round =>
      clear b1
      obtain ⟨k, hk, rfl, hb⟩ := hrel
      by_cases hlt : k < n2
      · obtain ⟨ad, rfl, _, d0⟩ := (h'.below hb.out).int hlt
        obtain ⟨ad', rfl, _, d0'⟩ := (h''.below hb.out).int hlt
        have hlt' : (k : Int) < (n2 : Int) := by omega
        have z : ¬ ix hi k < ix lo k := by have := LE.out k (by rw [L2.out]; exact hlt); omega
        generalize ix lo k = x at *
        generalize ix hi k = y at *
        go_wp2
        try (go_quiet (fail))
        try go_wp2
        go_roundg (n2 - (k + 1))
        case measure => omega
        case rel => exact ⟨k + 1, by omega, by go_num, Lib.hid (below_drewN hb.out _)⟩
      · obtain rfl : k = n2 := by omega
        obtain ⟨wc, rfl⟩ : ∃ wc : World, wc = wr := ⟨_, rfl⟩
        have L0 := Lib.hid (LL.lit wc 22 (base := w.heap.size) hb.out.size)
        have B0 := Lib.hid (hb.out.alloc hb.out.size (.cells #[] 22))
        clear hb
        go_wp2
        go_loopg [10, 11] n (fun m v i wr => ∃ (q : Nat) (fp : List Nat), q + m = n ∧ i = .int .i64 q ∧ Hid (LL wr w.heap.size 22 v q ((ensTo l lo hi q).map twoOf) fp) ∧ Hid (Below w.heap.size w wr))
        case atStart => exact ⟨0, _, by omega, rfl, L0, B0⟩
        case round =>
          clear L0 B0
          obtain ⟨q, fp, hq, rfl, hL, hb⟩ := hrel
          by_cases hlt2 : q < n
          · obtain ⟨ks', hk', hne⟩ := kindsTo_some HK.out q (by omega)
            have hne := hne hlt2
            have hfit := ens_fit OK.out hk'
            have hklen := kindsTo_len hk'
            obtain ⟨adt, rfl, _, t0, t1, t2, t3⟩ := (h.below hb.out).tm hlt2
            have HV : Hid ((ensTo l lo hi (q + 1)).map twoOf = (ensTo l lo hi q).map twoOf ++ [twoOf (enOf (tx l q) (ensTo l lo hi q) lo hi)]) := Lib.hid (by
              show ((ensTo l lo hi q ++ [_]).map twoOf) = _
              rw [List.map_append]; rfl)
            have LEN := len_ensTo l lo hi q
            have HLO := Lib.hid hL.out.lt
            have hq2 : (q : Int) < (n : Int) := by omega
            generalize htx : tx l q = t at *
            obtain ⟨op, tn, a, b⟩ := t
            clear htx
            dsimp only at t0 t1 t2 t3
            rcases kind_inv hne with ⟨e, _, _, _⟩ | ⟨e, g1, g2, _⟩ | ⟨e1, e2, ⟨a0, a1, _⟩, ⟨b0, b1, _⟩, _, _⟩
            · dsimp only at e
              subst e
              rw [show enOf ⟨0, tn, a, b⟩ (ensTo l lo hi q) lo hi = ⟨tn, tn⟩ from rfl] at HV
              have OT := Lib.hid (fun o => own_two wr (.cells #[.int .i64 0, .int .i64 tn, .int .i64 a, .int .i64 b] 102) o tn tn)
              clear hne hfit hk' hklen LEN
              go_wp2_with (first
                | (at_builtin; refine app_ll rfl _ _ rfl rfl hL.out (bel3 wr _ _ _) (OT.out _) (by simp) (fun b hb => by simp at hb; omega) rfl (World.cell?_alloc_at _ _ _ _ (by simp)) (by omega) hb.out.size ?_; intro v9 w9 f9 q1 q2 q3))
              go_roundg (n - (q + 1))
              case measure => omega
              case rel => exact ⟨q + 1, f9, by omega, by go_num, by rw [HV.out]; exact Lib.hid q1, Lib.hid ((hb.out.trans ((bel3 wr _ _ _).mono hb.out.size)).trans (q2.below (by have := hb.out.size; simp; omega) fun b hb => (HLO.out b hb).1))⟩
            · dsimp only at e g1 g2
              subst e
              obtain ⟨r, rfl⟩ := Int.eq_ofNat_of_zero_le g1
              have hr : r < k := by have := L2.out; omega
              have hr' : (r : Int) < (k : Int) := by omega
              rw [show enOf ⟨1, r, a, b⟩ (ensTo l lo hi q) lo hi = ⟨ix lo r, ix hi r⟩ from rfl] at HV
              obtain ⟨ad, rfl, hbl, d0⟩ := ((h'.below hb.out).more hb.out.size).int hr
              obtain ⟨ad', rfl, hbl', d0'⟩ := ((h''.below hb.out).more hb.out.size).int hr
              generalize ix lo r = x at *
              generalize ix hi r = y at *
              have OT := Lib.hid (fun o => own_two wr (.cells #[.int .i64 1, .int .i64 r, .int .i64 a, .int .i64 b] 102) o x y)
              have x1 := fun o => (World.cell?_alloc_lt wr o (ad.add r) (by rw [add_block]; exact hbl)).trans d0
              have y1 := fun o => (World.cell?_alloc_lt wr o (ad'.add r) (by rw [add_block]; exact hbl')).trans d0'
              have x2 := al2 (by rw [add_block]; exact hbl) d0
              have y2 := al2 (by rw [add_block]; exact hbl') d0'
              have x3 := al3 (by rw [add_block]; exact hbl) d0
              have y3 := al3 (by rw [add_block]; exact hbl') d0'
              have z1 := (ci_blk wr #[.int .i64 1, .int .i64 r, .int .i64 a, .int .i64 b] 102).cell 1
              have z2 := fun o => ((ci_blk wr #[.int .i64 1, .int .i64 r, .int .i64 a, .int .i64 b] 102).alloc o).cell 1
              have z3 := fun o o' => (((ci_blk wr #[.int .i64 1, .int .i64 r, .int .i64 a, .int .i64 b] 102).alloc o).alloc o').cell 1
              clear hne hfit hk' hklen LEN g2 d0 d0'
              go_wp2
              refine region_till 13 (fun w' => w'.cell? ⟨wr.heap.size, 1, none⟩ = some (.int .i64 r) ∧ w'.cell? (ad.add r) = some (.int .i64 x) ∧ w'.cell? (ad'.add r) = some (.int .i64 y)) (by kernel_rfl) ?_ (fun hHeld => ?_)
              · (try dsimp only); first | exact ⟨z1, x1 _, y1 _⟩ | exact ⟨z2 _, x2 _ _, y2 _ _⟩ | exact ⟨z3 _ _, x3 _ _ _, y3 _ _ _⟩
              refine till_take (i := 0) (v := ?av0) [13] rfl (by kernel_rfl) (by kernel_rfl) (by kernel_rfl) (by kernel_rfl) (by kernel_rfl) (fun _ _ _ h => h) (Or.inl ⟨by kernel_rfl, ?ah0⟩) (by assumption) ?ar0
              case ah0 => ((intro w hSw; (try dsimp only at hSw); go_simp) <;> with_reducible rfl)
              (try simp only [List.getElem_toArray, List.getElem_cons_zero]); (try simp only [Act.put]); (try simp only [List.setIfInBounds_toArray]); (try simp only [List.set_cons_succ]); (try simp only [List.set_cons_zero])
              refine till_take (i := 1) (v := ?av1) [4, 5, 11, 12, 13] rfl (by kernel_rfl) (by kernel_rfl) (by kernel_rfl) (by kernel_rfl) (by kernel_rfl) (fun _ _ _ h => h) (Or.inl ⟨by kernel_rfl, ?ah1⟩) (by assumption) ?ar1
              case ah1 => ((intro w hSw; (try dsimp only at hSw); go_simp) <;> with_reducible rfl)
              (try simp only [List.getElem_toArray, List.getElem_cons_zero, List.getElem_cons_succ]); (try simp only [Act.put]); (try simp only [List.setIfInBounds_toArray]); (try simp only [List.set_cons_succ]); (try simp only [List.set_cons_zero])
              refine till_take (i := 2) (v := ?av2) [3, 4, 5, 11, 12, 13] rfl (by kernel_rfl) (by kernel_rfl) (by kernel_rfl) (by kernel_rfl) (by kernel_rfl) (fun _ _ _ h => h) (Or.inl ⟨by kernel_rfl, ?ah2⟩) (by assumption) ?ar2
              case ah2 => ((intro w hSw; (try dsimp only at hSw); go_simp) <;> with_reducible rfl)
              (try simp only [List.getElem_toArray, List.getElem_cons_zero, List.getElem_cons_succ]); (try simp only [Act.put]); (try simp only [List.setIfInBounds_toArray]); (try simp only [List.set_cons_succ]); (try simp only [List.set_cons_zero])
              refine till_take (i := 3) (v := ?av3) [4, 5, 11, 12, 13] rfl (by kernel_rfl) (by kernel_rfl) (by kernel_rfl) (by kernel_rfl) (by kernel_rfl) (fun _ _ _ h => h) (Or.inl ⟨by kernel_rfl, ?ah3⟩) (by assumption) ?ar3
              case ah3 => ((intro w hSw; (try dsimp only at hSw); go_simp) <;> with_reducible rfl)
              (try simp only [List.getElem_toArray, List.getElem_cons_zero, List.getElem_cons_succ]); (try simp only [Act.put]); (try simp only [List.setIfInBounds_toArray]); (try simp only [List.set_cons_succ]); (try simp only [List.set_cons_zero])
              refine till_take (i := 4) (v := ?av4) [5, 11, 12, 13] rfl (by kernel_rfl) (by kernel_rfl) (by kernel_rfl) (by kernel_rfl) (by kernel_rfl) (fun _ _ _ h => h) (Or.inl ⟨by kernel_rfl, ?ah4⟩) (by assumption) ?ar4
              case ah4 => ((intro w hSw; (try dsimp only at hSw); go_simp) <;> with_reducible rfl)
              (try simp only [List.getElem_toArray, List.getElem_cons_zero, List.getElem_cons_succ]); (try simp only [Act.put]); (try simp only [List.setIfInBounds_toArray]); (try simp only [List.set_cons_succ]); (try simp only [List.set_cons_zero])
              refine till_take (i := 5) (v := ?av5) [11, 12, 13] rfl (by kernel_rfl) (by kernel_rfl) (by kernel_rfl) (by kernel_rfl) (by kernel_rfl) (fun _ _ _ h => h) (Or.inl ⟨by kernel_rfl, ?ah5⟩) (by assumption) ?ar5
              case ah5 => ((intro w hSw; (try dsimp only at hSw); go_simp) <;> with_reducible rfl)
              (try simp only [List.getElem_toArray, List.getElem_cons_zero, List.getElem_cons_succ]); (try simp only [Act.put]); (try simp only [List.setIfInBounds_toArray]); (try simp only [List.set_cons_succ]); (try simp only [List.set_cons_zero])
              refine till_take (i := 6) (v := ?av6) [9, 10, 11, 12, 13] rfl (by kernel_rfl) (by kernel_rfl) (by kernel_rfl) (by kernel_rfl) (by kernel_rfl) (fun _ _ _ h => h) (Or.inl ⟨by kernel_rfl, ?ah6⟩) (by assumption) ?ar6
              case ah6 => ((intro w hSw; (try dsimp only at hSw); go_simp) <;> with_reducible rfl)
              (try simp only [List.getElem_toArray, List.getElem_cons_zero, List.getElem_cons_succ]); (try simp only [Act.put]); (try simp only [List.setIfInBounds_toArray]); (try simp only [List.set_cons_succ]); (try simp only [List.set_cons_zero])
              refine till_take (i := 7) (v := ?av7) [8, 9, 10, 11, 12, 13] rfl (by kernel_rfl) (by kernel_rfl) (by kernel_rfl) (by kernel_rfl) (by kernel_rfl) (fun _ _ _ h => h) (Or.inl ⟨by kernel_rfl, ?ah7⟩) (by assumption) ?ar7
              case ah7 => ((intro w hSw; (try dsimp only at hSw); go_simp) <;> with_reducible rfl)
              (try simp only [List.getElem_toArray, List.getElem_cons_zero, List.getElem_cons_succ]); (try simp only [Act.put]); (try simp only [List.setIfInBounds_toArray]); (try simp only [List.set_cons_succ]); (try simp only [List.set_cons_zero])
              refine till_take (i := 8) (v := ?av8) [9, 10, 11, 12, 13] rfl (by kernel_rfl) (by kernel_rfl) (by kernel_rfl) (by kernel_rfl) (by kernel_rfl) (fun _ _ _ h => h) (Or.inl ⟨by kernel_rfl, ?ah8⟩) (by assumption) ?ar8
              case ah8 => ((intro w hSw; (try dsimp only at hSw); go_simp) <;> with_reducible rfl)
              (try simp only [List.getElem_toArray, List.getElem_cons_zero, List.getElem_cons_succ]); (try simp only [Act.put]); (try simp only [List.setIfInBounds_toArray]); (try simp only [List.set_cons_succ]); (try simp only [List.set_cons_zero])
              refine till_take (i := 9) (v := ?av9) [10, 11, 12, 13] rfl (by kernel_rfl) (by kernel_rfl) (by kernel_rfl) (by kernel_rfl) (by kernel_rfl) (fun _ _ _ h => h) (Or.inl ⟨by kernel_rfl, ?ah9⟩) (by assumption) ?ar9
              case ah9 => ((intro w hSw; (try dsimp only at hSw); go_simp) <;> with_reducible rfl)
              (try simp only [List.getElem_toArray, List.getElem_cons_zero, List.getElem_cons_succ]); (try simp only [Act.put]); (try simp only [List.setIfInBounds_toArray]); (try simp only [List.set_cons_succ]); (try simp only [List.set_cons_zero])
              refine till_take (i := 10) (v := ?av10) [11, 12, 13] rfl (by kernel_rfl) (by kernel_rfl) (by kernel_rfl) (by kernel_rfl) (by kernel_rfl) (fun _ _ _ h => h) (Or.inl ⟨by kernel_rfl, ?ah10⟩) (by assumption) ?ar10
              case ah10 => ((intro w hSw; (try dsimp only at hSw); go_simp) <;> with_reducible rfl)
              (try simp only [List.getElem_toArray, List.getElem_cons_zero, List.getElem_cons_succ]); (try simp only [Act.put]); (try simp only [List.setIfInBounds_toArray]); (try simp only [List.set_cons_succ]); (try simp only [List.set_cons_zero])
              refine till_one (i := 11) (o := _) (by kernel_rfl) rfl (by kernel_rfl) (fun K hK => ?_)
              go_simp
              refine hK.out _ _ ?_ (fun hHeld => ?_)
              · (try dsimp only); first | exact ⟨z1, x1 _, y1 _⟩ | exact ⟨z2 _, x2 _ _, y2 _ _⟩ | exact ⟨z3 _ _, x3 _ _ _, y3 _ _ _⟩
              clear hK K
              (try simp only [List.getElem_toArray, List.getElem_cons_zero, List.getElem_cons_succ]); (try simp only [Act.put]); (try simp only [List.setIfInBounds_toArray]); (try simp only [List.set_cons_succ]); (try simp only [List.set_cons_zero])
              refine till_one (i := 12) (o := _) (by kernel_rfl) rfl (by kernel_rfl) (fun K hK => ?_)
              go_simp
              refine hK.out _ _ ?_ (fun hHeld => ?_)
              · (try dsimp only); first | exact ⟨z1, x1 _, y1 _⟩ | exact ⟨z2 _, x2 _ _, y2 _ _⟩ | exact ⟨z3 _ _, x3 _ _ _, y3 _ _ _⟩
              clear hK K
              (try simp only [List.getElem_toArray, List.getElem_cons_zero, List.getElem_cons_succ]); (try simp only [Act.put]); (try simp only [List.setIfInBounds_toArray]); (try simp only [List.set_cons_succ]); (try simp only [List.set_cons_zero])
              refine till_last (o := _) (by kernel_rfl) rfl (fun K hK => ?_)
              refine step_rowsV rfl _ _ (by rfl) (by rfl) hL.out (bel3 wr _ _ _).drew (OT.out _) (by simp) (fun b hb => by simp at hb; omega) (by rfl) (by first | exact World.cell?_alloc_at _ _ _ _ rfl | (simp [go_sem]; done)) (by omega) hb.out.size ?_
              intro A9 c9 w9 f9 q1 q2 q3
              refine hK.out _ _ ?_
              clear hK K
              (try simp only [List.getElem_toArray, List.getElem_cons_zero, List.getElem_cons_succ]); (try simp only [Act.put]); (try simp only [List.setIfInBounds_toArray]); (try simp only [List.set_cons_succ]); (try simp only [List.set_cons_zero])
              refine wpAnyH_take (i := 14) (v := ?av14) rfl (by kernel_rfl) (by kernel_rfl) (by kernel_rfl) (fun _ _ _ h => h) (Or.inl ⟨by kernel_rfl, ?ah14⟩) trivial ?ar14
              case ah14 => ((intro w hSw; go_simp) <;> with_reducible rfl)
              (try simp only [List.getElem_toArray, List.getElem_cons_zero, List.getElem_cons_succ]); (try simp only [Act.put]); (try simp only [List.setIfInBounds_toArray]); (try simp only [List.set_cons_succ]); (try simp only [List.set_cons_zero])
              refine wpAnyH_done (by kernel_rfl) ?_ _
              go_wp2
              go_roundg (n - (q + 1))
              case measure => omega
              case rel => exact ⟨q + 1, f9, by omega, by go_num, by rw [HV.out]; exact Lib.hid q1, Lib.hid ((hb.out.trans ((bel3 wr _ _ _).drew.mono hb.out.size)).trans (q2.below (by have := hb.out.size; simp; omega) fun b hb => (HLO.out b hb).1))⟩
            · dsimp only at e1 e2 a0 a1 b0 b1
              obtain ⟨p, rfl⟩ := Int.eq_ofNat_of_zero_le a0
              obtain ⟨r, rfl⟩ := Int.eq_ofNat_of_zero_le b0
              have hp : p < q := by omega
              have hr : r < q := by omega
              have fa := hfit.2 p (by omega)
              have fb := hfit.2 r (by omega)
              have e : enOf ⟨op, tn, p, r⟩ (ensTo l lo hi q) lo hi = doEn op (ex (ensTo l lo hi q) p) (ex (ensTo l lo hi q) r) := by unfold enOf; dsimp only; rw [if_neg (by omega), if_neg (by omega)]; rfl
              rw [e] at HV
              obtain ⟨g, cap, A7, n7, c7, rfl, d7, r7⟩ := hL.out.at hp
              obtain ⟨g', cap', A8, n8, c8, ev, d8, r8⟩ := hL.out.at hr
              injection ev with ev _ ev2
              injection ev with ev
              injection ev with ev
              subst ev
              subst ev2
              rw [el_two (by omega)] at r7 r8
              have KB := Lib.hid (fun W (B : Below wr.heap.size wr W) => (between_any op e1 e2 A7 A8 n7 c7 n8 c8 (ex (ensTo l lo hi q) p) (ex (ensTo l lo hi q) r) W (Mem.rd_on r7 B) (Mem.rd_on r8 B) ⟨fa.l, Int.le_trans fa.m fa.h, Int.le_trans fa.l fa.m, fa.h⟩ ⟨fb.l, Int.le_trans fb.m fb.h, Int.le_trans fb.l fb.m, fb.h⟩).mono fun _ _ g => givesL_of g (by simp [twoOf, maxLen]))
              have lg : g < wr.heap.size := by
                rcases hL.out.2.2.choose_spec.choose_spec.1.2 with ⟨_, h0⟩ | ⟨g4, cap4, cur4, e4, _, hg4, _⟩
                · omega
                · injection e4 with e4 _ _
                  injection e4 with e4
                  injection e4 with e4
                  subst e4
                  exact (Array.getElem?_eq_some_iff.1 hg4).1
              have gop0 : (op == 0) = false := beq_eq_false_iff_ne.2 (by omega)
              have gop1 : (op == 1) = false := beq_eq_false_iff_ne.2 (by omega)
              generalize twoOf (doEn op (ex (ensTo l lo hi q) p) (ex (ensTo l lo hi q) r)) = F at *
              have hp1 : (p : Int) < (q : Int) := by omega
              have hr1 : (r : Int) < (q : Int) := by omega
              have BK := ci_blk wr #[.int .i64 op, .int .i64 tn, .int .i64 p, .int .i64 r] 102
              have u0 := BK.cell 0
              have u2 := BK.cell 2
              have u3 := BK.cell 3
              have u7 := (World.cell?_alloc_lt wr (.cells #[.int .i64 op, .int .i64 tn, .int .i64 p, .int .i64 r] 102) ⟨g, p, none⟩ lg).trans d7
              have u8 := (World.cell?_alloc_lt wr (.cells #[.int .i64 op, .int .i64 tn, .int .i64 p, .int .i64 r] 102) ⟨g, r, none⟩ lg).trans d8
              simp only [List.getElem?_cons_zero, List.getElem?_cons_succ] at u0 u2 u3
              have HBK := Lib.hid BK
              clear hne hfit hk' hklen LEN fa fb e a0 a1 b0 b1 d7 d8 r7 r8 BK
              go_wp2
              refine region_till 15 (fun w' => w'.cell? ⟨wr.heap.size, 0, none⟩ = some (.int .i64 op) ∧ w'.cell? ⟨wr.heap.size, 2, none⟩ = some (.int .i64 p) ∧ w'.cell? ⟨wr.heap.size, 3, none⟩ = some (.int .i64 r) ∧ w'.cell? ⟨g, p, none⟩ = some (.slice A7 n7 c7) ∧ w'.cell? ⟨g, r, none⟩ = some (.slice A8 n8 c8)) (by kernel_rfl) ?_ (fun hHeld => ?_)
              · (try dsimp only); first | exact ⟨u0, u2, u3, u7, u8⟩ | exact ⟨v0, v2, v3, v7, v8⟩ | exact ⟨i0 _, i2 _, i3 _, i7 _, i8 _⟩
              refine till_take (i := 0) (v := ?bv0) [15] rfl (by kernel_rfl) (by kernel_rfl) (by kernel_rfl) (by kernel_rfl) (by kernel_rfl) (fun _ _ _ h => h) (Or.inl ⟨by kernel_rfl, ?bh0⟩) (by assumption) ?br0
              case bh0 => ((intro w hSw; (try dsimp only at hSw); go_simp) <;> with_reducible rfl)
              (try simp only [List.getElem_toArray, List.getElem_cons_zero]); (try simp only [Act.put]); (try simp only [List.setIfInBounds_toArray]); (try simp only [List.set_cons_succ]); (try simp only [List.set_cons_zero])
              refine till_take (i := 1) (v := ?bv1) [2, 13, 14, 15] rfl (by kernel_rfl) (by kernel_rfl) (by kernel_rfl) (by kernel_rfl) (by kernel_rfl) (fun _ _ _ h => h) (Or.inl ⟨by kernel_rfl, ?bh1⟩) (by assumption) ?br1
              case bh1 => ((intro w hSw; (try dsimp only at hSw); go_simp) <;> with_reducible rfl)
              (try simp only [List.getElem_toArray, List.getElem_cons_zero, List.getElem_cons_succ]); (try simp only [Act.put]); (try simp only [List.setIfInBounds_toArray]); (try simp only [List.set_cons_succ]); (try simp only [List.set_cons_zero])
              refine till_take (i := 2) (v := ?bv2) [13, 14, 15] rfl (by kernel_rfl) (by kernel_rfl) (by kernel_rfl) (by kernel_rfl) (by kernel_rfl) (fun _ _ _ h => h) (Or.inl ⟨by kernel_rfl, ?bh2⟩) (by assumption) ?br2
              case bh2 => ((intro w hSw; (try dsimp only at hSw); go_simp) <;> with_reducible rfl)
              (try simp only [List.getElem_toArray, List.getElem_cons_zero, List.getElem_cons_succ]); (try simp only [Act.put]); (try simp only [List.setIfInBounds_toArray]); (try simp only [List.set_cons_succ]); (try simp only [List.set_cons_zero])
              refine till_take (i := 3) (v := ?bv3) [6, 7, 13, 14, 15] rfl (by kernel_rfl) (by kernel_rfl) (by kernel_rfl) (by kernel_rfl) (by kernel_rfl) (fun _ _ _ h => h) (Or.inl ⟨by kernel_rfl, ?bh3⟩) (by assumption) ?br3
              case bh3 => ((intro w hSw; (try dsimp only at hSw); go_simp) <;> with_reducible rfl)
              (try simp only [List.getElem_toArray, List.getElem_cons_zero, List.getElem_cons_succ]); (try simp only [Act.put]); (try simp only [List.setIfInBounds_toArray]); (try simp only [List.set_cons_succ]); (try simp only [List.set_cons_zero])
              refine till_take (i := 4) (v := ?bv4) [5, 6, 7, 13, 14, 15] rfl (by kernel_rfl) (by kernel_rfl) (by kernel_rfl) (by kernel_rfl) (by kernel_rfl) (fun _ _ _ h => h) (Or.inl ⟨by kernel_rfl, ?bh4⟩) (by assumption) ?br4
              case bh4 => ((intro w hSw; (try dsimp only at hSw); go_simp) <;> with_reducible rfl)
              (try simp only [List.getElem_toArray, List.getElem_cons_zero, List.getElem_cons_succ]); (try simp only [Act.put]); (try simp only [List.setIfInBounds_toArray]); (try simp only [List.set_cons_succ]); (try simp only [List.set_cons_zero])
              refine till_take (i := 5) (v := ?bv5) [6, 7, 13, 14, 15] rfl (by kernel_rfl) (by kernel_rfl) (by kernel_rfl) (by kernel_rfl) (by kernel_rfl) (fun _ _ _ h => h) (Or.inl ⟨by kernel_rfl, ?bh5⟩) (by assumption) ?br5
              case bh5 => ((intro w hSw; (try dsimp only at hSw); go_simp) <;> with_reducible rfl)
              (try simp only [List.getElem_toArray, List.getElem_cons_zero, List.getElem_cons_succ]); (try simp only [Act.put]); (try simp only [List.setIfInBounds_toArray]); (try simp only [List.set_cons_succ]); (try simp only [List.set_cons_zero])
              refine till_take (i := 6) (v := ?bv6) [7, 13, 14, 15] rfl (by kernel_rfl) (by kernel_rfl) (by kernel_rfl) (by kernel_rfl) (by kernel_rfl) (fun _ _ _ h => h) (Or.inl ⟨by kernel_rfl, ?bh6⟩) (by assumption) ?br6
              case bh6 => ((intro w hSw; (try dsimp only at hSw); go_simp) <;> with_reducible rfl)
              (try simp only [List.getElem_toArray, List.getElem_cons_zero, List.getElem_cons_succ]); (try simp only [Act.put]); (try simp only [List.setIfInBounds_toArray]); (try simp only [List.set_cons_succ]); (try simp only [List.set_cons_zero])
              refine till_take (i := 7) (v := ?bv7) [13, 14, 15] rfl (by kernel_rfl) (by kernel_rfl) (by kernel_rfl) (by kernel_rfl) (by kernel_rfl) (fun _ _ _ h => h) (Or.inl ⟨by kernel_rfl, ?bh7⟩) (by assumption) ?br7
              case bh7 => ((intro w hSw; (try dsimp only at hSw); go_simp) <;> with_reducible rfl)
              (try simp only [List.getElem_toArray, List.getElem_cons_zero, List.getElem_cons_succ]); (try simp only [Act.put]); (try simp only [List.setIfInBounds_toArray]); (try simp only [List.set_cons_succ]); (try simp only [List.set_cons_zero])
              refine till_take (i := 8) (v := ?bv8) [11, 12, 13, 14, 15] rfl (by kernel_rfl) (by kernel_rfl) (by kernel_rfl) (by kernel_rfl) (by kernel_rfl) (fun _ _ _ h => h) (Or.inl ⟨by kernel_rfl, ?bh8⟩) (by assumption) ?br8
              case bh8 => ((intro w hSw; (try dsimp only at hSw); go_simp) <;> with_reducible rfl)
              (try simp only [List.getElem_toArray, List.getElem_cons_zero, List.getElem_cons_succ]); (try simp only [Act.put]); (try simp only [List.setIfInBounds_toArray]); (try simp only [List.set_cons_succ]); (try simp only [List.set_cons_zero])
              refine till_take (i := 9) (v := ?bv9) [10, 11, 12, 13, 14, 15] rfl (by kernel_rfl) (by kernel_rfl) (by kernel_rfl) (by kernel_rfl) (by kernel_rfl) (fun _ _ _ h => h) (Or.inl ⟨by kernel_rfl, ?bh9⟩) (by assumption) ?br9
              case bh9 => ((intro w hSw; (try dsimp only at hSw); go_simp) <;> with_reducible rfl)
              (try simp only [List.getElem_toArray, List.getElem_cons_zero, List.getElem_cons_succ]); (try simp only [Act.put]); (try simp only [List.setIfInBounds_toArray]); (try simp only [List.set_cons_succ]); (try simp only [List.set_cons_zero])
              refine till_take (i := 10) (v := ?bv10) [11, 12, 13, 14, 15] rfl (by kernel_rfl) (by kernel_rfl) (by kernel_rfl) (by kernel_rfl) (by kernel_rfl) (fun _ _ _ h => h) (Or.inl ⟨by kernel_rfl, ?bh10⟩) (by assumption) ?br10
              case bh10 => ((intro w hSw; (try dsimp only at hSw); go_simp) <;> with_reducible rfl)
              (try simp only [List.getElem_toArray, List.getElem_cons_zero, List.getElem_cons_succ]); (try simp only [Act.put]); (try simp only [List.setIfInBounds_toArray]); (try simp only [List.set_cons_succ]); (try simp only [List.set_cons_zero])
              refine till_take (i := 11) (v := ?bv11) [12, 13, 14, 15] rfl (by kernel_rfl) (by kernel_rfl) (by kernel_rfl) (by kernel_rfl) (by kernel_rfl) (fun _ _ _ h => h) (Or.inl ⟨by kernel_rfl, ?bh11⟩) (by assumption) ?br11
              case bh11 => ((intro w hSw; (try dsimp only at hSw); go_simp) <;> with_reducible rfl)
              (try simp only [List.getElem_toArray, List.getElem_cons_zero, List.getElem_cons_succ]); (try simp only [Act.put]); (try simp only [List.setIfInBounds_toArray]); (try simp only [List.set_cons_succ]); (try simp only [List.set_cons_zero])
              refine till_take (i := 12) (v := ?bv12) [13, 14, 15] rfl (by kernel_rfl) (by kernel_rfl) (by kernel_rfl) (by kernel_rfl) (by kernel_rfl) (fun _ _ _ h => h) (Or.inl ⟨by kernel_rfl, ?bh12⟩) (by assumption) ?br12
              case bh12 => ((intro w hSw; (try dsimp only at hSw); go_simp) <;> with_reducible rfl)
              (try simp only [List.getElem_toArray, List.getElem_cons_zero, List.getElem_cons_succ]); (try simp only [Act.put]); (try simp only [List.setIfInBounds_toArray]); (try simp only [List.set_cons_succ]); (try simp only [List.set_cons_zero])
              refine till_one (i := 13) (o := _) (by kernel_rfl) rfl (by kernel_rfl) (fun K hK => ?_)
              go_simp
              refine (KB.out _ ((below_alloc wr _).drew)).mono ?_
              rintro e w8 ⟨A9, n9, c9, f9, rfl, o9, nd9, lo9, b9⟩
              have b18 : Below wr.heap.size wr w8 := ((below_alloc wr _).drew).trans (b9.mono (by simp))
              have lt8 : wr.heap.size < w8.heap.size := by have := b9.size; simp at this; omega
              have lg8 : g < w8.heap.size := by omega
              have BK8 := HBK.out.below (Below.mono (⟨b9.os, b9.tape, b9.output, b9.size, b9.block⟩ : Below (wr.alloc (.cells #[.int .i64 op, .int .i64 tn, .int .i64 p, .int .i64 r] 102)).heap.size (wr.alloc (.cells #[.int .i64 op, .int .i64 tn, .int .i64 p, .int .i64 r] 102)) w8) (Nat.le_refl _)) (by simp)
              have v0 := BK8.cell 0
              have v2 := BK8.cell 2
              have v3 := BK8.cell 3
              have v7 := (cell_below b9 (p := ⟨g, p, none⟩) (by simp; omega) u7)
              have v8 := (cell_below b9 (p := ⟨g, r, none⟩) (by simp; omega) u8)
              simp only [List.getElem?_cons_zero, List.getElem?_cons_succ] at v0 v2 v3
              have i0 := fun o => (World.cell?_alloc_lt w8 o ⟨wr.heap.size, 0, none⟩ lt8).trans v0
              have i2 := fun o => (World.cell?_alloc_lt w8 o ⟨wr.heap.size, 2, none⟩ lt8).trans v2
              have i3 := fun o => (World.cell?_alloc_lt w8 o ⟨wr.heap.size, 3, none⟩ lt8).trans v3
              have i7 := fun o => (World.cell?_alloc_lt w8 o ⟨g, p, none⟩ lg8).trans v7
              have i8 := fun o => (World.cell?_alloc_lt w8 o ⟨g, r, none⟩ lg8).trans v8
              have HO9 := Lib.hid (fun o => Mem.own_below o9 (below_alloc w8 o))
              have HND := Lib.hid nd9
              have HL9 : Hid (∀ b ∈ f9, wr.heap.size ≤ b) := Lib.hid (fun b hb => by have := lo9 b hb; simp at this; omega)
              have b19 := b18.alloc (by omega) (.cells #[.slice A9 n9 c9] 22)
              refine hK.out _ _ ?_ (fun hHeld => ?_)
              · (try dsimp only); first | exact ⟨u0, u2, u3, u7, u8⟩ | exact ⟨v0, v2, v3, v7, v8⟩ | exact ⟨i0 _, i2 _, i3 _, i7 _, i8 _⟩
              clear hK K
              (try simp only [List.getElem_toArray, List.getElem_cons_zero, List.getElem_cons_succ]); (try simp only [Act.put]); (try simp only [List.setIfInBounds_toArray]); (try simp only [List.set_cons_succ]); (try simp only [List.set_cons_zero])
              refine till_one (i := 14) (o := _) (by kernel_rfl) rfl (by kernel_rfl) (fun K hK => ?_)
              go_simp
              refine hK.out _ _ ?_ (fun hHeld => ?_)
              · (try dsimp only); first | exact ⟨u0, u2, u3, u7, u8⟩ | exact ⟨v0, v2, v3, v7, v8⟩ | exact ⟨i0 _, i2 _, i3 _, i7 _, i8 _⟩
              clear hK K
              (try simp only [List.getElem_toArray, List.getElem_cons_zero, List.getElem_cons_succ]); (try simp only [Act.put]); (try simp only [List.setIfInBounds_toArray]); (try simp only [List.set_cons_succ]); (try simp only [List.set_cons_zero])
              refine till_last (o := _) (by kernel_rfl) rfl (fun K hK => ?_)
              refine step_rowsV rfl _ _ (by rfl) (by rfl) hL.out b19 (HO9.out _) HND.out HL9.out (by rfl) (by first | exact World.cell?_alloc_at _ _ _ _ rfl | (simp [go_sem]; done)) (by omega) hb.out.size ?_
              intro Ax cx wx fx q1 q2 q3
              refine hK.out _ _ ?_
              clear hK K
              (try simp only [List.getElem_toArray, List.getElem_cons_zero, List.getElem_cons_succ]); (try simp only [Act.put]); (try simp only [List.setIfInBounds_toArray]); (try simp only [List.set_cons_succ]); (try simp only [List.set_cons_zero])
              refine wpAnyH_take (i := 16) (v := ?bv16) rfl (by kernel_rfl) (by kernel_rfl) (by kernel_rfl) (fun _ _ _ h => h) (Or.inl ⟨by kernel_rfl, ?bh16⟩) trivial ?br16
              case bh16 => ((intro w hSw; go_simp) <;> with_reducible rfl)
              (try simp only [List.getElem_toArray, List.getElem_cons_zero, List.getElem_cons_succ]); (try simp only [Act.put]); (try simp only [List.setIfInBounds_toArray]); (try simp only [List.set_cons_succ]); (try simp only [List.set_cons_zero])
              refine wpAnyH_done (by kernel_rfl) ?_ _
              go_wp2
              go_roundg (n - (q + 1))
              case measure => omega
              case rel => exact ⟨q + 1, fx, by omega, by go_num, by rw [HV.out]; exact Lib.hid q1, Lib.hid ((hb.out.trans (b19.mono hb.out.size)).trans (q2.below (by have := hb.out.size; have := b19.size; omega) fun b hb => (HLO.out b hb).1))⟩
          · obtain rfl : q = n := by omega
            obtain ⟨p, rfl⟩ : ∃ p, q = p + 1 := ⟨q - 1, by omega⟩
            obtain ⟨g, cap, A7, n7, c7, rfl, d7, r7⟩ := hL.out.at (i := p) (by omega)
            rw [el_two (by rw [len_ensTo]; omega)] at r7
            obtain ⟨z, hz⟩ : ∃ z, ex (ensTo l lo hi (p + 1)) p = z := ⟨_, rfl⟩
            rw [hz] at r7
            have HZ := Lib.hid hz
            clear hz
            obtain ⟨z1, z2⟩ := z
            obtain rfl : 2 = n7 := rd_len r7
            obtain ⟨_, r⟩ := rd_ints.1 r7
            obtain ⟨ad, rfl, la, k0⟩ := r.int (k := 0) (by decide)
            obtain ⟨ad1, ee, _, k1⟩ := r.int (k := 1) (by decide)
            injection ee with ee; subst ee
            rw [add_zero'] at k0
            rw [add_pos _ (by decide)] at k1
            have k0' : wr.cell? ad = some (.int .i64 z1) := k0
            have k1' : wr.cell? ⟨ad.block, ad.off + 1, none⟩ = some (.int .i64 z2) := k1
            clear r7 r la k0 k1
            go_wp2
            try (go_quiet (fail))
            try go_wp2
            refine bodyPost_ret (v := .tuple #[.int .i64 z1, .int .i64 z2, .bool true]) (by simp [results, Try.results37, go_sem]) rfl ⟨by rw [show ex (ensTo l lo hi (p + 1)) (p + 1 - 1) = ⟨z1, z2⟩ from HZ.out], ?_⟩
            first | exact hb.out | exact hb.out.drew | exact below_drewN hb.out _
end Go.Proofs.Ythlkbkomecnbaaa
