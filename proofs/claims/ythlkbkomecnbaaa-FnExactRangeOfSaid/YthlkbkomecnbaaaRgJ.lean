/- RangeOf, in the program. -/
import Derived.Test.YthlkbkomecnbaaaRgB
import Derived.Test.YthlkbkomecnbaaaTmApp
import Derived.Test.YthlkbkomecnbaaaGen
namespace Go.Proofs.Ythlkbkomecnbaaa
open Go.RowKit
set_option maxRecDepth 100000

theorem en_info : (Try.prog.info? 108).map (fun i => (i.zero, i.size, i.bytes)) = some (some (.agg #[.int .i64 0, .int .i64 0]), 2, 16) := by kernel_rfl
noncomputable def enRow : TypeInfo := Classical.choose (info_parts en_info)
theorem en_row : Try.prog.info? 108 = some enRow ∧ enRow.zero = some (.agg #[.int .i64 0, .int .i64 0]) ∧ enRow.size = 2 ∧ enRow.bytes = 16 := Classical.choose_spec (info_parts en_info)
theorem ens_one (l : List En) : ∀ u ∈ ens l, u.oneCell' = true := by
  intro u hu
  unfold ens at hu
  obtain ⟨t, _, h⟩ := List.mem_flatMap.1 hu
  simp [En.cs] at h
  rcases h with rfl | rfl <;> rfl
theorem app_en_at {ops : Array Oper} {rest : List Oper} {o : Oper} {a : Act} {Q : Exit → Act → World → Prop} {W : World} (hgd : o.guard = none) (s x : Operand)
    (ho : o.op = .call { callee := .builtin .append, args := #[s, x], argTypes := #[106, 106] }) (base : Nat) (v : Value) (k : Nat) (l : List En) (z : En) (g : Nat)
    (hs : a.eval s = v) (hown : W.ownsRow base 108 2 v k (ens l)) (hx : a.eval x = .slice (some ⟨g, 0, none⟩) 1 1) (hz : Blk W g 108 z.cs) (hk : k < 1000000000) (hb : base ≤ W.heap.size)
    (h : ∀ A' c' w', w'.ownsRow base 108 2 (.slice A' (k + 1) c') (k + 1) (ens (l ++ [z])) → Below base W w' → wpList Try.prog ops Q rest (a.put o.dst (.slice A' (k + 1) c')) w') :
    wpList Try.prog ops Q (o :: rest) a W := by
  obtain ⟨v', w', hr, q1, q2, _⟩ := run_append_own (P := Try.prog) W base 106 o.type 108 enRow (.agg #[.int .i64 0, .int .i64 0]) 2 16 Try.underlying106 en_row.1 en_row.2.1 en_row.2.2.1 en_row.2.2.2 rfl (by decide) v k _ hown ⟨g, 0, none⟩ 1 1 z.cs rfl (by
    intro j u hu
    rw [cell_at, hz.cell j]; exact hu) (by rw [← ens_one' z]; exact ens_one _) (by unfold maxLen; omega) (by omega) hb
  have q1' : w'.ownsRow base 108 2 v' (k + 1) (ens (l ++ [z])) := by rw [ens_app, ens_one']; exact q1
  obtain ⟨A', c', rfl, _⟩ := own_form q1'
  refine wpList_plain hgd fun K hK' => ?_
  unfold Oper.wp execOp
  simp only [ho, resolve, invoke, builtin, Sem.run_bind, Sem.run_pure, Result.andThen_ok, List.map_toArray, List.map_cons, List.map_nil, hs, hx, hr]
  exact hK' _ _ (h A' c' w' q1' ((Below.refl base W).grown q2 hb (fun g hg => (hown.lt g hg).1)))

theorem rg_yes {l : List Tm} {lo hi : List Int} (h : rgOk l lo hi = true) : EndsOk lo hi ∧ 1 ≤ l.length ∧ l.length ≤ 40 ∧ ∃ ks, kindsTo l lo.length l.length = some ks := by
  unfold rgOk at h
  rw [Bool.and_eq_true] at h
  obtain ⟨hsz, ks, hks⟩ := valid_kinds h.2
  have hsz' : 1 ≤ l.length ∧ l.length ≤ 40 := by simp [sizesOk] at hsz; omega
  exact ⟨ends_ok h.1, hsz'.1, hsz'.2, ks, hks⟩
theorem rg_no {l : List Tm} {lo hi : List Int} (h : rgOk l lo hi = false) : rgLo l lo hi = 0 ∧ rgHi l lo hi = 0 := by
  unfold rgLo rgHi rgB
  rw [h]
  exact ⟨rfl, rfl⟩

set_option maxHeartbeats 8000000 in
theorem rangeOf_impl (l : List Tm) (lo hi : List Int) (A : Option Addr) (n c : Nat) (A2 : Option Addr) (n2 c2 : Nat) (A3 : Option Addr) (n3 c3 : Nat) (w : World) (h1 : Mem.rd w w.heap.size [.slice A n c] l) (h2 : Mem.rd w w.heap.size [.slice A2 n2 c2] lo) (h3 : Mem.rd w w.heap.size [.slice A3 n3 c3] hi) :
    Calls Try.prog 39 #[.slice A n c, .slice A2 n2 c2, .slice A3 n3 c3] w (GivesV w (.tuple #[.int .i64 (rgLo l lo hi), .int .i64 (rgHi l lo hi), .bool (rgOk l lo hi)])) := by
  obtain ⟨m1, h⟩ := rd_tms.1 h1
  obtain ⟨m2, h'⟩ := rd_ints.1 h2
  obtain ⟨m3, h''⟩ := rd_ints.1 h3
  have L := Lib.hid h.tlen
  have L2 := Lib.hid h'.len
  have AE := Lib.hid (areEnds_any A2 n2 c2 A3 n3 c3 lo hi w h' h'' m2 m3)
  cases g1 : endsB lo hi
  · have e : rgOk l lo hi = false := by unfold rgOk; rw [g1]; rfl
    obtain ⟨e1, e2⟩ := rg_no e
    rw [e, e1, e2]
    rw [g1] at AE
    clear e e1 e2 g1 h h' h'' h1 h2 h3 m1 m2 m3
    go_enter Try.func39, Try.ntmps39
    go_wp2_with fail
    refine AE.out.mono ?_
    rintro e w1 ⟨rfl, rfl⟩
    go_wp2
    exact bodyPost_ret (v := .tuple #[.int .i64 0, .int .i64 0, .bool false]) (by simp [results, Try.results39, go_sem]) rfl ⟨rfl, Below.refl _ _⟩
  have TV := Lib.hid (valid_impl A n c l (n2 : Int) w h m1)
  cases g2 : validB l lo.length
  · have e : rgOk l lo hi = false := by unfold rgOk; rw [g2]; simp
    obtain ⟨e1, e2⟩ := rg_no e
    rw [e, e1, e2]
    rw [g1] at AE
    rw [L2.out] at g2
    rw [g2] at TV
    clear e e1 e2 g1 g2 h h' h'' h1 h2 h3 m1 m2 m3
    go_enter Try.func39, Try.ntmps39
    go_wp2_with fail
    refine AE.out.mono ?_
    rintro e w1 ⟨rfl, rfl⟩
    go_wp2_with fail
    refine TV.out.mono ?_
    rintro e w1 ⟨rfl, b1⟩
    go_wp2
    exact bodyPost_ret (v := .tuple #[.int .i64 0, .int .i64 0, .bool false]) (by simp [results, Try.results39, go_sem]) rfl ⟨rfl, b1⟩
  · have e : rgOk l lo hi = true := by unfold rgOk; rw [g1, g2]; rfl
    obtain ⟨ok, s1, s2, ks, hks⟩ := rg_yes e
    have e1 : rgLo l lo hi = (ex (ensTo l lo hi n) (n - 1)).lo := by unfold rgLo rgB; rw [e, if_pos rfl, L.out]
    have e2 : rgHi l lo hi = (ex (ensTo l lo hi n) (n - 1)).hi := by unfold rgHi rgB; rw [e, if_pos rfl, L.out]
    rw [e, e1, e2]
    rw [g1] at AE
    rw [L2.out] at g2
    rw [g2] at TV
    rw [L.out] at hks s1 s2
    have HK := Lib.hid hks
    have EO := Lib.hid (fun (k : Nat) (hlt : k < n) (A' : Option Addr) (c' : Nat) W (B : Below w.heap.size w W) (r : Rd W W.heap.size 2 A' k (ens (ensTo l lo hi k))) => by
      obtain ⟨ks', hk', hne⟩ := kindsTo_some HK.out k (by omega)
      exact endsOf_any (tx l k) A' k c' A2 n2 c2 A3 n3 c3 (ensTo l lo hi k) ks' lo hi W r ((h'.below B).more B.size) ((h''.below B).more B.size) (hne hlt) (ens_fit ok hk') ok)
    have EO2 : Hid (∀ (k : Nat) (_ : k < n) (A' : Option Addr) (c' : Nat) W (_ : Below w.heap.size w W) (_ : Rd W W.heap.size 2 A' k (ens (ensTo l lo hi k))), Calls Try.prog 87 #[.agg #[.int .i64 (tx l k).op, .int .i64 (tx l k).n, .int .i64 (tx l k).a, .int .i64 (tx l k).b], .slice A' k c', .slice A2 n2 c2, .slice A3 n3 c3] W
      (GivesV W (.agg #[.int .i64 (enOf (tx l k) (ensTo l lo hi k) lo hi).lo, .int .i64 (enOf (tx l k) (ensTo l lo hi k) lo hi).hi]))) := Lib.hid EO.out
    have HV : Hid (∀ k, ensTo l lo hi (k + 1) = ensTo l lo hi k ++ [enOf (tx l k) (ensTo l lo hi k) lo hi]) := Lib.hid (fun _ => rfl)
    clear e e1 e2 g1 g2 hks ok h1 h2 h3 HK h' h'' m1 m2 m3 EO
    go_enter Try.func39, Try.ntmps39
    go_wp2_with fail
    refine AE.out.mono ?_
    rintro e w1 ⟨rfl, rfl⟩
    go_wp2_with fail
    refine TV.out.mono ?_
    rintro e w1 ⟨rfl, b1⟩
    go_wp2_with (first | (at_make; refine wpList_make_own _ rfl _ _ 106 rfl w.heap.size 108 enRow _ 2 Try.underlying106 en_row.1 en_row.2.1 en_row.2.2.1 _ _ _ n rfl rfl (by omega) (by rw [en_row.2.2.2]; omega) (by unfold maxLen; omega) b1.size ?_; intro w2 hown hg))
    have hbw := b1.grown hg b1.size (by simp)
    clear hg b1
    go_loopg [9, 29] n (fun m v i wr => ∃ k : Nat, k + m = n ∧ i = .int .i64 k ∧ wr.ownsRow w.heap.size 108 2 v k (ens (ensTo l lo hi k)) ∧ Below w.heap.size w wr)
    case atStart => exact ⟨0, by omega, rfl, hown, hbw⟩
    case round =>
      obtain ⟨k, hk, rfl, ho, hb⟩ := hrel
      clear hown hbw
      by_cases hlt : k < n
      · obtain ⟨A', c', rfl, _, hR⟩ := own_form ho
        obtain ⟨ad, rfl, _, t0, t1, t2, t3⟩ := (h.below hb).tm hlt
        have HR := Lib.hid (fun o : Obj => (hR.alloc (Nat.le_refl _) o).more (B' := (wr.alloc o).heap.size) (by simp))
        have HO := Lib.hid ho
        have HB := Lib.hid hb
        have EK := Lib.hid (EO2.out k hlt A' c')
        have HVk := Lib.hid (HV.out k)
        generalize enOf (tx l k) (ensTo l lo hi k) lo hi = z at *
        clear hR ho hb
        go_wp2_with (first
          | (go_at_call 87; refine (EK.out _ (HB.out.alloc HB.out.size _) (HR.out _)).mono ?_; rintro e w3 ⟨rfl, b3⟩
             have b4 := Lib.hid (below_call b3))
          | (at_builtin; refine app_en_at rfl _ _ rfl w.heap.size _ k (ensTo l lo hi k) z _ rfl ((own_below HO.out b4.out).alloc _) rfl (ci_blk _ _ _) (by omega) (by have := HB.out.size; have := b4.out.size; simp; omega) ?_; intro A4 c4 w4 ho4 hb4))
        go_roundg (n - (k + 1))
        case measure => omega
        case rel =>
          refine ⟨k + 1, by omega, by go_num, by rw [HVk.out]; exact ho4, ?_⟩
          have s1 := HB.out.size
          have s2 := b4.out.size
          exact ((HB.out.trans (b4.out.mono s1)).alloc (by omega) _).trans hb4
      · obtain rfl : k = n := by omega
        obtain ⟨p, rfl⟩ : ∃ p, k = p + 1 := ⟨k - 1, by omega⟩
        obtain ⟨A', c', rfl, _, hR⟩ := own_form ho
        obtain ⟨ad, rfl, hbl, d0, d1⟩ := hR.en (k := p) (by omega)
        have E1 : (⟨(ad.add (p * 2)).block, (ad.add (p * 2)).off + 1, none⟩ : Addr) = ad.add (p * 2 + 1) := by rw [← add_add', add_pos (ad.add (p * 2)) (j := 1) (by decide)]
        rw [← E1] at d1
        obtain ⟨z, hz⟩ : ∃ z, ex (ensTo l lo hi (p + 1)) p = z := ⟨_, rfl⟩
        rw [hz] at d0 d1
        have HZ := Lib.hid hz
        clear hz
        obtain ⟨z1, z2⟩ := z
        dsimp only at d0 d1
        have HB := Lib.hid hb
        clear E1 ho hR hb
        go_wp2
        try (go_quiet (fail))
        try go_wp2
        refine bodyPost_ret (v := .tuple #[.int .i64 z1, .int .i64 z2, .bool true]) (by simp [results, Try.results39, go_sem]) rfl ⟨by rw [show p + 1 - 1 = p from rfl, HZ.out], ?_⟩
        first | exact HB.out.alloc HB.out.size _ | exact (HB.out.alloc HB.out.size _).drew | exact below_drewN (HB.out.alloc HB.out.size _) _
end Go.Proofs.Ythlkbkomecnbaaa
