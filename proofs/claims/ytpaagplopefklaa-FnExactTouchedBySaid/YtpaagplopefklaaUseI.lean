/- impl.UsedBy. -/
import Derived.Test.YtpaagplopefklaaUse
import Derived.Test.YtpaagplopefklaaIntApp
namespace Go.Proofs.Ytpaagplopefklaa
open Go.RowKit

theorem ret_wd {k : IntKind} {a b : Int} (h : a = b) : Ending.returned (.int k a) = .returned (.int k b) := by rw [h]
/-- The cells of a list of words. -/
def wds (l : List Nat) : List Value := l.map fun n : Nat => Value.int .u64 (n : Int)
theorem len_wds (l : List Nat) : (wds l).length = l.length := by simp [wds]
theorem Rd.wd {w : World} {B n : Nat} {A : Option Addr} {l : List Nat} (h : Rd w B 1 A n (wds l)) {k : Nat} (hk : k < n) :
    ∃ ad, A = some ad ∧ ad.block < B ∧ w.cell? (ad.add k) = some (.int .u64 (wx l k : Nat)) := by
  obtain ⟨ad, u, e, hb, hx, hc⟩ := h.one hk
  refine ⟨ad, e, hb, ?_⟩
  rw [hc, ← hx]
  have hl : k < l.length := by have := h.1; rw [len_wds] at this; omega
  unfold wds wx
  rw [List.getElem?_map, List.getElem?_eq_getElem hl]; rfl

/-- The call gives this word; nothing that was there has changed. -/
def GivesWord (w : World) (x : Nat) (e : Ending) (w' : World) : Prop := e = .returned (.int .u64 (x : Int)) ∧ Below w.heap.size w w'

set_option maxHeartbeats 1000000 in
theorem usedOf_any (t : Tm) (A : Option Addr) (n c : Nat) (ks : List Int) (vars : Int) (ws : List Nat) (w : World) (h : Rd w w.heap.size 1 A n (wds ws)) (hk : kind t ks vars ≠ 0) (hv : vars ≤ 5) (hn : ks.length = n) (hs : ∀ j, wx ws j < 32) :
    Calls Try.prog 106 #[.agg #[.int .i64 t.op, .int .i64 t.n, .int .i64 t.a, .int .i64 t.b], .slice A n c] w (GivesWord w (wOf t ws)) := by
  obtain ⟨op, tn, a, b⟩ := t
  rcases kind_inv hk with ⟨e, _⟩ | ⟨e, h1, h2, _⟩ | ⟨e1, e2, ⟨a0, a1, _⟩, ⟨b0, b1, _⟩, _, _⟩
  · dsimp only at e
    subst e
    rw [show wOf ⟨0, tn, a, b⟩ ws = 0 from rfl]
    clear h hk hs hn
    dsimp only
    go_enter Try.func106, Try.ntmps106
    go_wp2
    go_ret
    exact ⟨rfl, below_alloc _ _⟩
  · dsimp only at e h1 h2
    subst e
    obtain ⟨q, rfl⟩ := Int.eq_ofNat_of_zero_le h1
    rw [show wOf ⟨1, q, a, b⟩ ws = 2 ^ q from rfl]
    have hq : q ≤ 4 := by omega
    clear h hk hs hn h1 h2
    dsimp only
    obtain rfl | rfl | rfl | rfl | rfl : q = 0 ∨ q = 1 ∨ q = 2 ∨ q = 3 ∨ q = 4 := by omega
    all_goals
      clear hq
      go_enter Try.func106, Try.ntmps106
      go_wp2
      go_ret
      exact ⟨rfl, below_alloc _ _⟩
  · dsimp only at e1 e2 a0 a1 b0 b1
    obtain ⟨p, rfl⟩ := Int.eq_ofNat_of_zero_le a0
    obtain ⟨q, rfl⟩ := Int.eq_ofNat_of_zero_le b0
    have hp : p < n := by omega
    have hq : q < n := by omega
    have e : wOf ⟨op, tn, p, q⟩ ws = wx ws p ||| wx ws q := by unfold wOf; dsimp only; rw [if_neg (by omega), if_neg (by omega)]; rfl
    rw [e]
    obtain ⟨ad, rfl, hb, hc⟩ := h.wd hp
    obtain ⟨ad', ea, _, hc'⟩ := h.wd hq
    injection ea with ea; subst ea
    have hc := cell_alloc hb hc
    have hc' := cell_alloc hb hc'
    have x1 := hs p
    have x2 := hs q
    have g0 : (op == 0) = false := beq_eq_false_iff_ne.2 (by omega)
    have g1 : (op == 1) = false := beq_eq_false_iff_ne.2 (by omega)
    clear h hk hs hn e a0 a1 b0 b1
    generalize wx ws p = x at *
    generalize wx ws q = y at *
    dsimp only
    go_enter Try.func106, Try.ntmps106
    go_wp2
    go_quiet (fail)
    go_wp2
    go_ret
    exact ⟨ret_wd (bits_or_u64_nat x y (by omega) (by omega)), below_drewN (below_alloc _ _) _⟩

theorem bit_and (y : Nat) (hy : y < 64) : (bits .and .u64 (y : Int) 1 == 1) = decide (y % 2 = 1) := by
  have h := bits_and_u64_nat y 1 (by omega) (by omega)
  rw [show ((1 : Nat) : Int) = 1 from rfl] at h
  rw [h, Nat.and_one_is_mod]
  rw [Bool.eq_iff_iff]
  simp
  omega
theorem bit_0 (x : Nat) (hx : x < 32) : (bits .and .u64 (x : Int) 1 == 1) = x.testBit 0 := by rw [bit_and _ (by omega), Nat.testBit_eq_decide_div_mod_eq]; simp
theorem bit_1 (x : Nat) (hx : x < 32) : (bits .and .u64 ((x : Int) / 2) 1 == 1) = x.testBit 1 := by rw [show (x : Int) / 2 = ((x / 2 : Nat) : Int) by omega, bit_and _ (by omega), Nat.testBit_eq_decide_div_mod_eq]
theorem bit_2 (x : Nat) (hx : x < 32) : (bits .and .u64 ((x : Int) / 4) 1 == 1) = x.testBit 2 := by rw [show (x : Int) / 4 = ((x / 4 : Nat) : Int) by omega, bit_and _ (by omega), Nat.testBit_eq_decide_div_mod_eq]
theorem bit_3 (x : Nat) (hx : x < 32) : (bits .and .u64 ((x : Int) / 8) 1 == 1) = x.testBit 3 := by rw [show (x : Int) / 8 = ((x / 8 : Nat) : Int) by omega, bit_and _ (by omega), Nat.testBit_eq_decide_div_mod_eq]
theorem bit_4 (x : Nat) (hx : x < 32) : (bits .and .u64 ((x : Int) / 16) 1 == 1) = x.testBit 4 := by rw [show (x : Int) / 16 = ((x / 16 : Nat) : Int) by omega, bit_and _ (by omega), Nat.testBit_eq_decide_div_mod_eq]

theorem u64_info : (Try.prog.info? 126).map (fun i => (i.zero, i.size, i.bytes)) = some (some (.int .u64 0), 1, 8) := by kernel_rfl
noncomputable def wdRow : TypeInfo := Classical.choose (info_parts u64_info)
theorem wd_row : Try.prog.info? 126 = some wdRow ∧ wdRow.zero = some (.int .u64 0) ∧ wdRow.size = 1 ∧ wdRow.bytes = 8 := Classical.choose_spec (info_parts u64_info)

/-- 'append(v, z)' onto a row of words of the call's own. -/
theorem app_wd {ops : Array Oper} {rest : List Oper} {o : Oper} {a : Act} {Q : Exit → Act → World → Prop} {W : World} (hgd : o.guard = none) (s x : Operand)
    (ho : o.op = .call { callee := .builtin .append, args := #[s, x], argTypes := #[125, 125] }) (base : Nat) (v : Value) (k : Nat) (l : List Nat) (z : Nat) (ad : Addr)
    (hs : a.eval s = v) (hown : W.ownsRow base 126 1 v k (wds l)) (hx : a.eval x = .slice (some ad) 1 1) (had : W.cell? ad = some (.int .u64 (z : Int))) (hk : k < 1000000000000) (hb : base ≤ W.heap.size)
    (h : ∀ v' w', w'.ownsRow base 126 1 v' (k + 1) (wds (l ++ [z])) → Below base W w' → wpList Try.prog ops Q rest (a.put o.dst v') w') :
    wpList Try.prog ops Q (o :: rest) a W := by
  have hcell : ∀ (j : Nat) (u : Value), [Value.int .u64 (z : Int)][j]? = some u → W.cell? (ad.add j) = some u := by
    intro j u hu
    cases j with
    | zero => rw [add_zero', had]; simpa using hu
    | succ j => simp at hu
  refine wpList_append_own _ hgd s x 125 ho base 126 wdRow (.int .u64 0) 1 8 Try.underlying125 wd_row.1 wd_row.2.1 wd_row.2.2.1 wd_row.2.2.2 rfl (by decide) v k _ hs hown ad 1 1 [.int .u64 z] hx rfl hcell ?_ (by unfold maxLen; omega) (by omega) hb ?_
  · intro u hu; simp at hu; subst hu; rfl
  · intro v' w' h1 h2 _
    exact h v' w' (by simpa [wds] using h1) ((Below.refl base W).grown h2 hb (fun g hg => (hown.lt g hg).1))

set_option maxRecDepth 100000 in
set_option maxHeartbeats 2000000 in
theorem usedBy_impl (A : Option Addr) (n c : Nat) (l : List Tm) (vars : Int) (w : World) (h : Rd w w.heap.size 4 A n (tms l)) (hn : n ≤ maxLen) :
    Calls Try.prog 89 #[.slice A n c, .int .i64 vars] w (GivesInts w (usedL l vars)) := by
  have hl := Lib.hid h.tlen
  cases g : validB l vars
  · have e : usedL l vars = [] := by unfold usedL; rw [g]; rfl
    rw [e]
    have G := Lib.hid g
    clear e g
    go_enter Try.func89, Try.ntmps89
    go_wp2_with fail
    refine (valid_impl A n c l vars _ h hn).mono ?_
    rintro e w1 ⟨rfl, b1⟩
    rw [G.out]
    go_wp2
    go_ret
    exact ⟨_, rfl, World.ownsRow_nil _ _ _ _, b1⟩
  · obtain ⟨s1, s2, s3, s4⟩ := valid_small g
    have hs1 : 1 ≤ n := by have := hl.out; omega
    have hs2 : n ≤ 40 := by have := hl.out; omega
    obtain ⟨p, rfl⟩ : ∃ p, n = p + 1 := ⟨n - 1, by omega⟩
    obtain ⟨vn, rfl⟩ := Int.eq_ofNat_of_zero_le s3
    have hvn : vn ≤ 5 := by omega
    have e : usedL l vn = usedTo l vn := by unfold usedL; rw [g]; rfl
    rw [e]
    have G := Lib.hid g
    clear e g
    go_enter Try.func89, Try.ntmps89
    go_wp2_with fail
    refine (valid_impl A (p + 1) c l vn _ h hn).mono ?_
    rintro e w1 ⟨rfl, b1⟩
    rw [G.out]
    go_wp2_with (first | (at_make; refine wpList_make_own _ rfl _ _ 125 rfl w.heap.size 126 wdRow _ 1 Try.underlying125 wd_row.1 wd_row.2.1 wd_row.2.2.1 _ _ _ (p + 1) rfl rfl (by omega) (by rw [wd_row.2.2.2]; omega) (by unfold maxLen; omega) b1.size ?_; intro w2 ho0 hg))
    have hb0 := b1.grown hg b1.size (by simp)
    clear hg
    go_loopg [5, 19] (p + 1) (fun m v i wr => ∃ k : Nat, k + m = p + 1 ∧ i = .int .i64 k ∧ wr.ownsRow w.heap.size 126 1 v k (wds (wsTo l k)) ∧ Below w.heap.size w wr)
    case atStart => exact ⟨0, by omega, rfl, ho0, hb0⟩
    case round =>
      clear ho0 hb0
      obtain ⟨k, hk, rfl, ho, hb⟩ := hrel
      by_cases hlt : k < p + 1
      · have hkl : k < l.length := by have := hl.out; omega
        obtain ⟨ks, hks, hne⟩ := valid_kind G.out hkl
        obtain ⟨A', c', rfl, _, _⟩ := own_form ho
        obtain ⟨ad, rfl, _, h0, h1, h2, h3⟩ := (h.below hb).tm hlt
        have HU := Lib.hid (fun o => usedOf_any (tx l k) A' k c' ks vn (wsTo l k) (wr.alloc o) (Rd.of_own (ho.alloc o)) hne (by omega) hks (ws_small G.out k (by omega)))
        have HO := Lib.hid ho
        clear hne hks ho
        go_wp2_with (first
          | (go_at_call 106; refine (HU.out _).mono ?_; rintro e w3 ⟨rfl, hb2⟩; have hb3 := below_call hb2)
          | (at_builtin; refine app_wd rfl _ _ rfl w.heap.size _ k (wsTo l k) _ _ rfl ((own_below HO.out hb3).alloc _) rfl (World.cell?_alloc_at _ _ _ _ rfl) (by omega) (by have := hb.size; have := hb3.size; simp; omega) ?_; intro v' w4 ho4 hb4))
        go_roundg (p + 1 - (k + 1))
        case measure => omega
        case rel =>
          have s5 := hb.size
          exact ⟨k + 1, by omega, by go_num, ho4, ((hb.trans (hb3.mono s5)).alloc (by have := hb3.size; omega) _).trans hb4⟩
      · obtain rfl : k = p + 1 := by omega
        obtain ⟨A', c', rfl, _, _⟩ := own_form ho
        have HO := Lib.hid ho
        clear ho
        go_wp2
        obtain ⟨w5, rfl⟩ : ∃ w5 : World, w5 = wr := ⟨_, rfl⟩
        go_loopg [8, 31] vn (fun m v i wr => ∃ j : Nat, j + m = vn ∧ i = .int .i64 j ∧ wr.ownsRow w5.heap.size 3 1 v (usedTo l j).length (ints (usedTo l j)) ∧ Below w5.heap.size w5 wr)
        case atStart => exact ⟨0, by omega, rfl, World.ownsRow_nil _ _ _ _, Below.refl _ _⟩
        case round =>
          obtain ⟨j, hj, rfl, hu, hb2⟩ := hrel
          by_cases hlt2 : j < vn
          · obtain ⟨ad, ea, hbl, hc⟩ := ((Rd.of_own HO.out).below hb2).wd (k := p) (by omega)
            subst ea
            have hx := ws_small G.out (p + 1) (by have := hl.out; omega) p
            have hbit : usesV l j = (wx (wsTo l (p + 1)) p).testBit j := by unfold usesV; rw [hl.out]; rfl
            have HB := Lib.hid hbit; clear hbit
            have HU := Lib.hid (usedTo_succ l j)
            generalize wx (wsTo l (p + 1)) p = x at *
            have HJ := Lib.hid hj
            clear hj
            have hul : (usedTo l j).length ≤ 40 := by
              unfold usedTo; rw [List.length_map]
              have := List.length_filter_le (usesV l) (List.range j)
              rw [List.length_range] at this; omega
            have B0 := bit_0 x hx
            have B1 := bit_1 x hx
            have B2 := bit_2 x hx
            have B3 := bit_3 x hx
            have B4 := bit_4 x hx
            have HH := Lib.hid hu
            clear hu
            obtain rfl | rfl | rfl | rfl | rfl : j = 0 ∨ j = 1 ∨ j = 2 ∨ j = 3 ∨ j = 4 := by omega
            · clear B1 B2 B3 B4
              cases ht : x.testBit 0
              · rw [ht] at B0
                have HT := Lib.hid ht; clear ht
                go_wp2
                go_roundg (vn - 1)
                case measure => have := HJ.out; omega
                case rel => exact ⟨1, by have := HJ.out; omega, by go_num, by rw [HU.out, HB.out, HT.out]; simpa using HH.out, hb2⟩
              · rw [ht] at B0
                have HT := Lib.hid ht; clear ht
                go_wp2_with (first | (at_builtin; refine app_int_at rfl _ _ rfl w5.heap.size _ (usedTo l 0).length (usedTo l 0) 0 _ rfl (HH.out.alloc _) rfl (World.cell?_alloc_at _ _ _ _ rfl) (by omega) (by have := hb2.size; simp; omega) ?_; intro v' w6 ho6 hb6))
                go_roundg (vn - 1)
                case measure => have := HJ.out; omega
                case rel => exact ⟨1, by have := HJ.out; omega, by go_num, by rw [HU.out, HB.out, HT.out]; simpa using ho6, (hb2.alloc hb2.size _).trans hb6⟩
            · clear B0 B2 B3 B4
              cases ht : x.testBit 1
              · rw [ht] at B1
                have HT := Lib.hid ht; clear ht
                go_wp2
                go_roundg (vn - 2)
                case measure => have := HJ.out; omega
                case rel => exact ⟨2, by have := HJ.out; omega, by go_num, by rw [HU.out, HB.out, HT.out]; simpa using HH.out, hb2⟩
              · rw [ht] at B1
                have HT := Lib.hid ht; clear ht
                go_wp2_with (first | (at_builtin; refine app_int_at rfl _ _ rfl w5.heap.size _ (usedTo l 1).length (usedTo l 1) 1 _ rfl (HH.out.alloc _) rfl (World.cell?_alloc_at _ _ _ _ rfl) (by omega) (by have := hb2.size; simp; omega) ?_; intro v' w6 ho6 hb6))
                go_roundg (vn - 2)
                case measure => have := HJ.out; omega
                case rel => exact ⟨2, by have := HJ.out; omega, by go_num, by rw [HU.out, HB.out, HT.out]; simpa using ho6, (hb2.alloc hb2.size _).trans hb6⟩
            · clear B0 B1 B3 B4
              cases ht : x.testBit 2
              · rw [ht] at B2
                have HT := Lib.hid ht; clear ht
                go_wp2
                go_roundg (vn - 3)
                case measure => have := HJ.out; omega
                case rel => exact ⟨3, by have := HJ.out; omega, by go_num, by rw [HU.out, HB.out, HT.out]; simpa using HH.out, hb2⟩
              · rw [ht] at B2
                have HT := Lib.hid ht; clear ht
                go_wp2_with (first | (at_builtin; refine app_int_at rfl _ _ rfl w5.heap.size _ (usedTo l 2).length (usedTo l 2) 2 _ rfl (HH.out.alloc _) rfl (World.cell?_alloc_at _ _ _ _ rfl) (by omega) (by have := hb2.size; simp; omega) ?_; intro v' w6 ho6 hb6))
                go_roundg (vn - 3)
                case measure => have := HJ.out; omega
                case rel => exact ⟨3, by have := HJ.out; omega, by go_num, by rw [HU.out, HB.out, HT.out]; simpa using ho6, (hb2.alloc hb2.size _).trans hb6⟩
            · clear B0 B1 B2 B4
              cases ht : x.testBit 3
              · rw [ht] at B3
                have HT := Lib.hid ht; clear ht
                go_wp2
                go_roundg (vn - 4)
                case measure => have := HJ.out; omega
                case rel => exact ⟨4, by have := HJ.out; omega, by go_num, by rw [HU.out, HB.out, HT.out]; simpa using HH.out, hb2⟩
              · rw [ht] at B3
                have HT := Lib.hid ht; clear ht
                go_wp2_with (first | (at_builtin; refine app_int_at rfl _ _ rfl w5.heap.size _ (usedTo l 3).length (usedTo l 3) 3 _ rfl (HH.out.alloc _) rfl (World.cell?_alloc_at _ _ _ _ rfl) (by omega) (by have := hb2.size; simp; omega) ?_; intro v' w6 ho6 hb6))
                go_roundg (vn - 4)
                case measure => have := HJ.out; omega
                case rel => exact ⟨4, by have := HJ.out; omega, by go_num, by rw [HU.out, HB.out, HT.out]; simpa using ho6, (hb2.alloc hb2.size _).trans hb6⟩
            · clear B0 B1 B2 B3
              cases ht : x.testBit 4
              · rw [ht] at B4
                have HT := Lib.hid ht; clear ht
                go_wp2
                go_roundg (vn - 5)
                case measure => have := HJ.out; omega
                case rel => exact ⟨5, by have := HJ.out; omega, by go_num, by rw [HU.out, HB.out, HT.out]; simpa using HH.out, hb2⟩
              · rw [ht] at B4
                have HT := Lib.hid ht; clear ht
                go_wp2_with (first | (at_builtin; refine app_int_at rfl _ _ rfl w5.heap.size _ (usedTo l 4).length (usedTo l 4) 4 _ rfl (HH.out.alloc _) rfl (World.cell?_alloc_at _ _ _ _ rfl) (by omega) (by have := hb2.size; simp; omega) ?_; intro v' w6 ho6 hb6))
                go_roundg (vn - 5)
                case measure => have := HJ.out; omega
                case rel => exact ⟨5, by have := HJ.out; omega, by go_num, by rw [HU.out, HB.out, HT.out]; simpa using ho6, (hb2.alloc hb2.size _).trans hb6⟩
          · obtain rfl : j = vn := by omega
            go_wp2
            go_ret
            exact ⟨_, rfl, own_base hu hb.size, hb.trans (hb2.mono hb.size)⟩
end Go.Proofs.Ytpaagplopefklaa
