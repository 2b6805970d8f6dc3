/- For every input the law FnValueBits returns true: a number comes back from its bits, whatever is drawn. -/
import Derived.Test.YtffkdmaedojcjaaOb
import Derived.Test.YtffkdmaedojcjaaBitI
import Derived.Test.YtffkdmaedojcjaaBitU
import Derived.Test.YtffkdmaedojcjaaEqSy
import Derived.Test.YtffkdmaedojcjaaIntApp
import Derived.BigFrame
namespace Go.Proofs.Ytffkdmaedojcjaa
open Go.ChangeShapes Go.WideShapes Go.ChangeAt Go.RowKit

theorem wcInts_same (A A' : Option Addr) (n c n' c' : Nat) (l : List Int) (w : World) (h : Mem.rd w w.heap.size [.slice A n c] l) (h' : Mem.rd w w.heap.size [.slice A' n' c'] l) :
    Calls Try.prog 6 #[.slice A n c, .slice A' n' c'] w (GivesBool w true) := by
  have e1 := rd_len h
  have e2 := rd_len h'
  obtain rfl : n = n' := by omega
  have hm := rd_max h
  unfold maxLen at hm
  have q := (rd_ints.1 h).2
  have q' := (rd_ints.1 h').2
  go_enter Try.func6, Try.ntmps6
  go_wp2
  go_loopg [5, 6, 14] n (fun m i5 i6 i wr => ∃ k : Nat, k + m = n ∧ i = .int .i64 k ∧ Below w.heap.size w wr)
  case atStart => exact ⟨0, by omega, rfl, Below.refl _ _⟩
  case round =>
    obtain ⟨k, hk, rfl, hb⟩ := hrel
    by_cases hlt : k < n
    · have kn : (k : Int) < n := by omega
      obtain ⟨ad, rfl, hbl, d0⟩ := (q.below hb).int hlt
      obtain ⟨ad', rfl, hbl', d1⟩ := (q'.below hb).int hlt
      have nn : (ix l k != ix l k) = false := by simp
      go_wp2
      go_roundg (n - (k + 1))
      case measure => omega
      case rel => exact ⟨k + 1, by omega, by go_num, hb⟩
    · obtain rfl : k = n := by omega
      go_wp2
      go_ret
      exact ⟨rfl, hb⟩

theorem app_want {ops : Array Oper} {rest : List Oper} {o : Oper} {a : Act} {Q : Exit → Act → World → Prop} {W w' : World} {v v' : Value} {n c : Nat} {ad : Addr} (hw : Region.wanted o (yielded ops a.tmps) = true) (s x : Operand)
    (ho : o.op = .call { callee := .builtin .append, args := #[s, x], argTypes := #[25, 25] }) (hs : a.eval s = v) (hx : a.eval x = .slice (some ad) n c)
    (hr : (Builtin.append_ #[25, 25] o.type #[v, .slice (some ad) n c]).run Try.prog W = .ok v' w') (h : wpList Try.prog ops Q rest (a.put o.dst v') w') : wpList Try.prog ops Q (o :: rest) a W := by
  refine BigFrame.wpList_want hw fun K hK' => ?_
  unfold Oper.wp execOp
  simp only [ho, resolve, invoke, builtin, Sem.run_bind, Sem.run_pure, Result.andThen_ok, List.map_toArray, List.map_cons, List.map_nil, hs, hx, hr]
  exact hK' _ _ h
/-- Two numbers that were drawn. -/
def GivesTwo (w : World) (e : Ending) (w' : World) : Prop := ∃ a b : Int, e = .returned (.tuple #[.int .i64 a, .int .i64 b]) ∧ Below w.heap.size w w'

set_option maxRecDepth 100000 in
set_option maxHeartbeats 4000000 in
theorem drawValueBits_any (A : Option Addr) (n c : Nat) (w : World) (hc : n ≤ c) (hb : Bys w w.heap.size A n) :
    Calls Try.prog 4 #[.slice A n c] w (GivesTwo w) := by
  have OC := Lib.hid (open_any A n c w hc hb)
  clear hb hc
  go_enter Try.func4, Try.ntmps4
  go_wp2_with fail
  refine (OC.out).mono ?_
  rintro e w2 ⟨g, A2, m2, c2, rfl, k2, by2, hg, b2⟩
  have BY := Lib.hid (fun W (B : Below w.heap.size w W) => by2.keep (w' := W) (fun q hq => B.cell hq))
  obtain ⟨W3, hW3⟩ : ∃ W, W = w2.alloc (.cells #[.int .i64 1, .int .i64 2, .int .i64 3, .int .i64 5, .int .i64 8, .int .i64 12, .int .i64 13, .int .i64 0, .int .i64 (-1), .int .i64 4] 3) := ⟨_, rfl⟩
  have hlt2 := k2.lt
  have b3 : Below w.heap.size w W3 := by rw [hW3]; exact b2.alloc b2.size _
  have k3 : Blk W3 g 42 [.slice A2 m2 c2, .int .i64 ((0 : Nat) : Int)] := by rw [hW3]; exact k2.alloc _
  have n3 : Nums W3 g (some ⟨w2.heap.size, 0, none⟩) 10 := by
    rw [hW3]
    refine nums_new w2 g _ 10 _ (by omega) fun i hi => ?_
    match i, hi with
    | 0, _ => exact ⟨_, rfl⟩
    | 1, _ => exact ⟨_, rfl⟩
    | 2, _ => exact ⟨_, rfl⟩
    | 3, _ => exact ⟨_, rfl⟩
    | 4, _ => exact ⟨_, rfl⟩
    | 5, _ => exact ⟨_, rfl⟩
    | 6, _ => exact ⟨_, rfl⟩
    | 7, _ => exact ⟨_, rfl⟩
    | 8, _ => exact ⟨_, rfl⟩
    | 9, _ => exact ⟨_, rfl⟩
    | j + 10, h => omega
  have N3 := Lib.hid (num_any g A2 m2 c2 0 w.heap.size (some ⟨w2.heap.size, 0, none⟩) 10 10 W3 k3 (BY.out W3 b3) hg (by omega) (by omega) (by omega) n3)
  clear n3 k3 k2 by2
  go_wp2_with fail
  rw [← hW3]
  clear hW3
  refine (N3.out).mono ?_
  rintro e w4 ⟨z, rfl, k4, o4⟩
  have b4 := b3.trans (only_below o4 hg b3.size)
  have P4 := Lib.hid (pick_any g A2 m2 c2 (0 + 1) 8 w.heap.size w4 k4 (BY.out w4 b4) hg (by omega) (by omega) (by omega))
  clear b3 b2 o4 k4 N3
  go_wp2_with fail
  refine (P4.out).mono ?_
  rintro e w5 ⟨x5, _, rfl, k5, o5⟩
  have b5 := b4.trans (only_below o5 hg b4.size)
  have P5 := Lib.hid (pick_any g A2 m2 c2 (0 + 1 + 1) 200 w.heap.size w5 k5 (BY.out w5 b5) hg (by omega) (by omega) (by omega))
  clear b4 o5 k5 P4
  go_wp2_with fail
  refine (P5.out).mono ?_
  rintro e w6 ⟨x6, _, rfl, k6, o6⟩
  have b6 := b5.trans (only_below o6 hg b5.size)
  have P6 := Lib.hid (pick_any g A2 m2 c2 (0 + 1 + 1 + 1) 4 w.heap.size w6 k6 (BY.out w6 b6) hg (by omega) (by omega) (by omega))
  clear b5 o6 k6 P5
  go_wp2_with fail
  refine (P6.out).mono ?_
  rintro e w7 ⟨x7, _, rfl, k7, o7⟩
  have b7 := b6.trans (only_below o7 hg b6.size)
  have hlt7 := k7.lt
  obtain ⟨W8, hW8⟩ : ∃ W, W = w7.alloc (.cells #[.int .i64 x5, .int .i64 x6, .int .i64 0, .int .i64 1, .int .i64 4095, .int .i64 4096, .int .i64 (-1), .int .i64 7, .int .i64 8, .int .i64 x7] 3) := ⟨_, rfl⟩
  have b8 : Below w.heap.size w W8 := by rw [hW8]; exact b7.alloc b7.size _
  have k8 : Blk W8 g 42 [.slice A2 m2 c2, .int .i64 ((0 + 1 + 1 + 1 + 1 : Nat) : Int)] := by rw [hW8]; exact k7.alloc _
  have n8 : Nums W8 g (some ⟨w7.heap.size, 0, none⟩) 10 := by
    rw [hW8]
    refine nums_new w7 g _ 10 _ (by omega) fun i hi => ?_
    match i, hi with
    | 0, _ => exact ⟨_, rfl⟩
    | 1, _ => exact ⟨_, rfl⟩
    | 2, _ => exact ⟨_, rfl⟩
    | 3, _ => exact ⟨_, rfl⟩
    | 4, _ => exact ⟨_, rfl⟩
    | 5, _ => exact ⟨_, rfl⟩
    | 6, _ => exact ⟨_, rfl⟩
    | 7, _ => exact ⟨_, rfl⟩
    | 8, _ => exact ⟨_, rfl⟩
    | 9, _ => exact ⟨_, rfl⟩
    | j + 10, h => omega
  have N8 := Lib.hid (num_any g A2 m2 c2 (0 + 1 + 1 + 1 + 1) w.heap.size (some ⟨w7.heap.size, 0, none⟩) 10 10 W8 k8 (BY.out W8 b8) hg (by omega) (by omega) (by omega) n8)
  clear b6 o7 k7 P6 n8 k8 b7
  go_wp2_with fail
  rw [← hW8]
  clear hW8
  refine (N8.out).mono ?_
  rintro e w9 ⟨z9, rfl, k9, o9⟩
  have b9 := b8.trans (only_below o9 hg b8.size)
  go_wp2_with fail
  refine bodyPost_ret (v := .tuple #[.int .i64 z9, .int .i64 z]) (by simp [results, Try.results4, go_sem]) rfl ?_
  exact ⟨z9, z, rfl, b9⟩

theorem valueBits_cases (n many : Int) : (valueBitsB n many = [] ∧ (many ≤ 0 ∨ 12 < many ∨ n < 0 ∨ ((2 ^ many.toNat : Nat) : Int) ≤ n)) ∨ (∃ N m : Nat, n = N ∧ many = m ∧ 1 ≤ m ∧ m ≤ 12 ∧ N < 2 ^ m ∧ valueBitsB n many = bitsN N m) := by
  unfold valueBitsB
  obtain ⟨X, hX⟩ : ∃ X, X = 2 ^ many.toNat := ⟨_, rfl⟩
  rw [← hX]
  by_cases h1 : 0 ≤ many ∧ many ≤ 12
  · by_cases h2 : 0 ≤ n ∧ n < (X : Int)
    · rw [if_pos (by simp [h1, h2])]
      by_cases h0 : many = 0
      · left
        subst h0
        exact ⟨rfl, .inl (Int.le_refl _)⟩
      · right
        exact ⟨n.toNat, many.toNat, by omega, by omega, by omega, by omega, by rw [← hX]; omega, rfl⟩
    · left
      rw [if_neg (by simp; omega)]
      exact ⟨rfl, by omega⟩
  · left
    rw [if_neg (by simp; omega)]
    exact ⟨rfl, by omega⟩
theorem numN_bits {n m : Nat} : ∀ k, k ≤ m → numN (bitsN n m) k = n / 2 ^ (m - k) % 2 ^ k
  | 0, _ => by simp [numN, Nat.mod_one]
  | k + 1, h => by
    show numN (bitsN n m) k * 2 + (ix (bitsN n m) k).toNat = _
    rw [numN_bits k (by omega), bitsN_ix (show k < m by omega)]
    unfold bt
    rw [Int.toNat_natCast, show m - 1 - k = m - (k + 1) by omega]
    have e : m - k = (m - (k + 1)) + 1 := by omega
    rw [e, Nat.pow_succ, ← Nat.div_div_eq_div_mul, Nat.pow_succ]
    generalize n / 2 ^ (m - (k + 1)) = y
    generalize 2 ^ k = p
    rw [Nat.mul_comm p 2, Nat.mod_mul]
    omega
theorem bits_back {n m : Nat} (hm : m ≤ 12) (h : n < 2 ^ m) : bitsValB (bitsN n m) = n := by
  unfold bitsValB
  have ha : areB (bitsN n m) = true := by
    unfold areB
    rw [allTo_true, bitsN_len]
    intro i hi
    unfold bitAt
    rw [bitsN_ix hi]
    have := bt_01 n m i
    unfold inB
    simp; omega
  rw [bitsN_len, ha, decide_eq_true hm, numN_bits m (Nat.le_refl _), Nat.sub_self, Nat.pow_zero, Nat.div_one, Nat.mod_eq_of_lt h]
  rfl
theorem two_bad (l : List Int) : bitsValB (2 :: l) = -1 := by
  unfold bitsValB
  have ha : areB (2 :: l) = false := by
    cases h : areB (2 :: l)
    · rfl
    · unfold areB at h
      have := allTo_true.1 h 0 (by simp)
      unfold bitAt at this
      have q : inB 2 0 1 = true := this
      revert q
      decide
  rw [ha, Bool.and_false]; rfl

set_option maxRecDepth 100000 in
set_option maxHeartbeats 8000000 in
theorem slVb_any (A : Option Addr) (n c : Nat) (w : World) (hc : n ≤ c) (hm : n ≤ maxLen) (hb : Bys w w.heap.size A n) :
    Calls Try.prog 3 #[.slice A n c] w (GivesBool w true) := by
  unfold maxLen at hm
  by_cases big : 1048576 < n
  · have big' : (1048576 : Int) < n := by omega
    go_enter Try.func3, Try.ntmps3
    go_wp2
    go_ret
    exact ⟨rfl, Below.refl _ _⟩
  · have big' : ¬ ((1048576 : Int) < n) := by omega
    have DC := Lib.hid (drawValueBits_any A n c w hc hb)
    clear hb hc
    go_enter Try.func3, Try.ntmps3
    go_wp2_with fail
    refine (DC.out).mono ?_
    rintro e w2 ⟨a, b, rfl, b2⟩
    rcases valueBits_cases a b with ⟨he, hcs⟩ | ⟨N, m, rfl, rfl, hm1, hm2, hN, he⟩
    · have IC := Lib.hid (valueBits_impl a b)
      have SC := Lib.hid (valueBits_spec a b)
      rw [he] at IC SC
      have HCS := Lib.hid hcs
      clear he hcs
      go_wp2_with fail
      refine (IC.out _).mono ?_
      rintro e w3 ⟨A3, n3, c3, f3, rfl, o3, nd3, lo3, b3⟩
      have l3 := rd_len (Mem.own_rd o3)
      obtain rfl : n3 = 0 := by simpa using l3.symm
      have B3 := b2.trans (b3.mono b2.size)
      clear l3
      go_wp2_with fail
      refine (SC.out _).mono ?_
      rintro e w4 ⟨A4, n4, c4, f4, rfl, o4, nd4, lo4, b4⟩
      have o3' := Mem.own_below o3 b4
      have B4 := B3.trans (b4.mono B3.size)
      go_wp2_with fail
      refine (wcInts_same A3 A4 0 c3 n4 c4 [] _ (Mem.own_rd o3') (Mem.own_rd o4)).mono ?_
      rintro e w5 ⟨rfl, b5⟩
      have B5 := B4.trans (b5.mono B4.size)
      clear o3 o4 o3' nd3 nd4 lo3 lo4 b3 b4 b5
      rcases HCS.out with q | q | q | q
      · clear HCS
        go_wp2
        go_ret
        exact ⟨rfl, B5⟩
      · have q0 : ¬ (b ≤ 0) := by omega
        clear HCS
        go_wp2
        go_ret
        exact ⟨rfl, B5⟩
      · by_cases q0 : b ≤ 0
        · clear HCS
          go_wp2
          go_ret
          exact ⟨rfl, B5⟩
        · by_cases q1 : 12 < b
          · clear HCS
            go_wp2
            go_ret
            exact ⟨rfl, B5⟩
          · clear HCS
            go_wp2
            go_ret
            exact ⟨rfl, B5⟩
      · by_cases q0 : b ≤ 0
        · clear HCS q
          go_wp2
          go_ret
          exact ⟨rfl, B5⟩
        · by_cases q1 : 12 < b
          · clear HCS q
            go_wp2
            go_ret
            exact ⟨rfl, B5⟩
          · by_cases q2 : a < 0
            · clear HCS q
              go_wp2
              go_ret
              exact ⟨rfl, B5⟩
            · obtain ⟨m, rfl⟩ : ∃ m : Nat, b = m := ⟨b.toNat, by omega⟩
              have hm12 : m ≤ 12 := by omega
              obtain ⟨hsh, h4⟩ := pow_shl hm12
              rw [Int.toNat_natCast] at q
              have hm64 : m ≤ 64 := by omega
              have q1' : ¬ (12 < m) := by omega
              clear HCS hm12
              generalize (2 ^ m : Nat) = X at *
              go_wp2
              go_ret
              exact ⟨rfl, B5⟩
    · have IC := Lib.hid (valueBits_impl N m)
      have SC := Lib.hid (valueBits_spec N m)
      rw [he] at IC SC
      have hl : (bitsN N m).length = m := bitsN_len N m
      have hback := bits_back hm2 hN
      have BC := Lib.hid (fun A n c W h => bitsValue_impl (bitsN N m) A n c W h)
      have BT := Lib.hid (fun A n c W h => bitsValue_impl (2 :: bitsN N m) A n c W h)
      rw [hback] at BC
      rw [two_bad] at BT
      have HL := Lib.hid hl
      clear he hback hl hN
      generalize bitsN N m = L at *
      have nn : ((N : Int) == (N : Int)) = true := by simp
      have m0 : ¬ ((m : Int) = 0) := by omega
      go_wp2_with fail
      refine (IC.out _).mono ?_
      rintro e w3 ⟨A3, n3, c3, f3, rfl, o3, nd3, lo3, b3⟩
      have l3 := rd_len (Mem.own_rd o3)
      rw [HL.out] at l3
      subst l3
      have B3 := b2.trans (b3.mono b2.size)
      go_wp2_with fail
      refine (SC.out _).mono ?_
      rintro e w4 ⟨A4, n4, c4, f4, rfl, o4, nd4, lo4, b4⟩
      have o3' := Mem.own_below o3 b4
      have B4 := B3.trans (b4.mono B3.size)
      go_wp2_with fail
      refine (wcInts_same A3 A4 m c3 n4 c4 L _ (Mem.own_rd o3') (Mem.own_rd o4)).mono ?_
      rintro e w5 ⟨rfl, b5⟩
      have B5 := B4.trans (b5.mono B4.size)
      have o5 := Mem.own_below o3' b5
      have R5 := Lib.hid (Mem.own_rd o5)
      clear o3 o4 o3' nd3 nd4 lo3 lo4 b3 b4 b5 o5
      go_wp2_with fail
      refine (BC.out A3 m c3 _ R5.out).mono ?_
      rintro e w6 ⟨rfl, b6⟩
      have B6 := B5.trans (b6.mono B5.size)
      have R6 := rd_ints.1 (Mem.rd_on R5.out b6)
      obtain ⟨ad3, rfl, hbl, hcells⟩ := R6.2.2 (by omega)
      have O7 := World.ownsRow_lit (base := w6.heap.size) (e := 3) (size := 1) w6 #[.int .i64 2] 1 (Nat.le_refl _) (by unfold maxLen; omega) rfl
      obtain ⟨v7, w7, hr, ho7, hg7⟩ := run_app_ints w6.heap.size _ 1 [2] L c3 25 (w6.alloc (.cells #[.int .i64 2] 3)) O7 ad3 (fun j u hu => (World.cell?_alloc_lt w6 _ _ (by rw [add_block]; exact hbl)).trans (hcells j u hu)) (by rw [HL.out]; omega) (by simp)
      rw [HL.out] at hr ho7
      have b7 : Below w6.heap.size w6 w7 := (below_alloc w6 _).grown hg7 (by simp) (fun k hk => (O7.lt k hk).1)
      obtain ⟨A7, c7, rfl, _, _⟩ := own_form ho7
      have hl7 : (2 :: L).length = 1 + m := by rw [List.length_cons, HL.out]; omega
      obtain ⟨f7, om7, _, _⟩ := mem_ints (l := 2 :: L) (by rw [hl7]; exact ho7) (by rw [hl7]; unfold maxLen; omega)
      rw [hl7] at om7
      have BK := Lib.hid (BT.out A7 (1 + m) c7 w7 (Mem.own_rd om7))
      have B7 := B6.trans (b7.mono B6.size)
      clear O7 ho7 hg7 om7 hl7 R6 hcells hbl
      have HR := Lib.hid hr
      clear hr
      go_wp2_with (first
        | (at_builtin; refine app_want (by kernel_rfl) _ _ rfl rfl rfl HR.out ?_)
        | fail)
      refine (BK.out).mono ?_
      rintro e w8 ⟨rfl, b8⟩
      go_wp2
      go_ret
      exact ⟨rfl, B7.trans (b8.mono B7.size)⟩

set_option maxRecDepth 100000 in
set_option maxHeartbeats 1000000 in
theorem slVb_lifted (os : Os) (started : os.Started) (H : Type) (enc : TypeId × Value → H) :
    ReturnsInHanded {} Try.checked os 3 .any (Rows.fnValueBitsSpec.pre6 enc Try.prog Try.f3 Rows.fnValueBitsRow.domain false) (Rows.fnValueBitsSpec.post enc Try.prog Try.f3 false true false false) := by
  refine returnsInHanded_of_change (C := Try.checked) Try.own started (by kernel_rfl) Try.func3
    (ChangeSpec.witness6 (enc := enc) (C := Try.checked) false ⟨#[], #[.slice none 0 0], []⟩ 8 (by kernel_rfl) (by kernel_rfl) (by kernel_rfl) (by kernel_rfl)) ?_
  intro W base args ds gs before hval0 hW hcnd _
  have hval : ∀ (j : Nat) t v, Try.f3.params[j]? = some t → args[j]? = some v → Value.okWide Try.prog W .any base t v := hval0
  have hW' := hW
  have hW2 := hW
  obtain ⟨p, q, hA0, hV, rfl, hfz, hnd⟩ := hW2
  have hA : DataW.TrodAll enc Try.prog W 0 (fun _ => true) true Try.f3.params.toList args.toList ds p := hA0
  rw [Try.params3] at hA hval
  obtain ⟨u0, d0, rfl, rfl, h0⟩ := trodAll_one hA
  obtain ⟨rfl, rfl⟩ := trodVars_none hV
  have k0 := h0
  obtain ⟨A, n, c, rfl, hc, hm, hb0⟩ := open_bytes (hval 0 22 u0 rfl rfl) h0
  clear hA0 hval0
  simp only [List.append_nil] at hW'
  have hlt : ∀ x ∈ p, x.block < W.heap.size := fun x hx => hW'.lt x (by simpa using hx)
  refine (slVb_any A n c W hc hm hb0).mono fun e W' ⟨he, hb⟩ => ?_
  subst he
  exact ⟨_, rfl, post_below (pa := p) (pv := []) hW' (fun _ _ _ => trodAll_mk1 (shut_bool Try.underlying4 _))
    (fun sp hsp => trodAll_mk1 (WideElems.Trod_stays Try.laidOut (by kernel_rfl) (of_decide_eq_true (by kernel_rfl)) k0 (fun x hx => hb.same (hlt x (by simp [hx]))) (fun x hx => hsp x (by simp [hx])))) (fun _ _ => rfl) (by simp)
    hb (ok_one (by kernel_rfl) rfl (okWide_bool_mk Try.underlying4 _))⟩

theorem slVb_holds : Rows.FnValueBitsSaid :=
  OpenClaim.holds_of_wide 3 Try.f3 rfl rfl rfl rfl rfl rfl rfl ⟨rfl, rfl, rfl, rfl, rfl⟩ rfl rfl rfl rfl rfl (by kernel_rfl) Try.func3 (by kernel_rfl)
    (of_decide_eq_true (by kernel_rfl)) (by unfold Func.isWrapper; first | (rw [if_pos (by decide +kernel)]; kernel_rfl) | (rw [if_neg (by decide +kernel)]; exact ⟨rfl, rfl⟩))
    (fun os started H enc _ => slVb_lifted os started H enc)
end Go.Proofs.Ytffkdmaedojcjaa
