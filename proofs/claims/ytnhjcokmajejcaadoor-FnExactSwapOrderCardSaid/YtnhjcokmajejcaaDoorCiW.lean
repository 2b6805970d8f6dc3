/- Circuits: the words of the nodes, in the program. -/
import Derived.Test.YtnhjcokmajejcaaDoorCiI
import Derived.Test.YtnhjcokmajejcaaDoorCiR
namespace Go.Proofs.YtnhjcokmajejcaaDoor
open Go.RowKit

def us (l : List Nat) : List Value := l.map fun (x : Nat) => Value.int .u64 (x : Int)
theorem us_len (l : List Nat) : (us l).length = l.length := by simp [us]
theorem us_app (l m : List Nat) : us (l ++ m) = us l ++ us m := by unfold us; exact List.map_append
theorem us_at {l : List Nat} {k : Nat} (h : k < l.length) : (us l)[k]? = some (.int .u64 (el l k : Nat)) := by
  unfold us; rw [List.getElem?_map, List.getElem?_eq_getElem h, el_lt h]; rfl
theorem us_one (l : List Nat) : ∀ u ∈ us l, u.oneCell' = true := by
  intro u hu
  unfold us at hu
  obtain ⟨x, _, rfl⟩ := List.mem_map.1 hu
  rfl
theorem u64_info : (Tryd.prog.info? 64).map (fun i => (i.zero, i.size, i.bytes)) = some (some (.int .u64 0), 1, 8) := by kernel_rfl
noncomputable def u64Row : TypeInfo := Classical.choose (info_parts u64_info)
theorem u64_row : Tryd.prog.info? 64 = some u64Row ∧ u64Row.zero = some (.int .u64 0) ∧ u64Row.size = 1 ∧ u64Row.bytes = 8 := Classical.choose_spec (info_parts u64_info)
def GivesU (w : World) (l : List Nat) (e : Ending) (w' : World) : Prop := ∃ v, e = .returned v ∧ w'.ownsRow w.heap.size 64 1 v l.length (us l) ∧ Below w.heap.size w w'

/-- 'append(v, xs...)' onto a row of words of the call's own. -/
theorem run_app_us (base : Nat) (v : Value) (k : Nat) (l m : List Nat) (c : Nat) (ty : TypeId) (W : World) (hown : W.ownsRow base 64 1 v k (us l)) (ad : Addr) (hm : ∀ j u, (us m)[j]? = some u → W.cell? (ad.add j) = some u) (hk : k + m.length < 1000000000000) (hb : base ≤ W.heap.size) :
    ∃ v' w', (Builtin.append_ #[63, 63] ty #[v, .slice (some ad) m.length c]).run Tryd.prog W = .ok v' w' ∧ w'.ownsRow base 64 1 v' (k + m.length) (us (l ++ m)) ∧ W.grownBy w' v.ownBlock := by
  obtain ⟨v', w', hrun, h1, h2, _⟩ := run_append_own (P := Tryd.prog) W base 63 ty 64 u64Row (.int .u64 0) 1 8 Tryd.underlying63 u64_row.1 u64_row.2.1 u64_row.2.2.1 u64_row.2.2.2 rfl (by decide) v k _ hown ad m.length c (us m) (by rw [us_len]; omega) hm (us_one m) (by unfold maxLen; omega) (by omega) hb
  exact ⟨v', w', hrun, by rw [us_app]; exact h1, h2⟩
theorem app_us_at {ops : Array Oper} {rest : List Oper} {o : Oper} {a : Act} {Q : Exit → Act → World → Prop} {W : World} (hgd : o.guard = none) (s x : Operand)
    (ho : o.op = .call { callee := .builtin .append, args := #[s, x], argTypes := #[63, 63] }) (base : Nat) (v : Value) (k : Nat) (l m : List Nat) (c n : Nat) (ad : Addr)
    (hs : a.eval s = v) (hown : W.ownsRow base 64 1 v k (us l)) (hx : a.eval x = .slice (some ad) n c) (hn : m.length = n) (hm : ∀ j u, (us m)[j]? = some u → W.cell? (ad.add j) = some u) (hk : k + n < 1000000000000) (hb : base ≤ W.heap.size)
    (h : ∀ v' w', w'.ownsRow base 64 1 v' (k + n) (us (l ++ m)) → Below base W w' → wpList Tryd.prog ops Q rest (a.put o.dst v') w') :
    wpList Tryd.prog ops Q (o :: rest) a W := by
  subst hn
  obtain ⟨v', w', hr, h1, h2⟩ := run_app_us base v k l m c o.type W hown ad hm hk hb
  refine wpList_plain hgd fun K hK' => ?_
  unfold Oper.wp execOp
  simp only [ho, resolve, invoke, builtin, Sem.run_bind, Sem.run_pure, Result.andThen_ok, List.map_toArray, List.map_cons, List.map_nil, hs, hx, hr]
  exact hK' _ _ (h v' w' h1 ((Below.refl base W).grown h2 hb (fun g hg => (hown.lt g hg).1)))
theorem step_app_us {ops : Array Oper} {o : Oper} {a : Act} {K : Act → World → Prop} {Q : Exit → Act → World → Prop} {E : Prop} {W : World} (hgd : o.guard = none) (s x : Operand)
    (ho : o.op = .call { callee := .builtin .append, args := #[s, x], argTypes := #[63, 63] }) (base : Nat) (v : Value) (k : Nat) (l : List Nat) (z : Nat) (ad : Addr)
    (hs : a.eval s = v) (hown : W.ownsRow base 64 1 v k (us l)) (hx : a.eval x = .slice (some ad) 1 1) (had : W.cell? ad = some (.int .u64 z)) (hk : k < 1000000000) (hb : base ≤ W.heap.size)
    (h : ∀ v' w', w'.ownsRow base 64 1 v' (k + 1) (us (l ++ [z])) → W.grownBy w' v.ownBlock → K (a.put o.dst v') w') :
    if Region.wanted o (yielded ops a.tmps) = true then Oper.wp Tryd.prog o a W K Q else E := by
  have hw : Region.wanted o (yielded ops a.tmps) = true := by simp [Region.wanted, hgd]
  rw [if_pos hw]
  obtain ⟨v', w', hr, h1, h2⟩ := run_app_us base v k l [z] 1 o.type W hown ad (by
    intro j u hu
    cases j with
    | zero => rw [add_zero', had]; simpa [us] using hu
    | succ j => simp [us] at hu) (by simp; omega) hb
  unfold Oper.wp execOp
  simp only [ho, resolve, invoke, builtin, Sem.run_bind, Sem.run_pure, Result.andThen_ok, List.map_toArray, List.map_cons, List.map_nil, hs, hx]
  simp only [List.length_cons, List.length_nil] at hr h1
  rw [hr]
  exact h v' w' h1 h2
/-- 'make([]uint64, n, C)'. -/
theorem make_us {ops : Array Oper} {rest : List Oper} {o : Oper} {a : Act} {Q : Exit → Act → World → Prop} {w : World} (hg : o.guard = none) (l c : Operand) (hop : o.op = Op.makeSlice 63 l c)
    (base : Nat) (kl kc : IntKind) (L C : Int) (n m : Nat) (hl : a.eval l = .int kl L) (hc : a.eval c = .int kc C) (hL : L = (n : Int)) (hC : C = (m : Int)) (hnm : n ≤ m) (hm : m ≤ 1000000) (hb : base ≤ w.heap.size)
    (hK : ∀ w', w'.ownsRow base 64 1 (.slice (some ⟨w.heap.size, 0, none⟩) n m) n (us (List.replicate n 0)) → w.grownBy w' none → wpList Tryd.prog ops Q rest (a.put o.dst (.slice (some ⟨w.heap.size, 0, none⟩) n m)) w') :
    wpList Tryd.prog ops Q (o :: rest) a w := by
  refine wpList_plain hg fun K hK' => ?_
  subst hL; subst hC
  have hr := run_make (P := Tryd.prog) w 63 64 u64Row (.int .u64 0) Tryd.underlying63 u64_row.1 u64_row.2.1 kl kc n m (by omega) (by omega) (by rw [u64_row.2.2.2]; omega) (by omega)
  simp only [Int.toNat_natCast, u64_row.2.2.1, Nat.mul_one] at hr
  unfold Oper.wp
  simp [execOp, hop, hl, hc, hr, Result.andThen]
  refine hK' _ _ (hK _ ⟨by rw [us_len]; simp, .inr ⟨w.heap.size, m, madeCells (Value.int .u64 0).cells m, rfl, hb, ?_, hnm, by unfold maxLen; omega, by rw [Nat.mul_one]; exact size_madeCells _ _, ?_⟩⟩ (World.grownBy_alloc w _ none))
  · show (w.heap.push _)[w.heap.size]? = _
    rw [Array.getElem?_push_size]
  · show ((madeCells #[Value.int .u64 0] m).toList).take (n * 1) = _
    rw [toList_madeCells_one, Nat.mul_one, List.take_replicate, Nat.min_eq_left hnm]
    simp [us]

/-- What a bit fills a word with. -/
def fil (d : Nat) : Nat := if d = 1 then 18446744073709551615 else 0
theorem fil_fw (e : Int) (d : Nat) (h : e % 2 = 1 ↔ d = 1) : fil d = fw (fun _ => decide (e % 2 = 1)) := by
  unfold fil
  by_cases hd : d = 1
  · rw [if_pos hd, decide_eq_true (h.2 hd)]; exact fw_all.symm
  · rw [if_neg hd, decide_eq_false (fun q => hd (h.1 q))]; exact fw_none.symm
theorem fil_lt (d : Nat) : fil d < 18446744073709551616 := by unfold fil; split <;> omega
theorem filled_any (d : Nat) (w : World) (hd : d < 2) : Calls Tryd.prog 85 #[.int .i64 d] w fun e w' => e = .returned (.int .u64 (fil d : Nat)) ∧ w = w' := by
  obtain rfl | rfl : d = 0 ∨ d = 1 := by omega
  · go_enter Tryd.func85, Tryd.ntmps85
    go_wp2
    go_ret
    exact ⟨rfl, rfl⟩
  · go_enter Tryd.func85, Tryd.ntmps85
    go_wp2
    go_ret
    exact ⟨rfl, rfl⟩
theorem size_any (s : Ci) (A : Option Addr) (c : Nat) (w : World) (h0 : 0 ≤ s.ins) (h1 : s.ins ≤ 12) (hn : s.gates.length ≤ 600) :
    Calls Tryd.prog 64 #[.agg #[.int .i64 s.ins, .slice A s.gates.length c]] w (GivesInt w s.nodes) := by
  obtain ⟨m, gs⟩ := s
  unfold Ci.nodes
  dsimp only at *
  generalize gs.length = n at *
  go_enter Tryd.func64, Tryd.ntmps64
  go_wp2
  go_ret
  exact ⟨rfl, below_alloc _ _⟩
def GivesU64 (w : World) (x : Nat) (e : Ending) (w' : World) : Prop := e = .returned (.int .u64 (x : Int)) ∧ Below w.heap.size w w'
theorem us_read {w : World} {B n k : Nat} {A : Option Addr} {l : List Nat} (h : Rd w B 1 A n (us l)) (hk : k < n) : ∃ ad, A = some ad ∧ ad.block < B ∧ w.cell? (ad.add k) = some (.int .u64 (el l k : Nat)) := by
  obtain ⟨ad, hA, hb, hc⟩ := h.2 (by omega)
  have hl : l.length = n := by have := h.1; rw [us_len] at this; omega
  exact ⟨ad, hA, hb, hc _ _ (us_at (by omega))⟩
theorem edgeWord_any (A : Option Addr) (n c : Nat) (ws : List Nat) (e : Int) (w : World) (h : Rd w w.heap.size 1 A n (us ws)) (h0 : 0 ≤ e) (h1 : e < 2 * n) (hn : n ≤ 1000000) (hw : ∀ k, k < n → el ws k < 18446744073709551616) :
    Calls Tryd.prog 67 #[.slice A n c, .int .i64 e] w (GivesU64 w (el ws (e / 2).toNat ^^^ fil (e % 2).toNat)) := by
  obtain ⟨x, d, hd, ee, e1, e2, e3, e4⟩ := edge_parts h0
  have hx : x < n := by omega
  obtain ⟨ad, rfl, hbl, d0⟩ := us_read h hx
  have e6 : (e % 2).toNat = d := by omega
  rw [e1, e6]
  have hxl := hw x hx
  have w4 : IntKind.i64.wrap (e.tdiv 2) = (x : Int) := by rw [e4]; exact IntWalk.i64_in _ (by omega)
  have hxn : (x : Int) < n := by omega
  have bx := bits_xor_u64_nat (el ws x) (fil d) hxl (fil_lt d)
  have FC := Lib.hid (fun W => filled_any d W hd)
  generalize fil d = f at *
  generalize el ws x = y at *
  generalize y ^^^ f = z at *
  have hd' : (d : Int) < 2 := by omega
  clear e1 e2 e4 h h1 ee e6 hw
  go_enter Tryd.func67, Tryd.ntmps67
  go_wp2
  go_quiet (first
    | (go_at_call 85; exact (FC.out _).mono fun e w' h => ⟨h.1, _, h.2.symm⟩))
  go_wp2
  go_ret
  exact ⟨rfl, ⟨rfl, rfl, rfl, Nat.le_refl _, fun _ _ => rfl⟩⟩
theorem edgeW_eq {l : List Ga} {C : List (Nat → Bool)} {k : Nat} {x : Int} (_h0 : 0 ≤ x) (h1 : x < 2 * ((1 + C.length + k : Nat) : Int)) : el (wsTo l C k) (x / 2).toNat ^^^ fil (x % 2).toNat = edgeW l C k x := by
  rw [edgeW_at, wsTo_at l C (by omega), ← fil_fw x (x % 2).toNat (by omega)]
theorem wsTo_lt (l : List Ga) (C : List (Nat → Bool)) {k x : Nat} (h : x < 1 + C.length + k) : el (wsTo l C k) x < 18446744073709551616 := by rw [wsTo_at l C h]; exact fw_lt _
theorem edgeW_lt (l : List Ga) (C : List (Nat → Bool)) (k : Nat) (x : Int) : edgeW l C k x < 18446744073709551616 := fw_lt _

set_option maxRecDepth 100000 in
set_option maxHeartbeats 2000000 in
theorem words_any (s : Ci) (A : Option Addr) (n c : Nat) (C : List (Nat → Bool)) (ad2 : Addr) (n2 c2 : Nat) (w : World) (h1 : Mem.rd w w.heap.size [.slice A n c] s.gates) (h2 : Rd w w.heap.size 1 (some ad2) n2 (us (C.map fw))) (ok : s.Ok) (hC : (C.length : Int) = s.ins) :
    Calls Tryd.prog 68 #[.agg #[.int .i64 s.ins, .slice A n c], .slice (some ad2) n2 c2] w (GivesU w (wsTo s.gates C s.gates.length)) := by
  have l1 := rd_len h1
  have l2 : C.length = n2 := by have := h2.1; rw [us_len, List.length_map] at this; omega
  have HI := ok.hi
  have HF := ok.few
  have HG := Lib.hid ok.gate
  have HS := Lib.hid (fun W => size_any s A c W ok.lo ok.hi ok.few)
  rw [l1] at HS
  have en : s.nodes = ((1 + n2 + n : Nat) : Int) := by unfold Ci.nodes; omega
  rw [en] at HS
  obtain ⟨m, gs⟩ := s
  dsimp only at *
  obtain rfl : m = (n2 : Int) := by omega
  have L1 := Lib.hid l1
  have L2 := Lib.hid l2
  have hn : n ≤ 600 := by omega
  have hn2 : n2 ≤ 12 := by omega
  have BX := Lib.hid (ci_box (w := w) (v1 := .int .i64 n2) (v2 := .slice A n c) (t := 29))
  have H2 : Hid (∀ W, Below w.heap.size w W → ∀ j u, (us (C.map fw))[j]? = some u → W.cell? (ad2.add j) = some u) := Lib.hid (fun W B j u hu => by
    have hj : j < n2 := by have := (List.getElem?_eq_some_iff.1 hu).1; rw [us_len, List.length_map] at this; omega
    obtain ⟨ad, e, hb, hc⟩ := h2.2 (by omega)
    injection e with e; subst e
    exact cell_below B (by rw [add_block]; exact hb) (hc j u hu))
  have LM : Hid ((C.map fw).length = n2) := Lib.hid (by rw [List.length_map]; exact l2)
  clear l1 l2 HI HF ok hC en h2
  go_enter Tryd.func68, Tryd.ntmps68
  go_wp2_with fail
  refine (HS.out _).mono ?_
  rintro e w1 ⟨rfl, b1⟩
  have z1 := b1.size
  rw [World.size_alloc] at z1
  go_wp2_with (first | (at_make; refine make_us rfl _ _ rfl (w.heap.size + 1) .i64 .i64 _ _ 1 (1 + n2 + n) rfl rfl rfl rfl (by omega) (by omega) (by omega) ?_; intro w2 hown2 hg2
                        have b12 := b1.trans ((Below.refl w1.heap.size w1).grown hg2 (Nat.le_refl _) (by simp) |>.mono b1.size)
                        obtain ⟨B2, x0, x1⟩ := BX.out _ b12)
                     | (at_builtin; refine app_us_at rfl _ _ rfl (w.heap.size + 1) _ 1 (List.replicate 1 0) (C.map fw) _ n2 ad2 rfl hown2 rfl LM.out (H2.out _ B2) (by omega) (by have := b12.size; rw [World.size_alloc] at this; exact this) ?_; intro v3 w3 ho3 b3
                        have b13 := b12.trans (by rw [World.size_alloc]; exact b3)
                        obtain ⟨B3, y0, y1⟩ := BX.out _ b13))
  have ho0 : w3.ownsRow (w.heap.size + 1) 64 1 v3 (1 + n2 + 0) (us (wsTo gs C 0)) := by rw [wsTo_zero]; exact ho3
  clear ho3 y0 y1 x0 x1
  go_loopg [5, 17] n (fun r v i wr => ∃ q : Nat, q + r = n ∧ i = .int .i64 q ∧ Hid (wr.ownsRow (w.heap.size + 1) 64 1 v (1 + n2 + q) (us (wsTo gs C q))) ∧ Below (w.alloc (.cells #[.int .i64 n2, .slice A n c] 29)).heap.size (w.alloc (.cells #[.int .i64 n2, .slice A n c] 29)) wr)
  case atStart => exact ⟨0, by omega, rfl, Lib.hid ho0, b13⟩
  case round =>
    clear ho0 b13 B3
    obtain ⟨q, hq, rfl, ho, hb⟩ := hrel
    obtain ⟨B, x0, x1⟩ := BX.out _ hb
    have hs1 : w.heap.size + 1 ≤ wr.heap.size := by have := hb.size; rw [World.size_alloc] at this; exact this
    by_cases hlt : q < n
    · obtain ⟨ad, rfl, hbl, d0, d1⟩ := ga_at (Mem.rd_below h1 B) hlt
      have ok1 := HG.out q (by rw [L1.out]; exact hlt)
      have HV := Lib.hid (wsTo_succ gs C q)
      rcases ho.out.2 with ⟨_, hz⟩ | ⟨g, cap, cur, rfl, _, _⟩
      · omega
      have gl := ho.out.lt g rfl
      have EW := Lib.hid (fun W (hW : Below wr.heap.size wr W) x (z0 : 0 ≤ x) (z1 : x < 2 * ((1 + n2 + q : Nat) : Int)) => by
        have k := edgeWord_any (some ⟨g, 0, none⟩) (1 + n2 + q) cap (wsTo gs C q) x W (Rd.of_own (own_below ho.out hW)) z0 z1 (by omega) (fun j hj => wsTo_lt gs C (by rw [L2.out]; exact hj))
        rw [edgeW_eq z0 (by rw [L2.out]; exact z1)] at k
        exact k)
      have HO := Lib.hid (fun W (hW : Below wr.heap.size wr W) => own_below ho.out hW)
      have la := edgeW_lt gs C q
      generalize edgeW gs C q = E at *
      generalize el gs q = G at *
      obtain ⟨a, b⟩ := G
      obtain ⟨a0, a1, b0, b1'⟩ := ok1
      dsimp only at *
      have bx := bits_and_u64_nat (E a) (E b) (la a) (la b)
      generalize E a &&& E b = z at *
      have kn : (q : Int) < n := by omega
      clear la
      go_wp2
      go_region_held3 (fun w' => w'.cell? ⟨wr.heap.size, 0, none⟩ = some (.int .i64 a) ∧ w'.cell? ⟨wr.heap.size, 1, none⟩ = some (.int .i64 b))
        (first
          | go_keep
          | (refine ⟨?_, ?_⟩
             · exact cell_grown hg4 (by simp; have := b6.size; have := b5.size; simp at this; omega) (by simp [Value.ownBlock]; omega) (K0.out _)
             · exact cell_grown hg4 (by simp; have := b6.size; have := b5.size; simp at this; omega) (by simp [Value.ownBlock]; omega) (K1.out _)))
        (first
          | (go_at_call 67; refine (EW.out _ B5 b b0 (by omega)).mono ?_; rintro e w6 ⟨rfl, b6⟩
             have B6 := B5.trans (b6.mono B5.size)
             have r0 := cell_below b6 (p := ⟨wr.heap.size, 0, none⟩) (by show wr.heap.size < w5.heap.size; have := b5.size; simp at this; omega) q0
             have r1 := cell_below b6 (p := ⟨wr.heap.size, 1, none⟩) (by show wr.heap.size < w5.heap.size; have := b5.size; simp at this; omega) q1
             have K0 := Lib.hid (fun o => (World.cell?_alloc_lt w6 o ⟨wr.heap.size, 0, none⟩ (by show wr.heap.size < w6.heap.size; have := b6.size; have := b5.size; simp at this; omega)).trans r0)
             have K1 := Lib.hid (fun o => (World.cell?_alloc_lt w6 o ⟨wr.heap.size, 1, none⟩ (by show wr.heap.size < w6.heap.size; have := b6.size; have := b5.size; simp at this; omega)).trans r1))
          | (go_at_call 67; refine (EW.out _ ((below_alloc wr (.cells #[.int .i64 a, .int .i64 b] 90)).drew) a a0 (by omega)).mono ?_; rintro e w5 ⟨rfl, b5'⟩
             have b5 : Below (wr.alloc (.cells #[.int .i64 a, .int .i64 b] 90)).heap.size (wr.alloc (.cells #[.int .i64 a, .int .i64 b] 90)) w5 := ⟨b5'.os, b5'.tape, b5'.output, b5'.size, b5'.block⟩
             have B5 := (below_alloc wr (.cells #[.int .i64 a, .int .i64 b] 90)).trans (b5.mono (by simp))
             have q0 := (ci_box _ b5).2.1
             have q1 := (ci_box _ b5).2.2)
          | (refine step_app_us (by rfl) _ _ (by rfl) (w.heap.size + 1) _ (1 + n2 + q) _ z _ (by rfl) (own_of_heap ((HO.out _ B6).alloc _) rfl) (by rfl) (by first | exact World.cell?_alloc_at _ _ _ _ (by simp) | (simp [go_sem]; done)) (by omega) (by simp; have := B6.size; omega) ?_; intro v' w4 ho4 hg4))
      all_goals
        go_wp2
        go_roundg (n - (q + 1))
        case measure => omega
        case rel =>
          refine ⟨q + 1, by omega, by go_num, Lib.hid (by rw [HV.out]; exact ho4), ?_⟩
          have hb6 := hb.trans (B6.mono hb.size)
          have z6 := hb6.size
          have hq : ∀ g', (Value.slice (some ⟨g, 0, none⟩) (1 + n2 + q) cap).ownBlock = some g' → w.heap.size + 1 ≤ g' := fun g' hg' => by simp [Value.ownBlock] at hg'; omega
          first
            | exact (hb6.alloc z6 _).grown hg4 (by simp at *; omega) (fun g' hg' => by rw [World.size_alloc]; exact hq g' hg')
            | exact ((hb6.alloc z6 _).drew).grown hg4 (by simp at *; omega) (fun g' hg' => by rw [World.size_alloc]; exact hq g' hg')
            | exact ((hb6.drew).alloc z6 _).grown hg4 (by simp at *; omega) (fun g' hg' => by rw [World.size_alloc]; exact hq g' hg')
    · obtain rfl : q = n := by omega
      go_wp2
      go_ret
      refine ⟨_, rfl, ?_, B⟩
      rw [wsTo_len, L2.out, L1.out]
      exact own_lower ho.out (by omega)
end Go.Proofs.YtnhjcokmajejcaaDoor
