/- Fixed, in the program: arguments that are allowed. -/
import Derived.Test.YtnhjcokmajejcaaFxN
import Derived.Test.YtnhjcokmajejcaaMkE
import Derived.Deep.RegionHeld3
namespace Go.Proofs.Ytnhjcokmajejcaa
open Go.RowKit
set_option maxRecDepth 100000

theorem along_at (A : Option Addr) (n c : Nat) (l : List Int) (e : Int) (w : World) (h : Rd w w.heap.size 1 A n (ints l)) (e0 : 0 ≤ e) (hx : (e / 2).toNat < n) (hn : n ≤ 1000000) (y0 : 0 ≤ ix l (e / 2).toNat) (y1 : ix l (e / 2).toNat < 1000000) :
    Calls Try.prog 59 #[.slice A n c, .int .i64 e] w fun r w' => r = .returned (.int .i64 (atE l e)) ∧ w = w' := by
  obtain ⟨y, hy⟩ := Int.eq_ofNat_of_zero_le y0
  have hd : (e % 2).toNat < 2 := by omega
  have E : (((y ^^^ (e % 2).toNat : Nat)) : Int) = atE l e := by
    unfold atE
    rw [hy, xor_bit y _ hd]
    by_cases q : e % 2 = 1
    · rw [if_pos q, if_pos (by omega)]
      unfold notE
      rw [if_neg (by omega)]
      omega
    · rw [if_neg q, if_neg (by omega)]
  refine (along_any A n c l e (e / 2).toNat (e % 2).toNat y w h hd (by omega) hx hy hn (by omega)).mono ?_
  rintro r w' ⟨rfl, rfl⟩
  exact ⟨by rw [E], rfl⟩
/-- The even edges of the first k nodes. -/
def evE : Nat → List Int
  | 0 => []
  | k + 1 => evE k ++ [2 * (k : Int)]
theorem evE_len : ∀ k, (evE k).length = k
  | 0 => rfl
  | k + 1 => by unfold evE; rw [List.length_append, evE_len k]; rfl
theorem evE_at : ∀ {k j : Nat}, j < k → ix (evE k) j = 2 * j
  | 0, j, h => by omega
  | k + 1, j, h => by
    unfold evE
    by_cases q : j < k
    · unfold ix; rw [List.getElem?_append_left (by rw [evE_len]; exact q)]; exact evE_at q
    · obtain rfl : j = k := by omega
      unfold ix
      rw [List.getElem?_append_right (by rw [evE_len]; exact Nat.le_refl _), evE_len]
      simp
theorem evE_set {k i : Nat} {val : Int} (_h : i < k) : (evE k).set i val = fx0 ((i : Int) - 1) val k := by
  refine List.ext_getElem? fun j => ?_
  by_cases hj : j < k
  · have h1 := fx0_at (inp := (i : Int) - 1) (val := val) hj
    have h2 := evE_at hj
    have L1 : j < (fx0 ((i : Int) - 1) val k).length := by rw [fx0_len]; exact hj
    have L2 : j < (evE k).length := by rw [evE_len]; exact hj
    rw [ix_lt L1] at h1
    rw [ix_lt L2] at h2
    rw [List.getElem?_set, List.getElem?_eq_getElem L1, h1]
    by_cases q : i = j
    · rw [if_pos q, if_pos (by omega), if_pos (by omega)]
    · rw [if_neg q, if_neg (by omega), List.getElem?_eq_getElem L2, h2]
  · rw [List.getElem?_eq_none (by rw [List.length_set, evE_len]; omega), List.getElem?_eq_none (by rw [fx0_len]; omega)]
theorem ints_set (l : List Int) (i : Nat) (v : Int) : (ints l).set i (.int .i64 v) = ints (l.set i v) := by unfold ints; rw [List.map_set]
theorem rd_nil_ga (W : World) : Mem.rd W W.heap.size [.slice none 0 0] ([] : List Ga) := Mem.own_rd (fp := []) ⟨none, 0, 0, rfl, Nat.zero_le _, rfl, .inl ⟨rfl, rfl⟩⟩
theorem fxOk_yes2 {s : Ci} {edge inp val : Int} (h : fxOk s edge inp val = true) : ckB s = true ∧ isE s edge = true ∧ (0 ≤ inp ∧ inp < s.ins) ∧ (val = 0 ∨ val = 1) := by
  unfold fxOk at h
  simpa [and_assoc] using h
theorem run_app_int_f (base : Nat) (v : Value) (k : Nat) (l : List Int) (z : Int) (ty : TypeId) (W : World) (hown : W.ownsRow base 3 1 v k (ints l)) (ad : Addr) (had : W.cell? ad = some (.int .i64 z)) (hk : k < 1000000000) (hb : base ≤ W.heap.size) :
    ∃ v' w', (Builtin.append_ #[26, 26] ty #[v, .slice (some ad) 1 1]).run Try.prog W = .ok v' w' ∧ w'.ownsRow base 3 1 v' (k + 1) (ints (l ++ [z])) ∧ W.grownBy w' v.ownBlock ∧ (v'.ownBlock = v.ownBlock ∨ v'.ownBlock = some W.heap.size) := by
  have hm : ∀ (j : Nat) (u : Value), [Value.int .i64 z][j]? = some u → W.cell? (ad.add j) = some u := by
    intro j u hu
    cases j with
    | zero => rw [add_zero', had]; simpa using hu
    | succ j => simp at hu
  obtain ⟨v', w', hrun, h1, h2, _, h4⟩ := run_append_own_at (P := Try.prog) W base 26 ty 3 intRow (.int .i64 0) 1 8 Try.underlying26 int_row.1 int_row.2.1 int_row.2.2.1 int_row.2.2.2 rfl (by decide) v k _ hown ad 1 1 [.int .i64 z] rfl hm (by intro u hu; simp at hu; subst hu; rfl) (by unfold maxLen; omega) (by omega) hb
  refine ⟨v', w', hrun, ?_, h2, ?_⟩
  · have e : ints l ++ [Value.int .i64 z] = ints (l ++ [z]) := by simp [ints]
    rw [e] at h1; exact h1
  · rcases h4 with h | h
    · exact .inl h
    · exact .inr h
theorem step_app_int_f {ops : Array Oper} {o : Oper} {a : Act} {K : Act → World → Prop} {Q : Exit → Act → World → Prop} {E : Prop} {W : World} (hgd : o.guard = none) (s x : Operand)
    (ho : o.op = .call { callee := .builtin .append, args := #[s, x], argTypes := #[26, 26] }) (base : Nat) (v : Value) (k : Nat) (l : List Int) (z : Int) (ad : Addr)
    (hs : a.eval s = v) (hown : W.ownsRow base 3 1 v k (ints l)) (hx : a.eval x = .slice (some ad) 1 1) (had : W.cell? ad = some (.int .i64 z)) (hk : k < 1000000000) (hb : base ≤ W.heap.size)
    (h : ∀ v' w', w'.ownsRow base 3 1 v' (k + 1) (ints (l ++ [z])) → W.grownBy w' v.ownBlock → (v'.ownBlock = v.ownBlock ∨ v'.ownBlock = some W.heap.size) → K (a.put o.dst v') w') :
    if Region.wanted o (yielded ops a.tmps) = true then Oper.wp Try.prog o a W K Q else E := by
  have hw : Region.wanted o (yielded ops a.tmps) = true := by simp [Region.wanted, hgd]
  rw [if_pos hw]
  obtain ⟨v', w', hr, h1, h2, h3⟩ := run_app_int_f base v k l z o.type W hown ad had hk hb
  unfold Oper.wp execOp
  simp only [ho, resolve, invoke, builtin, Sem.run_bind, Sem.run_pure, Result.andThen_ok, List.map_toArray, List.map_cons, List.map_nil, hs, hx, hr]
  exact h v' w' h1 h2 h3
theorem wp_app_int_f {o : Oper} {a : Act} {K : Act → World → Prop} {Q : Exit → Act → World → Prop} {W : World} (s x : Operand)
    (ho : o.op = .call { callee := .builtin .append, args := #[s, x], argTypes := #[26, 26] }) (base : Nat) (v : Value) (k : Nat) (l : List Int) (z : Int) (ad : Addr)
    (hs : a.eval s = v) (hown : W.ownsRow base 3 1 v k (ints l)) (hx : a.eval x = .slice (some ad) 1 1) (had : W.cell? ad = some (.int .i64 z)) (hk : k < 1000000000) (hb : base ≤ W.heap.size)
    (h : ∀ v' w', w'.ownsRow base 3 1 v' (k + 1) (ints (l ++ [z])) → W.grownBy w' v.ownBlock → (v'.ownBlock = v.ownBlock ∨ v'.ownBlock = some W.heap.size) → K (a.put o.dst v') w') : Oper.wp Try.prog o a W K Q := by
  obtain ⟨v', w', hr, h1, h2, h3⟩ := run_app_int_f base v k l z o.type W hown ad had hk hb
  unfold Oper.wp execOp
  simp only [ho, resolve, invoke, builtin, Sem.run_bind, Sem.run_pure, Result.andThen_ok, List.map_toArray, List.map_cons, List.map_nil, hs, hx, hr]
  exact h v' w' h1 h2 h3
theorem own_same {w w' : World} {base size n : Nat} {t : TypeId} {v : Value} {xs : List Value} (h : w.ownsRow base t size v n xs) (e : ∀ b, v.ownBlock = some b → w'.heap[b]? = w.heap[b]?) : w'.ownsRow base t size v n xs := by
  obtain ⟨hl, h⟩ := h
  refine ⟨hl, ?_⟩
  rcases h with h | ⟨g, cap, cur, hv, hb, hg, r⟩
  · exact .inl h
  · exact .inr ⟨g, cap, cur, hv, hb, (e g (by rw [hv]; rfl)).trans hg, r⟩
theorem mine_ltC {w : World} {base g b : Nat} {c : Ci} {full : Bool} (h : MkAt w base g c full) (hb : mineC w g b) : b < w.heap.size := by
  obtain ⟨A, cc, bm, cnt, D, kg, ho, hm, _⟩ := h
  rcases (mineC_iff kg).1 hb with q | q | q
  · rw [q]; exact kg.lt
  · rw [q]; exact hm.lt
  · exact (ho.lt b q).2
theorem mk_grown {w w' : World} {base g : Nat} {c : Ci} {full : Bool} {row : Option Nat} (h : MkAt w base g c full) (hg : w.grownBy w' row) (hr : ∀ b, row = some b → ¬ mineC w g b) : MkAt w' base g c full ∧ ∀ b, mineC w' g b ↔ mineC w g b := by
  obtain ⟨A, cc, bm, cnt, D, kg, ho, hm, r⟩ := h
  have ng : row ≠ some g := fun e => hr g e ((mineC_iff kg).2 (.inl rfl))
  have nm : row ≠ some bm := fun e => hr bm e ((mineC_iff kg).2 (.inr (.inl rfl)))
  have no : (Value.slice A c.gates.length cc).ownBlock = none ∨ (Value.slice A c.gates.length cc).ownBlock ≠ row := by
    cases q : (Value.slice A c.gates.length cc).ownBlock with
    | none => exact .inl rfl
    | some b => exact .inr (fun e => hr b e.symm ((mineC_iff kg).2 (.inr (.inr q))))
  exact ⟨⟨A, cc, bm, cnt, D, blk_on hg kg rfl ng, ho.kept hg no, map_on hg hm rfl nm, r⟩, fun b => mineC_heap (hg.block g kg.lt (fun e => ng e.symm))⟩

/-- What stands in the loop over the gates: the maker, and what the nodes became. -/
def AtFx (base b2 g N j : Nat) (r : Ci × List Int) (v : Value) (W W' : World) : Prop :=
  MkAt W' base g r.1 false ∧ W'.ownsRow b2 3 1 v (1 + N + j) (ints r.2) ∧ (∀ b, v.ownBlock = some b → ¬ mineC W' g b) ∧ Below base W W'

set_option maxHeartbeats 8000000 in
theorem fixed_impl_yes (s : Ci) (edge inp val : Int) (A : Option Addr) (n c : Nat) (w : World) (h1 : Mem.rd w w.heap.size [.slice A n c] s.gates) (hy : fxOk s edge inp val = true) :
    Calls Try.prog 21 #[.agg #[.int .i64 s.ins, .slice A n c], .int .i64 edge, .int .i64 inp, .int .i64 val] w (GivesCiN w (fxTo s inp val s.gates.length).1 (atE (fxTo s inp val s.gates.length).2 edge)) := by
  obtain rfl : s.gates.length = n := rd_len h1
  obtain ⟨k1, q0, ⟨i0, i1⟩, hv⟩ := fxOk_yes2 hy
  have ok := ckB_iff.1 k1
  have BX := Lib.hid (two_boxes w #[.int .i64 s.ins, .slice A s.gates.length c] #[.int .i64 0, .slice none 0 0] 49 49)
  have B0 : Below w.heap.size w ((w.alloc (.cells #[.int .i64 s.ins, .slice A s.gates.length c] 49)).alloc (.cells #[.int .i64 0, .slice none 0 0] 49)) := (below_alloc w _).alloc (by simp) _
  have HE := Lib.hid (fun W (B : Below w.heap.size w W) => hasEdges_any s A s.gates.length c (some ⟨W.heap.size, 0, none⟩) 1 1 [edge] (W.alloc (.cells #[.int .i64 edge] 3)) (Mem.rd_on_alloc (Mem.rd_on h1 B) _) (rd_new1 W edge))
  rw [show (ckB s && areE s [edge]) = true by simp [areE, k1, q0]] at HE
  have HE0 := HE.out _ B0
  simp only [World.size_alloc] at HE0
  have lo := ok.lo
  have hi := ok.hi
  have few := ok.few
  obtain ⟨N, hN⟩ : ∃ N : Nat, s.ins = N := ⟨s.ins.toNat, by omega⟩
  obtain ⟨M, hM⟩ : ∃ M : Nat, M = 1 + N + s.gates.length := ⟨_, rfl⟩
  have nod : s.nodes = (M : Int) := by unfold Ci.nodes; omega
  have gd0 : Gd ⟨s.ins, []⟩ := ⟨lo, hi, by show (0 : Nat) ≤ 600; omega, fun k hk => absurd hk (by show ¬ k < 0; omega)⟩
  have MO := Lib.hid (fun W => makerOf_any ⟨s.ins, []⟩ none 0 0 W (rd_nil_ga W) gd0)
  have SZ := Lib.hid (fun W => size_any s A c W lo hi few)
  have INV := Lib.hid (fun k (hk : k ≤ s.gates.length) => fx_inv (val := val) ok i0 i1 hv hk)
  have GT := Lib.hid ok.gate
  have HQ := Lib.hid (isE_iff.1 q0)
  have F0 : Hid ((fxTo s inp val 0) = (⟨s.ins, []⟩, fx0 inp val (1 + N))) := Lib.hid (by show (_, fx0 inp val (1 + s.ins).toNat) = _; rw [hN, show (1 + (N : Int)).toNat = 1 + N by omega])
  have FX : Hid (∀ k, fxTo s inp val (k + 1) = ((andB (fxTo s inp val k).1 (atE (fxTo s inp val k).2 (el s.gates k).a) (atE (fxTo s inp val k).2 (el s.gates k).b)).1, (fxTo s inp val k).2 ++ [(andB (fxTo s inp val k).1 (atE (fxTo s inp val k).2 (el s.gates k).a) (atE (fxTo s inp val k).2 (el s.gates k).b)).2])) := Lib.hid (fun k => rfl)
  have H1 := Lib.hid (fun W (B : Below w.heap.size w W) => Mem.rd_below h1 B)
  generalize fxTo s inp val = T at *
  obtain ⟨I, hI⟩ : ∃ I : Nat, inp = I := ⟨inp.toNat, by omega⟩
  have EV : Hid (∀ k : Nat, evE (k + 1) = evE k ++ [2 * (k : Int)]) := Lib.hid (fun k => rfl)
  have EL := Lib.hid evE_len
  have E0 : Hid (ints (evE 0) = []) := Lib.hid rfl
  have ES := Lib.hid (evE_set (k := 1 + N) (i := 1 + I) (val := val) (by omega))
  rw [show ((1 + I : Nat) : Int) - 1 = inp by omega] at ES
  subst hI
  rw [hN] at MO SZ BX B0 HE0 F0 ⊢
  rw [nod] at SZ
  have hNI : I < N := by omega
  have nN : N ≤ 12 := by omega
  have HM := Lib.hid hM
  have HN := Lib.hid hN
  have w1N : IntKind.i64.wrap (1 + (N : Int)) = ((1 + N : Nat) : Int) := by rw [show 1 + (N : Int) = ((1 + N : Nat) : Int) by omega]; exact IntWalk.i64_in _ (by omega)
  have w1I : IntKind.i64.wrap (1 + (I : Int)) = ((1 + I : Nat) : Int) := by rw [show 1 + (I : Int) = ((1 + I : Nat) : Int) by omega]; exact IntWalk.i64_in _ (by omega)
  have gI0 : ¬ (I : Int) < 0 := by omega
  have gI1 : ¬ (N : Int) ≤ (I : Int) := by omega
  have hM6 : M ≤ 1000 := by omega
  clear hy k1 q0 ok nod gd0 lo hi HE h1 hM hN i0 i1
  have V0 : Hid (0 ≤ val ∧ val ≤ 1) := Lib.hid (by omega)
  have RM : Hid (∀ k, k ≤ s.gates.length → ∀ x, 0 ≤ x → x < 2 * (1 + (N : Int) + k) → edIn (T k).1 (atE (T k).2 x) ∧ 0 ≤ ix (T k).2 (x / 2).toNat ∧ ix (T k).2 (x / 2).toNat < 1000000) := Lib.hid (fun k hk x x0 x1 => by
    have J := INV.out k hk
    have e := J.ed (x / 2).toNat (by have := J.nodes; have := HN.out; omega)
    have l := edIn.lt J e
    exact ⟨J.at x0 (by have := HN.out; omega), by omega, by omega⟩)
  have R00 : True := trivial
  clear R00
  have S1 : ∀ (w1 : World), Below ((w.alloc (.cells #[.int .i64 N, .slice A s.gates.length c] 49)).alloc (.cells #[.int .i64 0, .slice none 0 0] 49)).heap.size ((w.alloc (.cells #[.int .i64 N, .slice A s.gates.length c] 49)).alloc (.cells #[.int .i64 0, .slice none 0 0] 49)) w1 → True := fun _ _ => trivial
  clear S1
  rcases hv with rfl | rfl
  · go_enter Try.func21, Try.ntmps21
    go_wp2_with fail
    refine HE0.mono ?_
    rintro e w1 ⟨rfl, b1'⟩
    have b1 := below_call b1'
    obtain ⟨B1, kb1, kr1⟩ := BX.out _ b1
    have x0 := kb1.cell 0
    have x1 := kb1.cell 1
    simp only [List.getElem?_cons_zero, List.getElem?_cons_succ] at x0 x1
    go_wp2_with fail
    refine (MO.out _).mono ?_
    rintro e w2 ⟨g, rfl, hm2, c2⟩
    have b2 := b1.trans (c2.mono b1.size)
    obtain ⟨B2, kb2, kr2⟩ := BX.out _ b2
    have x0 := kb2.cell 0
    have x1 := kb2.cell 1
    simp only [List.getElem?_cons_zero, List.getElem?_cons_succ] at x0 x1
    go_wp2_with fail
    refine (SZ.out _).mono ?_
    rintro e w3 ⟨rfl, c3⟩
    have b3 := b2.trans (c3.mono b2.size)
    have hm3 := mk_below hm2 c3
    obtain ⟨B3, kb3, kr3⟩ := BX.out _ b3
    have x0 := kb3.cell 0
    have x1 := kb3.cell 1
    simp only [List.getElem?_cons_zero, List.getElem?_cons_succ] at x0 x1
    have B13 := Lib.hid (c2.trans (c3.mono c2.size))
    have HM3 := Lib.hid hm3
    have lz := kr3.lt
    clear b1' b2 c2 c3 hm2 hm3 B1 B2 kb1 kb2 kr1 kr2 HE0 MO SZ
    go_wp2_with (first | (at_make; refine wpList_make_own _ rfl _ _ 26 rfl w3.heap.size 3 intRow _ 1 Try.underlying26 int_row.1 int_row.2.1 int_row.2.2.1 _ _ _ M rfl rfl rfl (by rw [int_row.2.2.2]; omega) (by unfold maxLen; omega) (Nat.le_refl _) ?_; intro w4 hown4 hg4
                          have c4 : Below w3.heap.size w3 w4 := (Below.refl _ _).grown hg4 (Nat.le_refl _) (by simp)
                          have b4 := b3.trans (c4.mono b3.size)
                          obtain ⟨B4, kb4, kr4⟩ := BX.out _ b4
                          have x0 := kb4.cell 0
                          have x1 := kb4.cell 1
                          simp only [List.getElem?_cons_zero, List.getElem?_cons_succ] at x0 x1))
    go_loopg [11, 49] (1 + N) (fun mm v i wr => ∃ k : Nat, k + mm = 1 + N ∧ i = .int .i64 k ∧ Hid (wr.ownsRow w3.heap.size 3 1 v k (ints (evE k))) ∧ Hid (Below w3.heap.size w3 wr))
    case atStart => exact ⟨0, by omega, rfl, by rw [E0.out]; exact Lib.hid hown4, Lib.hid c4⟩
    case round =>
      clear x0 x1 hown4 c4 b4 B4 kb4 kr4 hg4
      obtain ⟨k, hk, rfl, HO, HB⟩ := hrel
      have b5 := b3.trans (HB.out.mono b3.size)
      obtain ⟨B5, kb5, kr5⟩ := BX.out _ b5
      have hs5 := HB.out.size
      by_cases hlt : k < 1 + N
      · have kn : (k : Int) < ((1 + N : Nat) : Int) := by omega
        have EK := Lib.hid (EV.out k)
        go_wp2_with (first
          | (go_at_call 57; refine (evenEdge_any _ _ (by omega) (by omega)).mono ?_; rintro e w6 ⟨rfl, rfl⟩)
          | (at_builtin; refine app_int_at rfl _ _ rfl w3.heap.size _ k _ _ _ rfl (HO.out.alloc _) rfl (World.cell?_alloc_at _ _ _ _ (by simp)) (by omega) (by rw [World.size_alloc]; omega) ?_; intro v' w7 ho7 hb7))
        go_roundg (1 + N - (k + 1))
        case measure => omega
        case rel => exact ⟨k + 1, by omega, by go_num, by rw [EK.out]; exact Lib.hid ho7, Lib.hid ((HB.out.alloc hs5 _).trans hb7)⟩
      · obtain rfl : k = 1 + N := by omega
        have kn : ¬ ((1 + N : Nat) : Int) < ((1 + N : Nat) : Int) := by omega
        obtain ⟨gb, capb, rfl, hgb, lgb⟩ := HO.out.form (by omega)
        have ST := HO.out.stored (1 + I) (.int .i64 0)
        rw [ints_set, ES.out] at ST
        have zi := HO.out.cellAt (1 + I) (by omega)
        have zl : 1 + I < (ints (evE (1 + N))).length := by rw [len_ints, EL.out]; omega
        rw [List.getElem?_eq_getElem zl] at zi
        have zf := HO.out.frozenAt (1 + I)
        have nb1 : w.heap.size ≠ gb := by omega
        have x1w := kb5.cell 1
        simp only [List.getElem?_cons_zero, List.getElem?_cons_succ] at x1w
        have x1s : (wr.setCell ⟨gb, 1 + I, none⟩ (.int .i64 0)).cell? ⟨w.heap.size, 1, none⟩ = some (.slice A s.gates.length c) := (World.cell?_of_block (setCell_heap wr ⟨gb, 1 + I, none⟩ _ nb1)).trans x1w
        have hI9 : ((1 + I : Nat) : Int) < ((1 + N : Nat) : Int) := by omega
        have hI8 : 1 + I < 1 + N := by omega
        have c6 := HB.out.setCell (p := ⟨gb, 1 + I, none⟩) hgb (.int .i64 0)
        have SX : Hid (AtFx w1.heap.size w3.heap.size g N 0 (T 0) (.slice (some ⟨gb, 0, none⟩) (1 + N) capb) w1 (wr.setCell ⟨gb, 1 + I, none⟩ (.int .i64 0))) := by
          refine Lib.hid ⟨?_, ?_, fun b hb hmine => ?_, B13.out.trans (c6.mono B13.out.size)⟩
          · rw [F0.out]; exact mk_below HM3.out c6
          · rw [F0.out]; exact ST.1
          · injection hb with hb
            have q := (mineC_heap (c6.block g (mkAt_lt HM3.out))).1 hmine
            have := mine_ltC HM3.out q
            dsimp only at hb
            omega
        clear b5 kb5 kr5 x1w ST HB HO c6 B5
        go_wp2
        go_loopg [11, 66] s.gates.length (fun mm v i wr => ∃ j : Nat, j + mm = s.gates.length ∧ i = .int .i64 j ∧ Hid (AtFx w1.heap.size w3.heap.size g N j (T j) v w1 wr))
        case atStart => exact ⟨0, by omega, rfl, SX⟩
        case round =>
          clear SX zi zf x1s
          obtain ⟨j, hj, rfl, HS⟩ := hrel
          obtain ⟨Av, cv, hvv⟩ := row_slice HS.out.2.1
          subst hvv
          have b7 := b1.trans (HS.out.2.2.2.mono b1.size)
          obtain ⟨B7, kb7, kr7⟩ := BX.out _ b7
          have hs7 := HS.out.2.2.2.size
          have hb2 : w3.heap.size ≤ wr.heap.size := HS.out.2.1.2.elim (fun h => by omega) (fun ⟨g9, _, _, _, hb9, hg9, _⟩ => by have := (Array.getElem?_eq_some_iff.1 hg9).1; omega)
          by_cases hlt : j < s.gates.length
          · obtain ⟨ad, rfl, hbl, d0, d1⟩ := ga_at (H1.out _ B7) hlt
            have hbl' : (ad.add (j * 2)).block < wr.heap.size := by rw [add_block]; have := B7.size; omega
            have jn : (j : Int) < s.gates.length := by omega
            have ok1 := GT.out j hlt
            rw [HN.out] at ok1
            have JI := INV.out j (by omega)
            have RA := RM.out j (by omega) (el s.gates j).a ok1.1 (by have := ok1.2.1; omega)
            have RB := RM.out j (by omega) (el s.gates j).b ok1.2.2.1 (by have := ok1.2.2.2; omega)
            have EA := edIn.lt JI RA.1
            have EB := edIn.lt JI RB.1
            have RR := andB_room JI.gd.lo (by have := JI.len; omega) RA.1 RB.1
            have RN : 0 ≤ (andB (T j).1 (atE (T j).2 (el s.gates j).a) (atE (T j).2 (el s.gates j).b)).2 := RR.1.1
            have FXJ := Lib.hid (FX.out j)
            generalize T j = R at *
            generalize el s.gates j = G at *
            obtain ⟨ga, gc⟩ := G
            dsimp only at *
            obtain ⟨a0, a1, c0, c1⟩ := ok1
            dsimp only at a0 a1 c0 c1
            have xal : (ga / 2).toNat < 1 + N + j := by omega
            have xbl : (gc / 2).toNat < 1 + N + j := by omega
            have n9 : 1 + N + j ≤ 1000000 := by omega
            have ALA := Lib.hid (fun W (h : Rd W W.heap.size 1 Av (1 + N + j) (ints R.2)) => along_at Av (1 + N + j) cv R.2 ga W h a0 xal n9 RA.2.1 RA.2.2)
            have ALB := Lib.hid (fun W (h : Rd W W.heap.size 1 Av (1 + N + j) (ints R.2)) => along_at Av (1 + N + j) cv R.2 gc W h c0 xbl n9 RB.2.1 RB.2.2)
            have BG := (below_alloc wr (.cells #[.int .i64 ga, .int .i64 gc] 90)).drew
            have MKG := mk_below HS.out.1 BG
            have OWG := Lib.hid (own_below HS.out.2.1 BG)
            have RDG := Lib.hid (Rd.of_own OWG.out)
            have NMG := Lib.hid (fun b (hb : (Value.slice Av (1 + N + j) cv).ownBlock = some b) => fun q => HS.out.2.2.1 b hb ((mineC_heap (BG.block g (mkAt_lt HS.out.1))).1 q))
            have NMX : Hid (¬ mineC ((wr.alloc (.cells #[.int .i64 ga, .int .i64 gc] 90)).drew) g wr.heap.size) := Lib.hid (fun q => by
              have := mine_ltC HS.out.1 ((mineC_heap (BG.block g (mkAt_lt HS.out.1))).1 q)
              omega)
            have AND := Lib.hid (and_mkF R.1 false (atE R.2 ga) (atE R.2 gc) w1.heap.size g _ MKG (Nat.le_trans hs7 BG.size) JI.gd EA.1 EA.2 EB.1 EB.2)
            have hsg : ((wr.alloc (.cells #[.int .i64 ga, .int .i64 gc] 90)).drew).heap.size = wr.heap.size + 1 := World.size_alloc _ _
            have HS3 := Lib.hid HS.out.2.2.2
            have HO0 := Lib.hid HS.out.2.1
            have g0 : ((wr.alloc (.cells #[.int .i64 ga, .int .i64 gc] 90)).drew).cell? ⟨wr.heap.size, 0, none⟩ = some (.int .i64 ga) := World.cell?_alloc_at _ _ _ _ rfl
            have g1 : ((wr.alloc (.cells #[.int .i64 ga, .int .i64 gc] 90)).drew).cell? ⟨wr.heap.size, 1, none⟩ = some (.int .i64 gc) := World.cell?_alloc_at _ _ _ _ rfl
            have BGH := Lib.hid BG
            clear RA RB EA EB RR JI MKG BG kb7 kr7 a0 a1 c0 c1 xal xbl B7 b7
            go_wp2
            refine wp_region_held_drew (S := (fun w' => w'.cell? ⟨wr.heap.size, 0, none⟩ = some (.int .i64 ga) ∧ w'.cell? ⟨wr.heap.size, 1, none⟩ = some (.int .i64 gc))) (by kernel_rfl) ?_ (fun hHeld => ?_)
            · (try dsimp only); first | exact ⟨g0, g1⟩ | exact ⟨r0, r1⟩ | exact ⟨K0.out _, K1.out _⟩ | exact ⟨r90, r91⟩
            refine wpAnyH_take (i := 0) (v := ?fv0) rfl (by kernel_rfl) (by kernel_rfl) (by kernel_rfl) (fun _ _ _ h => h) (Or.inl ⟨by kernel_rfl, ?fh0⟩) (by assumption) ?fr0
            case fh0 => ((intro w hSw; (try dsimp only at hSw); go_simp) <;> with_reducible rfl)
            (try simp only [List.getElem_toArray, List.getElem_cons_zero]); (try simp only [Act.put]); (try simp only [List.setIfInBounds_toArray]); (try simp only [List.set_cons_succ]); (try simp only [List.set_cons_zero])
            refine wpAnyH_take (i := 1) (v := ?fv1) rfl (by kernel_rfl) (by kernel_rfl) (by kernel_rfl) (fun _ _ _ h => h) (Or.inl ⟨by kernel_rfl, ?fh1⟩) (by assumption) ?fr1
            case fh1 => ((intro w hSw; (try dsimp only at hSw); go_simp) <;> with_reducible rfl)
            (try simp only [List.getElem_toArray, List.getElem_cons_zero, List.getElem_cons_succ]); (try simp only [Act.put]); (try simp only [List.setIfInBounds_toArray]); (try simp only [List.set_cons_succ]); (try simp only [List.set_cons_zero])
            refine wpAnyH_take (i := 2) (v := ?fv2) rfl (by kernel_rfl) (by kernel_rfl) (by kernel_rfl) (fun _ _ _ h => h) (Or.inl ⟨by kernel_rfl, ?fh2⟩) (by assumption) ?fr2
            case fh2 => ((intro w hSw; (try dsimp only at hSw); go_simp) <;> with_reducible rfl)
            (try simp only [List.getElem_toArray, List.getElem_cons_zero, List.getElem_cons_succ]); (try simp only [Act.put]); (try simp only [List.setIfInBounds_toArray]); (try simp only [List.set_cons_succ]); (try simp only [List.set_cons_zero])
            refine wpAnyH_take (i := 3) (v := ?fv3) rfl (by kernel_rfl) (by kernel_rfl) (by kernel_rfl) (fun _ _ _ h => h) (Or.inl ⟨by kernel_rfl, ?fh3⟩) (by assumption) ?fr3
            case fh3 => ((intro w hSw; (try dsimp only at hSw); go_simp) <;> with_reducible rfl)
            (try simp only [List.getElem_toArray, List.getElem_cons_zero, List.getElem_cons_succ]); (try simp only [Act.put]); (try simp only [List.setIfInBounds_toArray]); (try simp only [List.set_cons_succ]); (try simp only [List.set_cons_zero])
            refine wpAnyH_take (i := 4) (v := ?fv4) rfl (by kernel_rfl) (by kernel_rfl) (by kernel_rfl) (fun _ _ _ h => h) (Or.inl ⟨by kernel_rfl, ?fh4⟩) (by assumption) ?fr4
            case fh4 => ((intro w hSw; (try dsimp only at hSw); go_simp) <;> with_reducible rfl)
            (try simp only [List.getElem_toArray, List.getElem_cons_zero, List.getElem_cons_succ]); (try simp only [Act.put]); (try simp only [List.setIfInBounds_toArray]); (try simp only [List.set_cons_succ]); (try simp only [List.set_cons_zero])
            refine wpAnyH_take (i := 6) (v := ?fv6) rfl (by kernel_rfl) (by kernel_rfl) (by kernel_rfl) (fun _ _ _ h => h) (Or.inl ⟨by kernel_rfl, ?fh6⟩) (by assumption) ?fr6
            case fh6 => ((intro w hSw; (try dsimp only at hSw); go_simp) <;> with_reducible rfl)
            (try simp only [List.getElem_toArray, List.getElem_cons_zero, List.getElem_cons_succ]); (try simp only [Act.put]); (try simp only [List.setIfInBounds_toArray]); (try simp only [List.set_cons_succ]); (try simp only [List.set_cons_zero])
            refine wpAnyH_take (i := 7) (v := ?fv7) rfl (by kernel_rfl) (by kernel_rfl) (by kernel_rfl) (fun _ _ _ h => h) (Or.inl ⟨by kernel_rfl, ?fh7⟩) (by assumption) ?fr7
            case fh7 => ((intro w hSw; (try dsimp only at hSw); go_simp) <;> with_reducible rfl)
            (try simp only [List.getElem_toArray, List.getElem_cons_zero, List.getElem_cons_succ]); (try simp only [Act.put]); (try simp only [List.setIfInBounds_toArray]); (try simp only [List.set_cons_succ]); (try simp only [List.set_cons_zero])
            refine wpAnyH_take (i := 8) (v := ?fv8) rfl (by kernel_rfl) (by kernel_rfl) (by kernel_rfl) (fun _ _ _ h => h) (Or.inl ⟨by kernel_rfl, ?fh8⟩) (by assumption) ?fr8
            case fh8 => ((intro w hSw; (try dsimp only at hSw); go_simp) <;> with_reducible rfl)
            (try simp only [List.getElem_toArray, List.getElem_cons_zero, List.getElem_cons_succ]); (try simp only [Act.put]); (try simp only [List.setIfInBounds_toArray]); (try simp only [List.set_cons_succ]); (try simp only [List.set_cons_zero])
            refine wpAnyH_ready (rs := [5]) (by kernel_rfl) (by simp) ?_
            refine AllReadyH.cons (o := _) rfl (fun K hK => ?_) AllReadyH.nil
            go_simp
            refine (ALA.out _ RDG.out).mono ?_
            rintro e w6 ⟨rfl, rfl⟩
            refine hK.out _ _ ?_ (fun hHeld => ?_)
            · (try dsimp only); first | exact ⟨g0, g1⟩ | exact ⟨r0, r1⟩ | exact ⟨K0.out _, K1.out _⟩ | exact ⟨r90, r91⟩
            clear hK K
            (try simp only [List.getElem_toArray, List.getElem_cons_zero, List.getElem_cons_succ]); (try simp only [Act.put]); (try simp only [List.setIfInBounds_toArray]); (try simp only [List.set_cons_succ]); (try simp only [List.set_cons_zero])
            refine wpAnyH_ready (rs := [9]) (by kernel_rfl) (by simp) ?_
            refine AllReadyH.cons (o := _) rfl (fun K hK => ?_) AllReadyH.nil
            go_simp
            refine (ALB.out _ RDG.out).mono ?_
            rintro e w6 ⟨rfl, rfl⟩
            refine hK.out _ _ ?_ (fun hHeld => ?_)
            · (try dsimp only); first | exact ⟨g0, g1⟩ | exact ⟨r0, r1⟩ | exact ⟨K0.out _, K1.out _⟩ | exact ⟨r90, r91⟩
            clear hK K
            (try simp only [List.getElem_toArray, List.getElem_cons_zero, List.getElem_cons_succ]); (try simp only [Act.put]); (try simp only [List.setIfInBounds_toArray]); (try simp only [List.set_cons_succ]); (try simp only [List.set_cons_zero])
            refine wpAnyH_ready (rs := [10]) (by kernel_rfl) (by simp) ?_
            refine AllReadyH.cons (o := _) rfl (fun K hK => ?_) AllReadyH.nil
            go_simp
            refine (AND.out).mono ?_
            rintro e w7 ⟨⟨x7, c7, f7, rfl, hm7, hg7, q0, q1, d7, u7, v7⟩, fr7⟩
            obtain ⟨rfl, rfl, rfl⟩ := u7 rfl RN
            have r0 : w7.cell? ⟨wr.heap.size, 0, none⟩ = some (.int .i64 ga) := (World.cell?_of_block (fr7.keep wr.heap.size (by rw [hsg]; omega) NMX.out).1).trans g0
            have r1 : w7.cell? ⟨wr.heap.size, 1, none⟩ = some (.int .i64 gc) := (World.cell?_of_block (fr7.keep wr.heap.size (by rw [hsg]; omega) NMX.out).1).trans g1
            have OW7 := Lib.hid (own_same OWG.out (fun b hb => (fr7.keep b (OWG.out.lt b hb).2 (NMG.out b hb)).1))
            have NM7 := Lib.hid (fun b hb => (fr7.keep b (OWG.out.lt b hb).2 (NMG.out b hb)).2)
            have z7 := fr7.size
            have hx7 : wr.heap.size < w7.heap.size := by omega
            have HM7 := Lib.hid hm7
            have D7 := Lib.hid d7
            have K0 := Lib.hid (fun o => (World.cell?_alloc_lt w7 o ⟨wr.heap.size, 0, none⟩ hx7).trans r0)
            have K1 := Lib.hid (fun o => (World.cell?_alloc_lt w7 o ⟨wr.heap.size, 1, none⟩ hx7).trans r1)
            have hnq : (Value.slice Av (1 + N + j) cv).ownBlock ≠ some wr.heap.size := fun e => by have := (HO0.out.lt _ e).2; omega
            have hw39 : w3.heap.size ≤ (w7.alloc (.cells #[.int .i64 (andB R.1 (atE R.2 ga) (atE R.2 gc)).2] 3)).heap.size := by rw [World.size_alloc]; omega
            clear hm7 d7 u7 v7
            refine hK.out _ _ ?_ (fun hHeld => ?_)
            · (try dsimp only); first | exact ⟨g0, g1⟩ | exact ⟨r0, r1⟩ | exact ⟨K0.out _, K1.out _⟩ | exact ⟨r90, r91⟩
            clear hK K
            (try simp only [List.getElem_toArray, List.getElem_cons_zero, List.getElem_cons_succ]); (try simp only [Act.put]); (try simp only [List.setIfInBounds_toArray]); (try simp only [List.set_cons_succ]); (try simp only [List.set_cons_zero])
            refine wpAnyH_ready (rs := [11]) (by kernel_rfl) (by simp) ?_
            refine AllReadyH.cons (o := _) rfl (fun K hK => ?_) AllReadyH.nil
            go_simp
            refine hK.out _ _ ?_ (fun hHeld => ?_)
            · (try dsimp only); first | exact ⟨g0, g1⟩ | exact ⟨r0, r1⟩ | exact ⟨K0.out _, K1.out _⟩ | exact ⟨r90, r91⟩
            clear hK K
            (try simp only [List.getElem_toArray, List.getElem_cons_zero, List.getElem_cons_succ]); (try simp only [Act.put]); (try simp only [List.setIfInBounds_toArray]); (try simp only [List.set_cons_succ]); (try simp only [List.set_cons_zero])
            refine wpAnyH_ready (rs := [12]) (by kernel_rfl) (by simp) ?_
            refine AllReadyH.cons (o := _) rfl (fun K hK => ?_) AllReadyH.nil
            refine wp_app_int_f _ _ (by rfl) w3.heap.size (.slice Av (1 + N + j) cv) (1 + N + j) R.2 (andB R.1 (atE R.2 ga) (atE R.2 gc)).2 ⟨w7.heap.size, 0, none⟩ (by rfl) (OW7.out.alloc _) (by rfl) (World.cell?_alloc_at _ _ _ _ rfl) (by omega) hw39 ?_
            intro v' w9 ho9 hg9 hv9
            have r90 := cell_grown hg9 (p := ⟨wr.heap.size, 0, none⟩) (by rw [World.size_alloc]; show wr.heap.size < _; omega) (fun e => hnq e) (K0.out (.cells #[.int .i64 (andB R.1 (atE R.2 ga) (atE R.2 gc)).2] 3))
            have r91 := cell_grown hg9 (p := ⟨wr.heap.size, 1, none⟩) (by rw [World.size_alloc]; show wr.heap.size < _; omega) (fun e => hnq e) (K1.out (.cells #[.int .i64 (andB R.1 (atE R.2 ga) (atE R.2 gc)).2] 3))
            refine hK.out _ _ ?_ (fun hHeld => ?_)
            · (try dsimp only); first | exact ⟨g0, g1⟩ | exact ⟨r0, r1⟩ | exact ⟨K0.out _, K1.out _⟩ | exact ⟨r90, r91⟩
            clear hK K
            (try simp only [List.getElem_toArray, List.getElem_cons_zero, List.getElem_cons_succ]); (try simp only [Act.put]); (try simp only [List.setIfInBounds_toArray]); (try simp only [List.set_cons_succ]); (try simp only [List.set_cons_zero])
            refine wpAnyH_take (i := 13) (v := ?fv13) rfl (by kernel_rfl) (by kernel_rfl) (by kernel_rfl) (fun _ _ _ h => h) (Or.inl ⟨by kernel_rfl, ?fh13⟩) (by assumption) ?fr13
            case fh13 => ((intro w hSw; (try dsimp only at hSw); go_simp) <;> with_reducible rfl)
            (try simp only [List.getElem_toArray, List.getElem_cons_zero, List.getElem_cons_succ]); (try simp only [Act.put]); (try simp only [List.setIfInBounds_toArray]); (try simp only [List.set_cons_succ]); (try simp only [List.set_cons_zero])
            refine wpAnyH_done (by kernel_rfl) ?_ _
            have MG := mk_grown (mk_below HM7.out (below_alloc w7 (.cells #[.int .i64 (andB R.1 (atE R.2 ga) (atE R.2 gc)).2] 3))) hg9 (fun b hb q => NM7.out b hb ((mineC_heap ((below_alloc w7 _).block g (mkAt_lt HM7.out))).1 q))
            have HX : Hid (AtFx w1.heap.size w3.heap.size g N (j + 1) (T (j + 1)) v' w1 w9) := by
              rw [FXJ.out]
              refine Lib.hid ⟨MG.1, ho9, fun b hb q => ?_, ?_⟩
              · have q7 := (mineC_heap ((below_alloc w7 (.cells #[.int .i64 (andB R.1 (atE R.2 ga) (atE R.2 gc)).2] 3)).block g (mkAt_lt HM7.out))).1 ((MG.2 b).1 q)
                rcases hv9 with h | h
                · exact NM7.out b (h.symm.trans hb) q7
                · have l := mine_ltC HM7.out q7
                  rw [h, World.size_alloc] at hb
                  injection hb with hb
                  omega
              · have d : Below w1.heap.size w1 w7 := (HS3.out.trans (BGH.out.mono hs7)).trans D7.out
                exact (d.alloc d.size _).grown hg9 (by rw [World.size_alloc]; have := d.size; omega) (fun b hb => by have := (HO0.out.lt b hb).1; have := B13.out.size; omega)
            clear MG ho9 hg9 hv9 r90 r91 r0 r1 K0 K1 OW7 NM7 HM7 D7 fr7 hg7
            go_wp2
            go_roundg (s.gates.length - (j + 1))
            case measure => omega
            case rel => exact ⟨j + 1, by omega, by go_num, HX⟩
          · have je : j = s.gates.length := by omega
            have jn : ¬ (j : Int) < s.gates.length := by omega
            have RE := RM.out j (by omega) edge HQ.out.1 (by have := HQ.out.2; unfold Ci.nodes at this; have := HN.out; omega)
            have JI := INV.out j (by omega)
            have xel : (edge / 2).toNat < 1 + N + j := by have := HQ.out.1; have := HQ.out.2; unfold Ci.nodes at this; have := HN.out; omega
            have ALE := Lib.hid (along_at Av (1 + N + j) cv (T j).2 edge wr (Rd.of_own HS.out.2.1) HQ.out.1 xel (by omega) RE.2.1 RE.2.2)
            have few7 := JI.gd.few
            have HM7 := HS.out.1
            have lw1 : w.heap.size + 1 < w1.heap.size := by have := b1.size; simp only [World.size_alloc] at this; omega
            have HSR := HS.out
            clear HS RE JI H1 RM INV GT HQ FX
            obtain ⟨R, hR⟩ : ∃ R, R = T s.gates.length := ⟨_, rfl⟩
            have hRj : T j = R := by rw [hR, je]
            rw [hRj] at ALE few7 HM7
            have HRT := Lib.hid hR.symm
            clear hR hRj HSR je
            obtain ⟨⟨rm, rg⟩, rl⟩ := R
            dsimp only at ALE few7 HM7
            go_wp2_with fail
            refine ALE.out.mono ?_
            rintro e w8 ⟨rfl, rfl⟩
            clear ALE jn xel x0 x1
            obtain ⟨ye, hye⟩ : ∃ ye, ye = atE rl edge := ⟨_, rfl⟩
            rw [← hye]
            have HYE := Lib.hid hye.symm
            clear hye
            go_wp2_with fail
            refine (told_yes ⟨rm, rg⟩ ye w1.heap.size g _ HM7).mono ?_
            rintro e w9 ⟨A9, c9, rfl, o9, d9⟩
            dsimp only at o9
            have b9 := b7.trans (d9.mono b7.size)
            obtain ⟨B9, kb9, kr9⟩ := BX.out _ b9
            have f0 := kr9.frozen 0
            have f1 := kr9.frozen 1
            have y0 := kr9.cell 0
            have y1 := kr9.cell 1
            simp only [List.getElem?_cons_zero, List.getElem?_cons_succ] at y0 y1
            have n9 : (Value.slice A9 rg.length c9).ownBlock ≠ some (w.heap.size + 1) := fun e => by have := (o9.lt _ e).1; omega
            go_wp2
            have K2 := (kr9.set 0 (.int .i64 rm)).set 1 (.slice A9 rg.length c9)
            have o8 := own_away (own_away o9 (p := ⟨w.heap.size + 1, 0, none⟩) (.int .i64 rm) n9) (p := ⟨w.heap.size + 1, 1, none⟩) (.slice A9 rg.length c9) n9
            have b8 := (B9.setCell (p := ⟨w.heap.size + 1, 0, none⟩) (Nat.le_succ _) (.int .i64 rm)).setCell (p := ⟨w.heap.size + 1, 1, none⟩) (Nat.le_succ _) (.slice A9 rg.length c9)
            generalize (w9.setCell ⟨w.heap.size + 1, 0, none⟩ (.int .i64 rm)).setCell ⟨w.heap.size + 1, 1, none⟩ (.slice A9 rg.length c9) = w10 at K2 b8 o8 ⊢
            have r0 := K2.cell 0
            have r1 := K2.cell 1
            simp only [List.set_cons_zero, List.set_cons_succ, List.getElem?_cons_zero, List.getElem?_cons_succ] at r0 r1
            obtain ⟨fp, q1, q2, q3⟩ := own_flat (α := Ga) o8 rfl (by unfold maxLen; omega)
            exact bodyPost_ret (v := .tuple #[.agg #[.int .i64 rm, .slice A9 rg.length c9], .int .i64 ye]) (by simp [results, Try.results21, go_sem, r0, r1]) rfl (by rw [HRT.out]; dsimp only; rw [HYE.out]; exact ⟨A9, _, c9, fp, rfl, q1, q2, fun x hx => by have := q3 x hx; omega, b8⟩)
  · go_enter Try.func21, Try.ntmps21
    go_wp2_with fail
    refine HE0.mono ?_
    rintro e w1 ⟨rfl, b1'⟩
    have b1 := below_call b1'
    obtain ⟨B1, kb1, kr1⟩ := BX.out _ b1
    have x0 := kb1.cell 0
    have x1 := kb1.cell 1
    simp only [List.getElem?_cons_zero, List.getElem?_cons_succ] at x0 x1
    go_wp2_with fail
    refine (MO.out _).mono ?_
    rintro e w2 ⟨g, rfl, hm2, c2⟩
    have b2 := b1.trans (c2.mono b1.size)
    obtain ⟨B2, kb2, kr2⟩ := BX.out _ b2
    have x0 := kb2.cell 0
    have x1 := kb2.cell 1
    simp only [List.getElem?_cons_zero, List.getElem?_cons_succ] at x0 x1
    go_wp2_with fail
    refine (SZ.out _).mono ?_
    rintro e w3 ⟨rfl, c3⟩
    have b3 := b2.trans (c3.mono b2.size)
    have hm3 := mk_below hm2 c3
    obtain ⟨B3, kb3, kr3⟩ := BX.out _ b3
    have x0 := kb3.cell 0
    have x1 := kb3.cell 1
    simp only [List.getElem?_cons_zero, List.getElem?_cons_succ] at x0 x1
    have B13 := Lib.hid (c2.trans (c3.mono c2.size))
    have HM3 := Lib.hid hm3
    have lz := kr3.lt
    clear b1' b2 c2 c3 hm2 hm3 B1 B2 kb1 kb2 kr1 kr2 HE0 MO SZ
    go_wp2_with (first | (at_make; refine wpList_make_own _ rfl _ _ 26 rfl w3.heap.size 3 intRow _ 1 Try.underlying26 int_row.1 int_row.2.1 int_row.2.2.1 _ _ _ M rfl rfl rfl (by rw [int_row.2.2.2]; omega) (by unfold maxLen; omega) (Nat.le_refl _) ?_; intro w4 hown4 hg4
                          have c4 : Below w3.heap.size w3 w4 := (Below.refl _ _).grown hg4 (Nat.le_refl _) (by simp)
                          have b4 := b3.trans (c4.mono b3.size)
                          obtain ⟨B4, kb4, kr4⟩ := BX.out _ b4
                          have x0 := kb4.cell 0
                          have x1 := kb4.cell 1
                          simp only [List.getElem?_cons_zero, List.getElem?_cons_succ] at x0 x1))
    go_loopg [11, 49] (1 + N) (fun mm v i wr => ∃ k : Nat, k + mm = 1 + N ∧ i = .int .i64 k ∧ Hid (wr.ownsRow w3.heap.size 3 1 v k (ints (evE k))) ∧ Hid (Below w3.heap.size w3 wr))
    case atStart => exact ⟨0, by omega, rfl, by rw [E0.out]; exact Lib.hid hown4, Lib.hid c4⟩
    case round =>
      clear x0 x1 hown4 c4 b4 B4 kb4 kr4 hg4
      obtain ⟨k, hk, rfl, HO, HB⟩ := hrel
      have b5 := b3.trans (HB.out.mono b3.size)
      obtain ⟨B5, kb5, kr5⟩ := BX.out _ b5
      have hs5 := HB.out.size
      by_cases hlt : k < 1 + N
      · have kn : (k : Int) < ((1 + N : Nat) : Int) := by omega
        have EK := Lib.hid (EV.out k)
        go_wp2_with (first
          | (go_at_call 57; refine (evenEdge_any _ _ (by omega) (by omega)).mono ?_; rintro e w6 ⟨rfl, rfl⟩)
          | (at_builtin; refine app_int_at rfl _ _ rfl w3.heap.size _ k _ _ _ rfl (HO.out.alloc _) rfl (World.cell?_alloc_at _ _ _ _ (by simp)) (by omega) (by rw [World.size_alloc]; omega) ?_; intro v' w7 ho7 hb7))
        go_roundg (1 + N - (k + 1))
        case measure => omega
        case rel => exact ⟨k + 1, by omega, by go_num, by rw [EK.out]; exact Lib.hid ho7, Lib.hid ((HB.out.alloc hs5 _).trans hb7)⟩
      · obtain rfl : k = 1 + N := by omega
        have kn : ¬ ((1 + N : Nat) : Int) < ((1 + N : Nat) : Int) := by omega
        obtain ⟨gb, capb, rfl, hgb, lgb⟩ := HO.out.form (by omega)
        have ST := HO.out.stored (1 + I) (.int .i64 1)
        rw [ints_set, ES.out] at ST
        have zi := HO.out.cellAt (1 + I) (by omega)
        have zl : 1 + I < (ints (evE (1 + N))).length := by rw [len_ints, EL.out]; omega
        rw [List.getElem?_eq_getElem zl] at zi
        have zf := HO.out.frozenAt (1 + I)
        have nb1 : w.heap.size ≠ gb := by omega
        have x1w := kb5.cell 1
        simp only [List.getElem?_cons_zero, List.getElem?_cons_succ] at x1w
        have x1s : (wr.setCell ⟨gb, 1 + I, none⟩ (.int .i64 1)).cell? ⟨w.heap.size, 1, none⟩ = some (.slice A s.gates.length c) := (World.cell?_of_block (setCell_heap wr ⟨gb, 1 + I, none⟩ _ nb1)).trans x1w
        have hI9 : ((1 + I : Nat) : Int) < ((1 + N : Nat) : Int) := by omega
        have hI8 : 1 + I < 1 + N := by omega
        have c6 := HB.out.setCell (p := ⟨gb, 1 + I, none⟩) hgb (.int .i64 1)
        have SX : Hid (AtFx w1.heap.size w3.heap.size g N 0 (T 0) (.slice (some ⟨gb, 0, none⟩) (1 + N) capb) w1 (wr.setCell ⟨gb, 1 + I, none⟩ (.int .i64 1))) := by
          refine Lib.hid ⟨?_, ?_, fun b hb hmine => ?_, B13.out.trans (c6.mono B13.out.size)⟩
          · rw [F0.out]; exact mk_below HM3.out c6
          · rw [F0.out]; exact ST.1
          · injection hb with hb
            have q := (mineC_heap (c6.block g (mkAt_lt HM3.out))).1 hmine
            have := mine_ltC HM3.out q
            dsimp only at hb
            omega
        clear b5 kb5 kr5 x1w ST HB HO c6 B5
        go_wp2
        go_loopg [11, 66] s.gates.length (fun mm v i wr => ∃ j : Nat, j + mm = s.gates.length ∧ i = .int .i64 j ∧ Hid (AtFx w1.heap.size w3.heap.size g N j (T j) v w1 wr))
        case atStart => exact ⟨0, by omega, rfl, SX⟩
        case round =>
          clear SX zi zf x1s
          obtain ⟨j, hj, rfl, HS⟩ := hrel
          obtain ⟨Av, cv, hvv⟩ := row_slice HS.out.2.1
          subst hvv
          have b7 := b1.trans (HS.out.2.2.2.mono b1.size)
          obtain ⟨B7, kb7, kr7⟩ := BX.out _ b7
          have hs7 := HS.out.2.2.2.size
          have hb2 : w3.heap.size ≤ wr.heap.size := HS.out.2.1.2.elim (fun h => by omega) (fun ⟨g9, _, _, _, hb9, hg9, _⟩ => by have := (Array.getElem?_eq_some_iff.1 hg9).1; omega)
          by_cases hlt : j < s.gates.length
          · obtain ⟨ad, rfl, hbl, d0, d1⟩ := ga_at (H1.out _ B7) hlt
            have hbl' : (ad.add (j * 2)).block < wr.heap.size := by rw [add_block]; have := B7.size; omega
            have jn : (j : Int) < s.gates.length := by omega
            have ok1 := GT.out j hlt
            rw [HN.out] at ok1
            have JI := INV.out j (by omega)
            have RA := RM.out j (by omega) (el s.gates j).a ok1.1 (by have := ok1.2.1; omega)
            have RB := RM.out j (by omega) (el s.gates j).b ok1.2.2.1 (by have := ok1.2.2.2; omega)
            have EA := edIn.lt JI RA.1
            have EB := edIn.lt JI RB.1
            have RR := andB_room JI.gd.lo (by have := JI.len; omega) RA.1 RB.1
            have RN : 0 ≤ (andB (T j).1 (atE (T j).2 (el s.gates j).a) (atE (T j).2 (el s.gates j).b)).2 := RR.1.1
            have FXJ := Lib.hid (FX.out j)
            generalize T j = R at *
            generalize el s.gates j = G at *
            obtain ⟨ga, gc⟩ := G
            dsimp only at *
            obtain ⟨a0, a1, c0, c1⟩ := ok1
            dsimp only at a0 a1 c0 c1
            have xal : (ga / 2).toNat < 1 + N + j := by omega
            have xbl : (gc / 2).toNat < 1 + N + j := by omega
            have n9 : 1 + N + j ≤ 1000000 := by omega
            have ALA := Lib.hid (fun W (h : Rd W W.heap.size 1 Av (1 + N + j) (ints R.2)) => along_at Av (1 + N + j) cv R.2 ga W h a0 xal n9 RA.2.1 RA.2.2)
            have ALB := Lib.hid (fun W (h : Rd W W.heap.size 1 Av (1 + N + j) (ints R.2)) => along_at Av (1 + N + j) cv R.2 gc W h c0 xbl n9 RB.2.1 RB.2.2)
            have BG := (below_alloc wr (.cells #[.int .i64 ga, .int .i64 gc] 90)).drew
            have MKG := mk_below HS.out.1 BG
            have OWG := Lib.hid (own_below HS.out.2.1 BG)
            have RDG := Lib.hid (Rd.of_own OWG.out)
            have NMG := Lib.hid (fun b (hb : (Value.slice Av (1 + N + j) cv).ownBlock = some b) => fun q => HS.out.2.2.1 b hb ((mineC_heap (BG.block g (mkAt_lt HS.out.1))).1 q))
            have NMX : Hid (¬ mineC ((wr.alloc (.cells #[.int .i64 ga, .int .i64 gc] 90)).drew) g wr.heap.size) := Lib.hid (fun q => by
              have := mine_ltC HS.out.1 ((mineC_heap (BG.block g (mkAt_lt HS.out.1))).1 q)
              omega)
            have AND := Lib.hid (and_mkF R.1 false (atE R.2 ga) (atE R.2 gc) w1.heap.size g _ MKG (Nat.le_trans hs7 BG.size) JI.gd EA.1 EA.2 EB.1 EB.2)
            have hsg : ((wr.alloc (.cells #[.int .i64 ga, .int .i64 gc] 90)).drew).heap.size = wr.heap.size + 1 := World.size_alloc _ _
            have HS3 := Lib.hid HS.out.2.2.2
            have HO0 := Lib.hid HS.out.2.1
            have g0 : ((wr.alloc (.cells #[.int .i64 ga, .int .i64 gc] 90)).drew).cell? ⟨wr.heap.size, 0, none⟩ = some (.int .i64 ga) := World.cell?_alloc_at _ _ _ _ rfl
            have g1 : ((wr.alloc (.cells #[.int .i64 ga, .int .i64 gc] 90)).drew).cell? ⟨wr.heap.size, 1, none⟩ = some (.int .i64 gc) := World.cell?_alloc_at _ _ _ _ rfl
            have BGH := Lib.hid BG
            clear RA RB EA EB RR JI MKG BG kb7 kr7 a0 a1 c0 c1 xal xbl B7 b7
            go_wp2
            refine wp_region_held_drew (S := (fun w' => w'.cell? ⟨wr.heap.size, 0, none⟩ = some (.int .i64 ga) ∧ w'.cell? ⟨wr.heap.size, 1, none⟩ = some (.int .i64 gc))) (by kernel_rfl) ?_ (fun hHeld => ?_)
            · (try dsimp only); first | exact ⟨g0, g1⟩ | exact ⟨r0, r1⟩ | exact ⟨K0.out _, K1.out _⟩ | exact ⟨r90, r91⟩
            refine wpAnyH_take (i := 0) (v := ?kv0) rfl (by kernel_rfl) (by kernel_rfl) (by kernel_rfl) (fun _ _ _ h => h) (Or.inl ⟨by kernel_rfl, ?kh0⟩) (by assumption) ?kr0
            case kh0 => ((intro w hSw; (try dsimp only at hSw); go_simp) <;> with_reducible rfl)
            (try simp only [List.getElem_toArray, List.getElem_cons_zero]); (try simp only [Act.put]); (try simp only [List.setIfInBounds_toArray]); (try simp only [List.set_cons_succ]); (try simp only [List.set_cons_zero])
            refine wpAnyH_take (i := 1) (v := ?kv1) rfl (by kernel_rfl) (by kernel_rfl) (by kernel_rfl) (fun _ _ _ h => h) (Or.inl ⟨by kernel_rfl, ?kh1⟩) (by assumption) ?kr1
            case kh1 => ((intro w hSw; (try dsimp only at hSw); go_simp) <;> with_reducible rfl)
            (try simp only [List.getElem_toArray, List.getElem_cons_zero, List.getElem_cons_succ]); (try simp only [Act.put]); (try simp only [List.setIfInBounds_toArray]); (try simp only [List.set_cons_succ]); (try simp only [List.set_cons_zero])
            refine wpAnyH_take (i := 2) (v := ?kv2) rfl (by kernel_rfl) (by kernel_rfl) (by kernel_rfl) (fun _ _ _ h => h) (Or.inl ⟨by kernel_rfl, ?kh2⟩) (by assumption) ?kr2
            case kh2 => ((intro w hSw; (try dsimp only at hSw); go_simp) <;> with_reducible rfl)
            (try simp only [List.getElem_toArray, List.getElem_cons_zero, List.getElem_cons_succ]); (try simp only [Act.put]); (try simp only [List.setIfInBounds_toArray]); (try simp only [List.set_cons_succ]); (try simp only [List.set_cons_zero])
            refine wpAnyH_take (i := 3) (v := ?kv3) rfl (by kernel_rfl) (by kernel_rfl) (by kernel_rfl) (fun _ _ _ h => h) (Or.inl ⟨by kernel_rfl, ?kh3⟩) (by assumption) ?kr3
            case kh3 => ((intro w hSw; (try dsimp only at hSw); go_simp) <;> with_reducible rfl)
            (try simp only [List.getElem_toArray, List.getElem_cons_zero, List.getElem_cons_succ]); (try simp only [Act.put]); (try simp only [List.setIfInBounds_toArray]); (try simp only [List.set_cons_succ]); (try simp only [List.set_cons_zero])
            refine wpAnyH_take (i := 4) (v := ?kv4) rfl (by kernel_rfl) (by kernel_rfl) (by kernel_rfl) (fun _ _ _ h => h) (Or.inl ⟨by kernel_rfl, ?kh4⟩) (by assumption) ?kr4
            case kh4 => ((intro w hSw; (try dsimp only at hSw); go_simp) <;> with_reducible rfl)
            (try simp only [List.getElem_toArray, List.getElem_cons_zero, List.getElem_cons_succ]); (try simp only [Act.put]); (try simp only [List.setIfInBounds_toArray]); (try simp only [List.set_cons_succ]); (try simp only [List.set_cons_zero])
            refine wpAnyH_take (i := 6) (v := ?kv6) rfl (by kernel_rfl) (by kernel_rfl) (by kernel_rfl) (fun _ _ _ h => h) (Or.inl ⟨by kernel_rfl, ?kh6⟩) (by assumption) ?kr6
            case kh6 => ((intro w hSw; (try dsimp only at hSw); go_simp) <;> with_reducible rfl)
            (try simp only [List.getElem_toArray, List.getElem_cons_zero, List.getElem_cons_succ]); (try simp only [Act.put]); (try simp only [List.setIfInBounds_toArray]); (try simp only [List.set_cons_succ]); (try simp only [List.set_cons_zero])
            refine wpAnyH_take (i := 7) (v := ?kv7) rfl (by kernel_rfl) (by kernel_rfl) (by kernel_rfl) (fun _ _ _ h => h) (Or.inl ⟨by kernel_rfl, ?kh7⟩) (by assumption) ?kr7
            case kh7 => ((intro w hSw; (try dsimp only at hSw); go_simp) <;> with_reducible rfl)
            (try simp only [List.getElem_toArray, List.getElem_cons_zero, List.getElem_cons_succ]); (try simp only [Act.put]); (try simp only [List.setIfInBounds_toArray]); (try simp only [List.set_cons_succ]); (try simp only [List.set_cons_zero])
            refine wpAnyH_take (i := 8) (v := ?kv8) rfl (by kernel_rfl) (by kernel_rfl) (by kernel_rfl) (fun _ _ _ h => h) (Or.inl ⟨by kernel_rfl, ?kh8⟩) (by assumption) ?kr8
            case kh8 => ((intro w hSw; (try dsimp only at hSw); go_simp) <;> with_reducible rfl)
            (try simp only [List.getElem_toArray, List.getElem_cons_zero, List.getElem_cons_succ]); (try simp only [Act.put]); (try simp only [List.setIfInBounds_toArray]); (try simp only [List.set_cons_succ]); (try simp only [List.set_cons_zero])
            refine wpAnyH_ready (rs := [5]) (by kernel_rfl) (by simp) ?_
            refine AllReadyH.cons (o := _) rfl (fun K hK => ?_) AllReadyH.nil
            go_simp
            refine (ALA.out _ RDG.out).mono ?_
            rintro e w6 ⟨rfl, rfl⟩
            refine hK.out _ _ ?_ (fun hHeld => ?_)
            · (try dsimp only); first | exact ⟨g0, g1⟩ | exact ⟨r0, r1⟩ | exact ⟨K0.out _, K1.out _⟩ | exact ⟨r90, r91⟩
            clear hK K
            (try simp only [List.getElem_toArray, List.getElem_cons_zero, List.getElem_cons_succ]); (try simp only [Act.put]); (try simp only [List.setIfInBounds_toArray]); (try simp only [List.set_cons_succ]); (try simp only [List.set_cons_zero])
            refine wpAnyH_ready (rs := [9]) (by kernel_rfl) (by simp) ?_
            refine AllReadyH.cons (o := _) rfl (fun K hK => ?_) AllReadyH.nil
            go_simp
            refine (ALB.out _ RDG.out).mono ?_
            rintro e w6 ⟨rfl, rfl⟩
            refine hK.out _ _ ?_ (fun hHeld => ?_)
            · (try dsimp only); first | exact ⟨g0, g1⟩ | exact ⟨r0, r1⟩ | exact ⟨K0.out _, K1.out _⟩ | exact ⟨r90, r91⟩
            clear hK K
            (try simp only [List.getElem_toArray, List.getElem_cons_zero, List.getElem_cons_succ]); (try simp only [Act.put]); (try simp only [List.setIfInBounds_toArray]); (try simp only [List.set_cons_succ]); (try simp only [List.set_cons_zero])
            refine wpAnyH_ready (rs := [10]) (by kernel_rfl) (by simp) ?_
            refine AllReadyH.cons (o := _) rfl (fun K hK => ?_) AllReadyH.nil
            go_simp
            refine (AND.out).mono ?_
            rintro e w7 ⟨⟨x7, c7, f7, rfl, hm7, hg7, q0, q1, d7, u7, v7⟩, fr7⟩
            obtain ⟨rfl, rfl, rfl⟩ := u7 rfl RN
            have r0 : w7.cell? ⟨wr.heap.size, 0, none⟩ = some (.int .i64 ga) := (World.cell?_of_block (fr7.keep wr.heap.size (by rw [hsg]; omega) NMX.out).1).trans g0
            have r1 : w7.cell? ⟨wr.heap.size, 1, none⟩ = some (.int .i64 gc) := (World.cell?_of_block (fr7.keep wr.heap.size (by rw [hsg]; omega) NMX.out).1).trans g1
            have OW7 := Lib.hid (own_same OWG.out (fun b hb => (fr7.keep b (OWG.out.lt b hb).2 (NMG.out b hb)).1))
            have NM7 := Lib.hid (fun b hb => (fr7.keep b (OWG.out.lt b hb).2 (NMG.out b hb)).2)
            have z7 := fr7.size
            have hx7 : wr.heap.size < w7.heap.size := by omega
            have HM7 := Lib.hid hm7
            have D7 := Lib.hid d7
            have K0 := Lib.hid (fun o => (World.cell?_alloc_lt w7 o ⟨wr.heap.size, 0, none⟩ hx7).trans r0)
            have K1 := Lib.hid (fun o => (World.cell?_alloc_lt w7 o ⟨wr.heap.size, 1, none⟩ hx7).trans r1)
            have hnq : (Value.slice Av (1 + N + j) cv).ownBlock ≠ some wr.heap.size := fun e => by have := (HO0.out.lt _ e).2; omega
            have hw39 : w3.heap.size ≤ (w7.alloc (.cells #[.int .i64 (andB R.1 (atE R.2 ga) (atE R.2 gc)).2] 3)).heap.size := by rw [World.size_alloc]; omega
            clear hm7 d7 u7 v7
            refine hK.out _ _ ?_ (fun hHeld => ?_)
            · (try dsimp only); first | exact ⟨g0, g1⟩ | exact ⟨r0, r1⟩ | exact ⟨K0.out _, K1.out _⟩ | exact ⟨r90, r91⟩
            clear hK K
            (try simp only [List.getElem_toArray, List.getElem_cons_zero, List.getElem_cons_succ]); (try simp only [Act.put]); (try simp only [List.setIfInBounds_toArray]); (try simp only [List.set_cons_succ]); (try simp only [List.set_cons_zero])
            refine wpAnyH_ready (rs := [11]) (by kernel_rfl) (by simp) ?_
            refine AllReadyH.cons (o := _) rfl (fun K hK => ?_) AllReadyH.nil
            go_simp
            refine hK.out _ _ ?_ (fun hHeld => ?_)
            · (try dsimp only); first | exact ⟨g0, g1⟩ | exact ⟨r0, r1⟩ | exact ⟨K0.out _, K1.out _⟩ | exact ⟨r90, r91⟩
            clear hK K
            (try simp only [List.getElem_toArray, List.getElem_cons_zero, List.getElem_cons_succ]); (try simp only [Act.put]); (try simp only [List.setIfInBounds_toArray]); (try simp only [List.set_cons_succ]); (try simp only [List.set_cons_zero])
            refine wpAnyH_ready (rs := [12]) (by kernel_rfl) (by simp) ?_
            refine AllReadyH.cons (o := _) rfl (fun K hK => ?_) AllReadyH.nil
            refine wp_app_int_f _ _ (by rfl) w3.heap.size (.slice Av (1 + N + j) cv) (1 + N + j) R.2 (andB R.1 (atE R.2 ga) (atE R.2 gc)).2 ⟨w7.heap.size, 0, none⟩ (by rfl) (OW7.out.alloc _) (by rfl) (World.cell?_alloc_at _ _ _ _ rfl) (by omega) hw39 ?_
            intro v' w9 ho9 hg9 hv9
            have r90 := cell_grown hg9 (p := ⟨wr.heap.size, 0, none⟩) (by rw [World.size_alloc]; show wr.heap.size < _; omega) (fun e => hnq e) (K0.out (.cells #[.int .i64 (andB R.1 (atE R.2 ga) (atE R.2 gc)).2] 3))
            have r91 := cell_grown hg9 (p := ⟨wr.heap.size, 1, none⟩) (by rw [World.size_alloc]; show wr.heap.size < _; omega) (fun e => hnq e) (K1.out (.cells #[.int .i64 (andB R.1 (atE R.2 ga) (atE R.2 gc)).2] 3))
            refine hK.out _ _ ?_ (fun hHeld => ?_)
            · (try dsimp only); first | exact ⟨g0, g1⟩ | exact ⟨r0, r1⟩ | exact ⟨K0.out _, K1.out _⟩ | exact ⟨r90, r91⟩
            clear hK K
            (try simp only [List.getElem_toArray, List.getElem_cons_zero, List.getElem_cons_succ]); (try simp only [Act.put]); (try simp only [List.setIfInBounds_toArray]); (try simp only [List.set_cons_succ]); (try simp only [List.set_cons_zero])
            refine wpAnyH_take (i := 13) (v := ?kv13) rfl (by kernel_rfl) (by kernel_rfl) (by kernel_rfl) (fun _ _ _ h => h) (Or.inl ⟨by kernel_rfl, ?kh13⟩) (by assumption) ?kr13
            case kh13 => ((intro w hSw; (try dsimp only at hSw); go_simp) <;> with_reducible rfl)
            (try simp only [List.getElem_toArray, List.getElem_cons_zero, List.getElem_cons_succ]); (try simp only [Act.put]); (try simp only [List.setIfInBounds_toArray]); (try simp only [List.set_cons_succ]); (try simp only [List.set_cons_zero])
            refine wpAnyH_done (by kernel_rfl) ?_ _
            have MG := mk_grown (mk_below HM7.out (below_alloc w7 (.cells #[.int .i64 (andB R.1 (atE R.2 ga) (atE R.2 gc)).2] 3))) hg9 (fun b hb q => NM7.out b hb ((mineC_heap ((below_alloc w7 _).block g (mkAt_lt HM7.out))).1 q))
            have HX : Hid (AtFx w1.heap.size w3.heap.size g N (j + 1) (T (j + 1)) v' w1 w9) := by
              rw [FXJ.out]
              refine Lib.hid ⟨MG.1, ho9, fun b hb q => ?_, ?_⟩
              · have q7 := (mineC_heap ((below_alloc w7 (.cells #[.int .i64 (andB R.1 (atE R.2 ga) (atE R.2 gc)).2] 3)).block g (mkAt_lt HM7.out))).1 ((MG.2 b).1 q)
                rcases hv9 with h | h
                · exact NM7.out b (h.symm.trans hb) q7
                · have l := mine_ltC HM7.out q7
                  rw [h, World.size_alloc] at hb
                  injection hb with hb
                  omega
              · have d : Below w1.heap.size w1 w7 := (HS3.out.trans (BGH.out.mono hs7)).trans D7.out
                exact (d.alloc d.size _).grown hg9 (by rw [World.size_alloc]; have := d.size; omega) (fun b hb => by have := (HO0.out.lt b hb).1; have := B13.out.size; omega)
            clear MG ho9 hg9 hv9 r90 r91 r0 r1 K0 K1 OW7 NM7 HM7 D7 fr7 hg7
            go_wp2
            go_roundg (s.gates.length - (j + 1))
            case measure => omega
            case rel => exact ⟨j + 1, by omega, by go_num, HX⟩
          · have je : j = s.gates.length := by omega
            have jn : ¬ (j : Int) < s.gates.length := by omega
            have RE := RM.out j (by omega) edge HQ.out.1 (by have := HQ.out.2; unfold Ci.nodes at this; have := HN.out; omega)
            have JI := INV.out j (by omega)
            have xel : (edge / 2).toNat < 1 + N + j := by have := HQ.out.1; have := HQ.out.2; unfold Ci.nodes at this; have := HN.out; omega
            have ALE := Lib.hid (along_at Av (1 + N + j) cv (T j).2 edge wr (Rd.of_own HS.out.2.1) HQ.out.1 xel (by omega) RE.2.1 RE.2.2)
            have few7 := JI.gd.few
            have HM7 := HS.out.1
            have lw1 : w.heap.size + 1 < w1.heap.size := by have := b1.size; simp only [World.size_alloc] at this; omega
            have HSR := HS.out
            clear HS RE JI H1 RM INV GT HQ FX
            obtain ⟨R, hR⟩ : ∃ R, R = T s.gates.length := ⟨_, rfl⟩
            have hRj : T j = R := by rw [hR, je]
            rw [hRj] at ALE few7 HM7
            have HRT := Lib.hid hR.symm
            clear hR hRj HSR je
            obtain ⟨⟨rm, rg⟩, rl⟩ := R
            dsimp only at ALE few7 HM7
            go_wp2_with fail
            refine ALE.out.mono ?_
            rintro e w8 ⟨rfl, rfl⟩
            clear ALE jn xel x0 x1
            obtain ⟨ye, hye⟩ : ∃ ye, ye = atE rl edge := ⟨_, rfl⟩
            rw [← hye]
            have HYE := Lib.hid hye.symm
            clear hye
            go_wp2_with fail
            refine (told_yes ⟨rm, rg⟩ ye w1.heap.size g _ HM7).mono ?_
            rintro e w9 ⟨A9, c9, rfl, o9, d9⟩
            dsimp only at o9
            have b9 := b7.trans (d9.mono b7.size)
            obtain ⟨B9, kb9, kr9⟩ := BX.out _ b9
            have f0 := kr9.frozen 0
            have f1 := kr9.frozen 1
            have y0 := kr9.cell 0
            have y1 := kr9.cell 1
            simp only [List.getElem?_cons_zero, List.getElem?_cons_succ] at y0 y1
            have n9 : (Value.slice A9 rg.length c9).ownBlock ≠ some (w.heap.size + 1) := fun e => by have := (o9.lt _ e).1; omega
            go_wp2
            have K2 := (kr9.set 0 (.int .i64 rm)).set 1 (.slice A9 rg.length c9)
            have o8 := own_away (own_away o9 (p := ⟨w.heap.size + 1, 0, none⟩) (.int .i64 rm) n9) (p := ⟨w.heap.size + 1, 1, none⟩) (.slice A9 rg.length c9) n9
            have b8 := (B9.setCell (p := ⟨w.heap.size + 1, 0, none⟩) (Nat.le_succ _) (.int .i64 rm)).setCell (p := ⟨w.heap.size + 1, 1, none⟩) (Nat.le_succ _) (.slice A9 rg.length c9)
            generalize (w9.setCell ⟨w.heap.size + 1, 0, none⟩ (.int .i64 rm)).setCell ⟨w.heap.size + 1, 1, none⟩ (.slice A9 rg.length c9) = w10 at K2 b8 o8 ⊢
            have r0 := K2.cell 0
            have r1 := K2.cell 1
            simp only [List.set_cons_zero, List.set_cons_succ, List.getElem?_cons_zero, List.getElem?_cons_succ] at r0 r1
            obtain ⟨fp, q1, q2, q3⟩ := own_flat (α := Ga) o8 rfl (by unfold maxLen; omega)
            exact bodyPost_ret (v := .tuple #[.agg #[.int .i64 rm, .slice A9 rg.length c9], .int .i64 ye]) (by simp [results, Try.results21, go_sem, r0, r1]) rfl (by rw [HRT.out]; dsimp only; rw [HYE.out]; exact ⟨A9, _, c9, fp, rfl, q1, q2, fun x hx => by have := q3 x hx; omega, b8⟩)
end Go.Proofs.Ytnhjcokmajejcaa
