/- The bits of all states of a set: of the model, of the program. -/
import Derived.Test.YtnhjcokmajejcaaBitI
import Derived.Test.YtnhjcokmajejcaaRwA
import Derived.Test.YtnhjcokmajejcaaPt
import Derived.Deep.RegionLaw
namespace Go.Proofs.Ytnhjcokmajejcaa
open Go.RowKit

/-- The bits of the first k states. -/
def abTo (s : Sy) (l : List Int) (k : Nat) : List (List Int) := (l.take k).map fun n => stBits s.vars (stL s.vars n)
theorem abTo_succ (s : Sy) {l : List Int} {k : Nat} (h : k < l.length) : abTo s l (k + 1) = abTo s l k ++ [stBits s.vars (stL s.vars (ix l k))] := by
  unfold abTo
  rw [take_el h, List.map_append]; rfl
theorem abTo_all (s : Sy) (l : List Int) : abTo s l l.length = l.map fun n => stBits s.vars (stL s.vars n) := by
  unfold abTo
  rw [List.take_of_length_le (Nat.le_refl _)]
theorem set_bd {s : Sy} {l : List Int} (h : setB s l = true) : SysOk s ∧ l.length ≤ 400 ∧ ∀ k, k < l.length → 0 ≤ ix l k ∧ ix l k < sizeB s ∧ ix l k < 400 := by
  unfold setB at h
  rw [Bool.and_eq_true] at h
  have z := sizeB_bd h.1
  have a := asc_at (n := l.length) (l := l) (vars := sizeB s) h.2
  refine ⟨sysOk_of h.1, ?_, fun k hk => by have := a k hk; omega⟩
  by_cases q : l.length ≤ 400
  · exact q
  · have := a 400 (by omega)
    omega
theorem sumTo_bd {f : Nat → Nat} {b : Nat} (n : Nat) (h : ∀ k, k < n → f k ≤ b) : sumTo f n ≤ n * b := by
  induction n with
  | zero => exact Nat.zero_le _
  | succ n ih =>
    have a := ih fun k hk => h k (by omega)
    have c := h n (by omega)
    show sumTo f n + f n ≤ (n + 1) * b
    rw [Nat.add_mul]
    omega
theorem allBitsB_sz (s : Sy) (l : List Int) : szII (allBitsB s l) ≤ 1048576 := by
  unfold allBitsB
  cases hz : setB s l
  · show szII [] ≤ _; decide
  · obtain ⟨ok, h4, _⟩ := set_bd hz
    show szII (l.map fun n => stBits s.vars (stL s.vars n)) ≤ _
    unfold szII
    have hb : ∀ k, k < (l.map fun n => stBits s.vars (stL s.vars n)).length → (el (l.map fun n => stBits s.vars (stL s.vars n)) k).length ≤ 11 := fun k hk => by
      rw [List.length_map] at hk
      have e : el (l.map fun n => stBits s.vars (stL s.vars n)) k = stBits s.vars (stL s.vars (ix l k)) := by
        unfold el ix
        rw [List.getElem?_map, List.getElem?_eq_getElem hk]; rfl
      rw [e, stBits_len]
      exact wid_le ok (Nat.le_refl _)
    have := sumTo_bd _ hb
    rw [List.length_map] at this ⊢
    omega
theorem LL.made {w : World} {base : Nat} {e : TypeId} {v : Value} (h : w.ownsRow base e 1 v 0 []) : LL w base e v 0 [] (bl v) :=
  ⟨rfl, by unfold bl; cases v.ownBlock <;> simp, fun _ => [], fun _ => [], h, fun i hi => absurd hi (by omega), by simp [cat], fun b hb => (h.lt b (mem_bl.1 hb)).1⟩
theorem step_rows {ops : Array Oper} {o : Oper} {a : Act} {K : Act → World → Prop} {Q : Exit → Act → World → Prop} {E : Prop} {W w : World} {base k n c : Nat} {v : Value} {L : List (List Int)} {l : List Int} {fp fq : List Nat} {A : Option Addr} {ad : Addr} (hgd : o.guard = none) (s x : Operand)
    (ho : o.op = .call { callee := .builtin .append, args := #[s, x], argTypes := #[28, 28] }) (hs : a.eval s = v) (h : LL w base 26 v k L fp) (hb : Below w.heap.size w W) (own : Mem.own W fq [.slice A n c] l) (nq : fq.Nodup) (lo : ∀ b ∈ fq, w.heap.size ≤ b)
    (hx : a.eval x = .slice (some ad) 1 1) (hc : W.cell? ad = some (.slice A n c)) (hk : k ≤ 1000000000) (hbase : base ≤ w.heap.size)
    (hK : ∀ A' c' w' fp', LL w' base 26 (.slice A' (k + 1) c') (k + 1) (L ++ [l]) fp' → Only fp W w' → (∀ b ∈ fp', b ∈ fp ∨ b ∈ fq ∨ b = W.heap.size) → K (a.put o.dst (.slice A' (k + 1) c')) w') :
    if Region.wanted o (yielded ops a.tmps) = true then Oper.wp Try.prog o a W K Q else E := by
  have hw : Region.wanted o (yielded ops a.tmps) = true := by simp [Region.wanted, hgd]
  rw [if_pos hw]
  obtain ⟨v', w', fp', hr, q1, q2, q3⟩ := LL.app (P := Try.prog) (t := 28) (ty := o.type) Try.underlying28 inS_row.1 inS_row.2.1 inS_row.2.2.1 inS_row.2.2.2 h hb own nq lo hc hk hbase
  obtain ⟨A', c', rfl⟩ := row_slice q1.2.2.choose_spec.choose_spec.1
  unfold Oper.wp execOp
  simp only [ho, resolve, invoke, builtin, Sem.run_bind, Sem.run_pure, Result.andThen_ok, List.map_toArray, List.map_cons, List.map_nil, hs, hx, hr]
  exact hK _ _ w' fp' q1 q2 q3
theorem own_noneII (w : World) : Mem.own w [] [.slice none 0 0] ([] : List (List Int)) := ⟨none, 0, 0, rfl, Nat.zero_le _, rfl, .inl ⟨rfl, rfl⟩⟩

set_option maxRecDepth 100000 in
set_option maxHeartbeats 4000000 in
theorem allBits_spec (s : Sy) (l : List Int) (A1 : Option Addr) (n1 c1 : Nat) (A2 : Option Addr) (n2 c2 : Nat) (A3 : Option Addr) (n3 c3 : Nat) (w : World) (h1 : Mem.rd w w.heap.size [.slice A1 n1 c1] s.vars) (h2 : Mem.rd w w.heap.size [.slice A2 n2 c2] s.rules) (h3 : Mem.rd w w.heap.size [.slice A3 n3 c3] l) :
    Calls Try.prog 7 #[.agg #[.slice A1 n1 c1, .slice A2 n2 c2], .slice A3 n3 c3] w (GivesL w (allBitsB s l)) := by
  have L3 := rd_len h3
  have hm3 := rd_max h3
  unfold maxLen at hm3
  have BX := Lib.hid (sy_box (w := w) (v1 := .slice A1 n1 c1) (v2 := .slice A2 n2 c2))
  have SV := Lib.hid (fun W (B : Below w.heap.size w W) => setValid_spec s l A1 n1 c1 A2 n2 c2 A3 n3 c3 W (Mem.rd_on h1 B) (Mem.rd_on h2 B) (Mem.rd_on h3 B))
  have h3' := (rd_ints.1 h3).2
  obtain ⟨F, hF⟩ : ∃ F, F = allBitsB s l := ⟨_, rfl⟩
  rw [← hF]
  have L0 := Lib.hid (LL.lit (w.alloc (.cells #[.slice A1 n1 c1, .slice A2 n2 c2] 33)) 26 (base := w.heap.size + 1) (by simp))
  rw [World.size_alloc] at L0
  by_cases h0 : n3 = 0
  · have E : Hid (F = []) := Lib.hid (by
      rw [hF]
      unfold allBitsB
      obtain rfl : l = [] := List.length_eq_zero_iff.1 (by omega)
      split <;> rfl)
    subst h0
    clear hF
    go_enter Try.func7, Try.ntmps7
    go_wp2
    go_loopg [5, 6] 0 (fun m v i wr => m = 0 ∧ i = .int .i64 0 ∧ Hid (LL wr (w.heap.size + 1) 26 v 0 [] [w.heap.size + 1]) ∧ Below (w.alloc (.cells #[.slice A1 n1 c1, .slice A2 n2 c2] 33)).heap.size (w.alloc (.cells #[.slice A1 n1 c1, .slice A2 n2 c2] 33)) wr)
    case atStart => exact ⟨rfl, rfl, L0, below_alloc _ _⟩
    case round =>
      obtain ⟨rfl, rfl, hL, hb⟩ := hrel
      obtain ⟨B, x0, x1⟩ := BX.out _ hb
      have om := hL.out.out (by unfold maxLen; omega)
      obtain ⟨A8, c8, rfl⟩ := row_slice hL.out.2.2.choose_spec.choose_spec.1
      go_wp2
      go_ret
      rw [E.out]
      exact ⟨A8, 0, c8, _, rfl, om, hL.out.2.1, fun b hb => by have := (hL.out.lt b hb).1; omega, B⟩
  · cases hz : setB s l
    · have E : Hid (F = []) := Lib.hid (by rw [hF]; unfold allBitsB; rw [hz]; rfl)
      have HZ := Lib.hid hz
      have n0 : (0 : Int) < n3 := by omega
      clear hF hz
      go_enter Try.func7, Try.ntmps7
      go_wp2
      go_loopg [5, 6] 0 (fun m v i wr => m = 0 ∧ i = .int .i64 0 ∧ Hid (LL wr (w.heap.size + 1) 26 v 0 [] [w.heap.size + 1]) ∧ Below (w.alloc (.cells #[.slice A1 n1 c1, .slice A2 n2 c2] 33)).heap.size (w.alloc (.cells #[.slice A1 n1 c1, .slice A2 n2 c2] 33)) wr)
      case atStart => exact ⟨rfl, rfl, L0, below_alloc _ _⟩
      case round =>
        obtain ⟨rfl, rfl, hL, hb⟩ := hrel
        obtain ⟨B, x0, x1⟩ := BX.out _ hb
        go_wp2_with fail
        refine (SV.out _ B).mono ?_
        rintro e w4 ⟨rfl, b4⟩
        rw [HZ.out]
        have L4 := hL.out.below b4
        have om := L4.out (by unfold maxLen; omega)
        obtain ⟨A8, c8, rfl⟩ := row_slice L4.2.2.choose_spec.choose_spec.1
        go_wp2
        go_ret
        rw [E.out]
        exact ⟨A8, 0, c8, _, rfl, om, L4.2.1, fun b hb => by have := (L4.lt b hb).1; omega, B.trans (b4.mono B.size)⟩
    · obtain ⟨ok, h4, hr⟩ := set_bd hz
      have hsz : sysB s = true := by unfold setB at hz; rw [Bool.and_eq_true] at hz; exact hz.1
      have AC := Lib.hid (fun k (hk : k < n3) W (B : Below w.heap.size w W) => l4State_any s (ix l k) A1 n1 c1 A2 n2 c2 W (Mem.rd_on h1 B) (Mem.rd_on h2 B) hsz (hr k (by omega)).1 (hr k (by omega)).2.2)
      have RC := Lib.hid (fun k W A n c (B : Below w.heap.size w W) (h : Mem.rd W W.heap.size [.slice A n c] (stL s.vars (ix l k))) => l6State_any s (stL s.vars (ix l k)) A1 n1 c1 A2 n2 c2 A n c W (Mem.rd_on h1 B) h ok (stL_has _ ok.vars))
      have SL := Lib.hid (fun k => (stL_len s.vars (ix l k)).trans (rd_len h1))
      have HN1 : Hid (n1 ≤ 5) := Lib.hid (by have := rd_len h1; have := ok.hi; omega)
      have BL := Lib.hid (fun k => (stBits_len s.vars (stL s.vars (ix l k))))
      have ML : Hid (widTo s.vars s.vars.length ≤ 11) := Lib.hid (wid_le ok (Nat.le_refl _))
      have E : Hid (F = abTo s l n3) := Lib.hid (by rw [hF]; unfold allBitsB; rw [hz, ← L3, abTo_all]; rfl)
      have AS := Lib.hid (fun k (hk : k < n3) => abTo_succ s (l := l) (k := k) (by omega))
      have HZ := Lib.hid hz
      have HN4 : Hid (n3 ≤ 400) := Lib.hid (by omega)
      clear hF hz hsz ok h4 hr hm3 L3
      generalize widTo s.vars s.vars.length = M at *
      go_enter Try.func7, Try.ntmps7
      go_wp2
      go_loopg [5, 6] n3 (fun m v i wr => ∃ (k : Nat) (fp : List Nat), k + m = n3 ∧ i = .int .i64 k ∧ Hid (LL wr (w.heap.size + 1) 26 v k (abTo s l k) fp) ∧ Below (w.alloc (.cells #[.slice A1 n1 c1, .slice A2 n2 c2] 33)).heap.size (w.alloc (.cells #[.slice A1 n1 c1, .slice A2 n2 c2] 33)) wr)
      case atStart => exact ⟨0, _, by omega, rfl, L0, below_alloc _ _⟩
      case round =>
        clear L0
        obtain ⟨k, fp, hk, rfl, hL, hb⟩ := hrel
        obtain ⟨B, x0, x1⟩ := BX.out _ hb
        by_cases hlt : k < n3
        · have kn : (k : Int) < n3 := by omega
          have hn4 : n3 ≤ 400 := HN4.out
          go_wp2_with fail
          refine (SV.out _ B).mono ?_
          rintro e w4 ⟨rfl, b4⟩
          rw [HZ.out]
          have hb4 := hb.trans (b4.mono hb.size)
          have L4 := Lib.hid (hL.out.below b4)
          obtain ⟨B4, y0, y1⟩ := BX.out _ hb4
          obtain ⟨ad, rfl, hbl, d0⟩ := (h3'.below B4).int hlt
          have B4d : Below w.heap.size w w4.drew := ⟨B4.os, B4.tape, B4.output, B4.size, B4.block⟩
          have ls4 : w.heap.size < w4.heap.size := by have := hb4.size; rw [World.size_alloc] at this; exact this
          have AK := Lib.hid (AC.out k hlt w4.drew B4d)
          have ASK := Lib.hid (AS.out k hlt)
          have HLS := Lib.hid ls4
          have BLK := Lib.hid (BL.out k)
          have HB4 := Lib.hid hb4
          have RCK := Lib.hid (RC.out k)
          have SLK := Lib.hid (SL.out k)
          clear x0 x1 hb b4 hb4
          go_wp2
          go_region_law (first
            | (go_simp; go_at_call 36; refine (AK.out).mono ?_; rintro e w5 ⟨v5, rfl, o5, b5⟩
               have b5' : Below w4.heap.size w4 w5 := ⟨b5.os, b5.tape, b5.output, b5.size, b5.block⟩
               have z0 := cell_below b5' (p := ⟨w.heap.size, 0, none⟩) HLS.out y0
               have z1 := cell_below b5' (p := ⟨w.heap.size, 1, none⟩) HLS.out y1
               rw [SLK.out] at o5
               obtain ⟨A5, c5, rfl, _, _⟩ := own_form o5
               obtain ⟨f5, om5, _, _⟩ := mem_ints (l := stL s.vars (ix l k)) (by rw [SLK.out]; exact o5) (by rw [SLK.out]; have := HN1.out; unfold maxLen; omega)
               rw [SLK.out] at om5
               have NK := Lib.hid (RCK.out w5 A5 n1 c5 (B4.trans (b5'.mono B4.size)) (Mem.own_rd om5)))
            | (go_simp; go_at_call 35; refine (NK.out).mono ?_; rintro e w6 ⟨v6, rfl, o6, b6⟩
               have b46 := b5'.trans (b6.mono b5'.size)
               obtain ⟨A6, c6, rfl, _, _⟩ := own_form o6
               obtain ⟨f6, om6, nd6, lo6⟩ := mem_ints (l := stBits s.vars (stL s.vars (ix l k))) o6 (by rw [BLK.out]; have := ML.out; unfold maxLen; omega)
               have OM6 := Lib.hid (fun o => Mem.own_below om6 (below_alloc w6 o))
               have LO6 : ∀ b ∈ f6, w4.heap.size ≤ b := fun b hb => Nat.le_trans b5'.size (lo6 b hb)
               have BW6 := Lib.hid (fun o => b46.trans ((below_alloc w6 o).mono b46.size)))
            | (refine step_rows rfl _ _ rfl rfl L4.out (BW6.out _) (OM6.out _) nd6 LO6 rfl (World.cell?_alloc_at _ _ _ _ rfl) (by have := HN4.out; omega) HLS.out ?_; intro A9 c9 w9 f9 l9 on9 in9))
          all_goals
            have lo9 := L4.out.lt
            have b49 := ((HB4.out.trans (b46.mono HB4.out.size)).alloc (Nat.le_trans HB4.out.size b46.size) _).trans (on9.below (by rw [World.size_alloc, World.size_alloc]; have := HLS.out; have := b46.size; omega) fun b hb => by rw [World.size_alloc]; exact (lo9 b hb).1)
            have HB9 := Lib.hid b49
            clear b49 lo9
            go_wp2
            go_roundg (n3 - (k + 1))
            case measure => omega
            case rel => exact ⟨k + 1, f9, by omega, by go_num, by rw [ASK.out]; exact Lib.hid l9, HB9.out⟩
        · obtain rfl : k = n3 := by omega
          have om := hL.out.out (by have := HN4.out; unfold maxLen; omega)
          obtain ⟨A8, c8, rfl⟩ := row_slice hL.out.2.2.choose_spec.choose_spec.1
          go_wp2
          go_ret
          rw [E.out]
          exact ⟨A8, k, c8, _, rfl, om, hL.out.2.1, fun b hb => by have := (hL.out.lt b hb).1; omega, B⟩

set_option maxRecDepth 100000 in
set_option maxHeartbeats 4000000 in
theorem allBits_impl (s : Sy) (l : List Int) (A1 : Option Addr) (n1 c1 : Nat) (A2 : Option Addr) (n2 c2 : Nat) (A3 : Option Addr) (n3 c3 : Nat) (w : World) (h1 : Mem.rd w w.heap.size [.slice A1 n1 c1] s.vars) (h2 : Mem.rd w w.heap.size [.slice A2 n2 c2] s.rules) (h3 : Mem.rd w w.heap.size [.slice A3 n3 c3] l) :
    Calls Try.prog 10 #[.agg #[.slice A1 n1 c1, .slice A2 n2 c2], .slice A3 n3 c3] w (GivesL w (allBitsB s l)) := by
  have L3 := rd_len h3
  have L1 := rd_len h1
  have BX := Lib.hid (sy_box (w := w) (v1 := .slice A1 n1 c1) (v2 := .slice A2 n2 c2))
  have SV := Lib.hid (fun o => setValid_impl s l A1 n1 c1 A2 n2 c2 A3 n3 c3 (w.alloc o) (Mem.rd_on_alloc h1 o) (Mem.rd_on_alloc h2 o) (Mem.rd_on_alloc h3 o))
  have h3' := (rd_ints.1 h3).2
  obtain ⟨F, hF⟩ : ∃ F, F = allBitsB s l := ⟨_, rfl⟩
  rw [← hF]
  cases hz : setB s l
  · have E : Hid (F = []) := Lib.hid (by rw [hF]; unfold allBitsB; rw [hz]; rfl)
    have HZ := Lib.hid hz; clear hz hF
    go_enter Try.func10, Try.ntmps10
    go_wp2_with fail
    refine (SV.out _).mono ?_
    rintro e w2 ⟨rfl, b2⟩
    rw [HZ.out]
    go_wp2
    go_ret
    rw [E.out]
    exact ⟨none, 0, 0, [], rfl, own_noneII _, List.nodup_nil, by simp, below_call b2⟩
  · obtain ⟨ok, h4, hr⟩ := set_bd hz
    have h5 : 1 ≤ n1 ∧ n1 ≤ 5 := by have := ok.hi; have := ok.lo; omega
    have RA := Lib.hid (fun k (hk : k < n3) W (B : Below w.heap.size w W) => rowAt_any s (ix l k) A1 n1 c1 A2 n2 c2 W (Mem.rd_on h1 B) ok (hr k (by omega)).1 (hr k (by omega)).2.2)
    have ML : widTo s.vars s.vars.length ≤ 11 := wid_le ok (Nat.le_refl _)
    have RL := Lib.hid (fun k => show rowTo s.vars (stL s.vars (ix l k)) s.vars.length < 4096 from by
      have := row_lt ok.vars (stL_has (ix l k) ok.vars) (Nat.le_refl _)
      have : 2 ^ widTo s.vars s.vars.length ≤ 2 ^ 11 := Nat.pow_le_pow_right (by omega) ML
      omega)
    have E : Hid (F = abTo s l n3) := Lib.hid (by rw [hF]; unfold allBitsB; rw [hz, ← L3, abTo_all]; rfl)
    have AS := Lib.hid (fun k (hk : k < n3) => show abTo s l (k + 1) = abTo s l k ++ [bitsN (rowTo s.vars (stL s.vars (ix l k)) s.vars.length) (widTo s.vars s.vars.length)] from abTo_succ s (l := l) (k := k) (by omega))
    have HZ := Lib.hid hz
    have HN4 : Hid (n3 ≤ 400) := Lib.hid (by omega)
    have H5 := Lib.hid h5
    have HML := Lib.hid ML
    clear hF hz ok h4 hr L3 L1 h5 ML
    generalize widTo s.vars s.vars.length = M at *
    have LC := Lib.hid (fun N W (hN : N < 4096) => rwList_any N M W (by have := HML.out; omega) hN)
    unfold rwV at RA LC
    go_enter Try.func10, Try.ntmps10
    go_wp2_with fail
    refine (SV.out _).mono ?_
    rintro e w2 ⟨rfl, b2⟩
    rw [HZ.out]
    have hs2 := b2.size
    rw [World.size_alloc] at hs2
    have hn4 : n3 ≤ 400 := HN4.out
    go_wp2_with (first
      | (at_make; refine wpList_make_own _ rfl _ _ 28 rfl (w.heap.size + 1) 26 inSRow _ 1 Try.underlying28 inS_row.1 inS_row.2.1 inS_row.2.2.1 _ _ _ n3 rfl rfl (by omega) (by rw [inS_row.2.2.2]; have := HN4.out; omega) (by have := HN4.out; unfold maxLen; omega) hs2 ?_; intro w3 hown hg
         have b3 := b2.grown hg b2.size (by simp)
         have I3 := Lib.hid (LL.made hown)
         clear hown hg))
    go_loopg [5, 7, 17] n3 (fun m v i7 i wr => ∃ (k : Nat) (fp : List Nat), k + m = n3 ∧ i = .int .i64 k ∧ Hid (LL wr (w.heap.size + 1) 26 v k (abTo s l k) fp) ∧ Below (w.alloc (.cells #[.slice A1 n1 c1, .slice A2 n2 c2] 33)).heap.size (w.alloc (.cells #[.slice A1 n1 c1, .slice A2 n2 c2] 33)) wr)
    case atStart => exact ⟨0, _, by omega, rfl, I3, b3⟩
    case round =>
      clear I3 b3 b2 hs2
      obtain ⟨k, fp, hk, rfl, hL, hb⟩ := hrel
      obtain ⟨B, x0, x1⟩ := BX.out _ hb
      by_cases hlt : k < n3
      · have kn : (k : Int) < n3 := by omega
        obtain ⟨ad, rfl, hbl, d0⟩ := (h3'.below B).int hlt
        have RK := Lib.hid (RA.out k hlt wr B)
        have LK := Lib.hid (fun W => LC.out _ W (RL.out k))
        have ASK := Lib.hid (AS.out k hlt)
        have HLQ : Hid (w.heap.size < wr.heap.size) := Lib.hid (by have := hb.size; rw [World.size_alloc] at this; exact this)
        have HBQ := Lib.hid hb
        have HHL := hL
        generalize rowTo s.vars (stL s.vars (ix l k)) s.vars.length = R at *
        have BLK := Lib.hid (bitsN_len R M)
        clear hb hL
        go_wp2_with fail
        refine (RK.out).mono ?_
        rintro e w5 ⟨rfl, b5⟩
        go_wp2_with fail
        refine (LK.out w5).mono ?_
        rintro e w6 ⟨v6, rfl, o6, b6⟩
        have b46 := b5.trans (b6.mono b5.size)
        obtain ⟨A6, c6, rfl, _, _⟩ := own_form o6
        obtain ⟨f6, om6, nd6, lo6⟩ := mem_ints (l := bitsN R M) o6 (by rw [BLK.out]; have := HML.out; unfold maxLen; omega)
        have OM6 := Lib.hid (fun o => Mem.own_below om6 (below_alloc w6 o))
        have LO6 : Hid (∀ b ∈ f6, wr.heap.size ≤ b) := Lib.hid (fun b hb => Nat.le_trans b5.size (lo6 b hb))
        have BW6 := Lib.hid (fun o => b46.trans ((below_alloc w6 o).mono b46.size))
        have HB46 := Lib.hid b46
        clear o6 om6 lo6 b6 b5 b46 x0 x1 B d0
        go_wp2_with (first
          | (at_builtin; refine app_ll rfl _ _ rfl rfl HHL.out (BW6.out _) (OM6.out _) nd6 LO6.out rfl (World.cell?_alloc_at _ _ _ _ rfl) (by have := HN4.out; omega) HLQ.out ?_; intro v9 w9 f9 l9 on9 in9))
        have lo9 := HHL.out.lt
        have b49 := ((HBQ.out.trans (HB46.out.mono HBQ.out.size)).alloc (Nat.le_trans HBQ.out.size HB46.out.size) _).trans (on9.below (by rw [World.size_alloc, World.size_alloc]; have := HLQ.out; have := HB46.out.size; omega) fun b hb => by rw [World.size_alloc]; exact (lo9 b hb).1)
        have HB9 := Lib.hid b49
        clear b49 lo9
        go_roundg (n3 - (k + 1))
        case measure => omega
        case rel => exact ⟨k + 1, f9, by omega, by go_num, by rw [ASK.out]; exact Lib.hid l9, HB9.out⟩
      · obtain rfl : k = n3 := by omega
        have om := hL.out.out (by have := HN4.out; unfold maxLen; omega)
        obtain ⟨A8, c8, rfl⟩ := row_slice hL.out.2.2.choose_spec.choose_spec.1
        go_wp2
        go_ret
        rw [E.out]
        exact ⟨A8, k, c8, _, rfl, om, hL.out.2.1, fun b hb => by have := (hL.out.lt b hb).1; omega, B⟩
end Go.Proofs.Ytnhjcokmajejcaa
