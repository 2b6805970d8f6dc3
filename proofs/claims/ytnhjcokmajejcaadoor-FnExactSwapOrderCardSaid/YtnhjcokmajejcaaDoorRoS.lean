/- Diagrams of rows of values, in the model. -/
import Derived.Test.YtnhjcokmajejcaaDoorRo
import Derived.Test.YtnhjcokmajejcaaDoorDgH
import Derived.Deep.CutRange
namespace Go.Proofs.YtnhjcokmajejcaaDoor
open Go.RowKit
set_option maxRecDepth 100000

/-- A part of a row of numbers. -/
theorem rd_partR {w : World} {B n c : Nat} {ad : Addr} {l : List Int} (h : Mem.rd w B [.slice (some ad) n c] l) {p j c' : Nat} (hp : p + j ≤ n) : Mem.rd w B [.slice (some (ad.add p)) j c'] ((l.drop p).take j) := by
  have hl := rd_len h
  obtain ⟨hm, h'⟩ := rd_ints.1 h
  refine rd_ints.2 ⟨by unfold maxLen at hm ⊢; omega, ?_⟩
  have e : ints ((l.drop p).take j) = ((ints l).drop p).take j := by unfold ints; rw [List.map_take, List.map_drop]
  rw [e]
  have h1 := h'.1
  have hll := len_ints l
  refine ⟨by rw [List.length_take, List.length_drop]; omega, fun hj => ?_⟩
  obtain ⟨ad', e1, hb, hc⟩ := h'.2 (by omega)
  injection e1 with e1
  subst e1
  refine ⟨_, rfl, by rw [add_block]; exact hb, fun i u hu => ?_⟩
  have hi : i < j := by
    have := (List.getElem?_eq_some_iff.1 hu).1
    rw [List.length_take] at this
    omega
  rw [List.getElem?_take, if_pos hi, List.getElem?_drop] at hu
  have := hc (p + i) u hu
  rw [← this, add_add']
theorem run_takeI {A : Option Addr} {n c B : Nat} {l : List Int} {w : World} (h : Mem.rd w B [.slice A n c] l) (hc : n ≤ c) {j : Nat} (h0 : 0 < j) (hj : j ≤ n) :
    ∃ A' c', (∀ W, (Instr.sliceAt 45 (.slice A n c) none (some (.int .i64 (j : Int))) none).run Tryd.prog W = .ok (.slice A' j c') W) ∧ Mem.rd w B [.slice A' j c'] (l.take j) ∧ j ≤ c' := by
  have hu : Tryd.prog.underlying 45 = some (.slice (Tryd.prog.elem 45)) := by kernel_rfl
  have hs : ∀ W, (Go.sizeOf (Tryd.prog.elem 45)).run Tryd.prog W = .ok 1 W := fun W => by kernel_rfl
  obtain ⟨hm, h'⟩ := rd_ints.1 h
  obtain ⟨ad, rfl, _, _⟩ := h'.2 (by omega)
  have hr : ∀ W, (Instr.sliceAt 45 (.slice (some ad) n c) none (some (.int .i64 (j : Int))) none).run Tryd.prog W = .ok (.slice (some (ad.add 0)) j c) W := fun W => by
    rw [run_sliceAt_slice W _ _ _ _ _ hu, run_slice_h W _ _ _ _ hu _ _ (by omega) (by omega), hs W]
    have hc0 : ¬ c = 0 := by omega
    simp [Result.andThen, sliced, hc0]
  refine ⟨_, _, hr, ?_, by omega⟩
  have := rd_partR (c' := c) h (p := 0) (j := j) (by omega)
  rwa [List.drop_zero] at this
theorem run_dropI {A : Option Addr} {n c B : Nat} {l : List Int} {w : World} (h : Mem.rd w B [.slice A n c] l) (hc : n ≤ c) {p j : Nat} (h0 : 0 < j) (hj : p + j = n) :
    ∃ A' c', (∀ W, (Instr.sliceAt 45 (.slice A n c) (some (.int .i64 (p : Int))) none none).run Tryd.prog W = .ok (.slice A' j c') W) ∧ Mem.rd w B [.slice A' j c'] (l.drop p) ∧ j ≤ c' := by
  have hu : Tryd.prog.underlying 45 = some (.slice (Tryd.prog.elem 45)) := by kernel_rfl
  have hs : ∀ W, (Go.sizeOf (Tryd.prog.elem 45)).run Tryd.prog W = .ok 1 W := fun W => by kernel_rfl
  obtain ⟨hm, h'⟩ := rd_ints.1 h
  obtain ⟨ad, rfl, _, _⟩ := h'.2 (by omega)
  have hl := rd_len h
  have hr : ∀ W, (Instr.sliceAt 45 (.slice (some ad) n c) (some (.int .i64 (p : Int))) none none).run Tryd.prog W = .ok (.slice (some (ad.add p)) j (c - p)) W := fun W => by
    rw [run_sliceAt_slice W _ _ _ _ _ hu, run_slice_l W _ _ _ _ hu _ _ (by omega) (by omega), hs W]
    have hc0 : ¬ c = p := by omega
    simp [Result.andThen, sliced, hc0]
    omega
  refine ⟨_, _, hr, ?_, by omega⟩
  have := rd_partR (c' := c - p) h (p := p) (j := j) (by omega)
  rwa [List.take_of_length_le (by rw [List.length_drop]; omega)] at this
theorem below2 {w W : World} {o0 o1 : Obj} (e : W.heap = ((w.alloc o0).alloc o1).heap) (e1 : W.os = w.os) (e2 : W.tape = w.tape) (e3 : W.output = w.output) : Below w.heap.size w W :=
  have B := (below_alloc w o0).alloc (by simp) o1
  ⟨e1, e2, e3, by rw [e]; exact B.size, fun b hb => by rw [e]; exact B.block b hb⟩
theorem mem_ix {l : List Int} {k : Nat} (h : k < l.length) : ix l k ∈ l := by rw [ix_lt h]; exact List.getElem_mem h

set_option maxHeartbeats 8000000 in
theorem l8Rows_any (k : Nat) : ∀ (d : Dg) (A : Option Addr) (c : Nat) (v : Int) (Av : Option Addr) (nv cv : Nat) (L : List Int) (base : Nat) (w : World), w.ownsRow base 108 3 (.slice A d.forks.length c) d.forks.length (fl d.forks) → base ≤ w.heap.size → Mem.rd w base [.slice Av nv cv] L → nv ≤ cv → d.Ok → 0 ≤ v → v + k = d.vars → L.length = 2 ^ k → (∀ x ∈ L, x = 0 ∨ x = 1) → upc d + ro2 k ≤ 1900 →
    Calls Tryd.prog 38 #[.agg #[.int .i64 d.vars, .slice A d.forks.length c], .slice Av nv cv, .int .i64 v] w (GivesDE base (bl (.slice A d.forks.length c)) (.slice A d.forks.length c) d.forks.length w (roF k d v L)) := by
  induction k with
  | zero =>
    intro d A c v Av nv cv L base w ho hb hr hc ok v0 hv hL h01 hu
    rw [roF_zero]
    have ln := rd_len hr
    have n1 : nv = 1 := by rw [hL] at ln; exact ln.symm
    subst n1
    have x01 := h01 _ (mem_ix (l := L) (k := 0) (by omega))
    obtain ⟨ad, rfl, hbl, d0⟩ := ((rd_ints.1 (Mem.rd_more hr hb)).2).int (k := 0) (by omega)
    have HO := Lib.hid (fun W (B : Below w.heap.size w W) => own_below ho B)
    have d1 : w.cell? ad = some (.int .i64 (ix L 0)) := d0
    have hbl' : (ad.add 0).block < w.heap.size := by rw [add_block]; exact hbl
    have ev : (v == d.vars) = true := by have : v = d.vars := by omega
                                         simp [this]
    obtain ⟨m, fs⟩ := d
    dsimp only at *
    generalize hX : ix L 0 = X at *
    clear hX ho hr hL h01 hu ok ln
    go_enter Tryd.func38, Tryd.ntmps38
    go_wp2
    go_region_law (fail)
    all_goals
      go_wp2
      have BB : Below w.heap.size w (((w.alloc (.cells #[.int .i64 m, .slice A fs.length c] 35)).alloc (.cells #[.int .i64 m, .slice A fs.length c] 35)).drew) := ((below_alloc w _).alloc (by simp) _).drew
      exact bodyPost_ret (v := .tuple #[.agg #[.int .i64 m, .slice A fs.length c], .int .i64 X]) (by simp [results, Tryd.results38, go_sem]) rfl ⟨Only.of_below BB _, KeptD.of_below BB _ _, .inr ⟨by dsimp only; omega, A, c, rfl, HO.out _ BB, fun x hx => .inl hx⟩⟩
  | succ k ih =>
    intro d A c v Av nv cv L base w ho hb hr hc ok v0 hv hL h01 hu
    have few := ok.few
    have hi12 := ok.hi
    have IH := Lib.hid ih
    clear ih
    have e2 : (2 : Nat) ^ (k + 1) = 2 ^ k + 2 ^ k := by rw [Nat.pow_succ]; omega
    have er : ro2 (k + 1) = 2 * ro2 k + if 2 ≤ k then 1 else 0 := rfl
    have ln := rd_len hr
    have hp : 0 < 2 ^ k := Nat.pow_pos (by omega)
    have hle : 2 ^ k ≤ 4096 := by
      have : 2 ^ k ≤ 2 ^ 12 := Nat.pow_le_pow_right (by omega) (by omega)
      omega
    have tl : (L.take (2 ^ k)).length = 2 ^ k := by rw [List.length_take]; omega
    have dl : (L.drop (2 ^ k)).length = 2 ^ k := by rw [List.length_drop]; omega
    obtain ⟨E0, K0k, P0, V0, U0⟩ := roF_ok k d (v + 1) (L.take (2 ^ k)) ok (by omega) (by omega) tl (fun x hx => h01 x (List.mem_of_mem_take hx)) (by rw [er] at hu; omega)
    obtain ⟨E1, K1k, P1, V1, U1⟩ := roF_ok k (roF k d (v + 1) (L.take (2 ^ k))).1 (v + 1) (L.drop (2 ^ k)) K0k (by omega) (by rw [E0.vars]; omega) dl (fun x hx => h01 x (List.mem_of_mem_drop hx)) (by rw [er] at hu; omega)
    obtain ⟨A1', c1', HT, rdT, hcT⟩ := run_takeI hr hc (j := 2 ^ k) hp (by omega)
    obtain ⟨A2', c2', HD, rdD, hcD⟩ := run_dropI hr hc (p := 2 ^ k) (j := 2 ^ k) hp (by omega)
    have HO := Lib.hid ho
    have NB := Lib.hid (fun x (hx : w.heap.size ≤ x) (q : x ∈ bl (.slice A d.forks.length c)) => show False from by have := (ho.lt x (mem_bl.1 q)).2; omega)
    have HBB := Lib.hid (fun y (q : y ∈ bl (.slice A d.forks.length c)) => (ho.lt y (mem_bl.1 q)).1)
    have BX := two_boxes w #[.int .i64 d.vars, .slice A d.forks.length c] #[.int .i64 0, .slice none 0 0] 35 35 _ (Below.refl _ _)
    have ev : (v == d.vars) = false := by have : v ≠ d.vars := by omega
                                          simp [this]
    have wv : IntKind.i64.wrap (v + 1) = v + 1 := IntWalk.i64_in _ (by omega)
    obtain ⟨H, hH⟩ : ∃ H : Nat, H = 2 ^ k := ⟨_, rfl⟩
    have wh : IntKind.i64.wrap ((nv : Int).tdiv 2) = (H : Int) := by rw [Int.tdiv_eq_ediv_of_nonneg (by omega), IntWalk.i64_in _ (by omega)]; omega
    have wh2 : wrap64 ((nv : Int) / 2) = (H : Int) := by rw [IntWalk.wrap64_in _ (by omega)]; omega
    have C0 := Lib.hid (fun W (B : Below w.heap.size w W) => IH.out d A c (v + 1) A1' (2 ^ k) c1' (L.take (2 ^ k)) base W (own_below HO.out B) (Nat.le_trans hb B.size) (Mem.rd_below rdT (B.mono hb)) hcT ok (by omega) (by omega) tl (fun x hx => h01 x (List.mem_of_mem_take hx)) (by rw [er] at hu; omega))
    have C1 := Lib.hid (fun (A1 : Option Addr) (c1 : Nat) (W : World) (on : Only (bl (.slice A d.forks.length c)) w W) (o : W.ownsRow base 108 3 (.slice A1 (roF k d (v + 1) (L.take (2 ^ k))).1.forks.length c1) (roF k d (v + 1) (L.take (2 ^ k))).1.forks.length (fl (roF k d (v + 1) (L.take (2 ^ k))).1.forks)) =>
      IH.out (roF k d (v + 1) (L.take (2 ^ k))).1 A1 c1 (v + 1) A2' (2 ^ k) c2' (L.drop (2 ^ k)) base W o (Nat.le_trans hb on.size) (Mem.rd_below rdD (on.below hb HBB.out)) hcD K0k (by omega) (by rw [E0.vars]; omega) dl (fun x hx => h01 x (List.mem_of_mem_drop hx)) (by rw [er] at hu; omega))
    have EL := Lib.hid E0.len
    have EL2 := Lib.hid (Nat.le_trans E0.len E1.len)
    have few1 := K0k.few
    have few2 := K1k.few
    have px0 := (isP_iff.1 P0).1
    have px1 := (isP_iff.1 P1).1
    rw [roF_succ]
    clear tl dl IH E0 E1 K0k K1k P0 P1 V0 V1 U0 U1 rdT rdD hcT hcD hr ok hL h01 hu er ln hc ho hv
    clear e2 hp hle
    generalize hR1 : roF k d (v + 1) (L.take (2 ^ k)) = R1 at *
    clear hR1
    generalize hR2 : roF k R1.1 (v + 1) (L.drop (2 ^ k)) = R2 at *
    clear hR2
    simp only [← hH] at HT HD C0 C1
    clear hH
    go_enter Tryd.func38, Tryd.ntmps38
    go_upto_region 4 with fail
    simp only [wh2]
    clear wh wh2
    generalize (w.alloc (.cells #[.int .i64 d.vars, .slice A d.forks.length c] 35)).alloc (.cells #[.int .i64 0, .slice none 0 0] 35) = W5 at *
    obtain ⟨B5, k0, k1⟩ := BX
    have x0 := k0.cell 0
    have x1 := k0.cell 1
    simp only [List.getElem?_cons_zero, List.getElem?_cons_succ] at x0 x1
    have l0 := k0.lt
    have K0 := Lib.hid k0
    have K1 := Lib.hid k1
    have HB5 := Lib.hid B5
    have CC0 := Lib.hid (fun W (B : Below W5.heap.size W5 W) => C0.out W (B5.trans (B.mono B5.size)))
    have BW0 : Below W5.heap.size W5 W5.drew := (Below.refl _ _).drew
    have z0 := x0
    have z1 := x1
    clear C0 k0 k1 B5
    go_cut [9, 10] from 24 to 34 (fun a9 a10 wx => ∃ (h : Nat) (m1 : Int) (A1 : Option Addr) (n1 c1 : Nat) (x : Int), a9 = .pointer (some ⟨h, 0, none⟩) ∧ a10 = .int .i64 x ∧ Hid (HalfD base (.slice A d.forks.length c) d.forks.length d.vars w R1 wx h m1 A1 n1 c1 x))
    case first =>
      refine wp_region_held_drew (S := (fun w' => w'.cell? ⟨w.heap.size, 0, none⟩ = some (.int .i64 d.vars) ∧ w'.cell? ⟨w.heap.size, 1, none⟩ = some (.slice A d.forks.length c))) (by kernel_rfl) ?_ (fun hHeld => ?_)
      · (try dsimp only); exact ⟨x0, x1⟩
      refine wpAnyH_take (i := 0) (v := ?p1v) rfl (by kernel_rfl) (by kernel_rfl) (by kernel_rfl) (fun _ _ _ h => h) (Or.inl ⟨by kernel_rfl, ?p1h⟩) (by assumption) ?p1r
      case p1h => ((intro w hSw; (try dsimp only at hSw); go_simp) <;> with_reducible rfl)
      (try simp only [List.getElem_toArray, List.getElem_cons_zero]); (try simp only [Act.put]); (try simp only [List.setIfInBounds_toArray]); (try simp only [List.set_cons_succ]); (try simp only [List.set_cons_zero])
      refine wpAnyH_take (i := 1) (v := ?p2v) rfl (by kernel_rfl) (by kernel_rfl) (by kernel_rfl) (fun _ _ _ h => h) (Or.inl ⟨by kernel_rfl, ?p2h⟩) (by assumption) ?p2r
      case p2h => ((intro w hSw; (try dsimp only at hSw); go_simp) <;> with_reducible rfl)
      (try simp only [List.getElem_toArray, List.getElem_cons_zero, List.getElem_cons_succ]); (try simp only [Act.put]); (try simp only [List.setIfInBounds_toArray]); (try simp only [List.set_cons_succ]); (try simp only [List.set_cons_zero])
      refine wpAnyH_take (i := 2) (v := ?p3v) rfl (by kernel_rfl) (by kernel_rfl) (by kernel_rfl) (fun _ _ _ h => h) (Or.inl ⟨by kernel_rfl, ?p3h⟩) (by assumption) ?p3r
      case p3h => ((intro w hSw; (try dsimp only at hSw); go_simp) <;> with_reducible rfl)
      (try simp only [List.getElem_toArray, List.getElem_cons_zero, List.getElem_cons_succ]); (try simp only [Act.put]); (try simp only [List.setIfInBounds_toArray]); (try simp only [List.set_cons_succ]); (try simp only [List.set_cons_zero])
      refine wpAnyH_take (i := 3) (v := ?p4v) rfl (by kernel_rfl) (by kernel_rfl) (by kernel_rfl) (fun _ _ _ h => h) (Or.inl ⟨by kernel_rfl, ?p4h⟩) (by assumption) ?p4r
      case p4h => ((intro w hSw; (try dsimp only at hSw); go_simp) <;> with_reducible rfl)
      (try simp only [List.getElem_toArray, List.getElem_cons_zero, List.getElem_cons_succ]); (try simp only [Act.put]); (try simp only [List.setIfInBounds_toArray]); (try simp only [List.set_cons_succ]); (try simp only [List.set_cons_zero])
      refine wpAnyH_take (i := 4) (v := ?p5v) rfl (by kernel_rfl) (by kernel_rfl) (by kernel_rfl) (fun _ _ _ h => h) (Or.inl ⟨by kernel_rfl, ?p5h⟩) (by assumption) ?p5r
      case p5h => ((intro w hSw; (try dsimp only at hSw); go_simp) <;> with_reducible rfl)
      (try simp only [List.getElem_toArray, List.getElem_cons_zero, List.getElem_cons_succ]); (try simp only [Act.put]); (try simp only [List.setIfInBounds_toArray]); (try simp only [List.set_cons_succ]); (try simp only [List.set_cons_zero])
      refine wpAnyH_take (i := 5) (v := ?p6v) rfl (by kernel_rfl) (by kernel_rfl) (by kernel_rfl) (fun _ _ _ h => h) (Or.inl ⟨by kernel_rfl, ?p6h⟩) (by assumption) ?p6r
      case p6h => ((intro w hSw; (try dsimp only at hSw); go_simp) <;> with_reducible rfl)
      (try simp only [List.getElem_toArray, List.getElem_cons_zero, List.getElem_cons_succ]); (try simp only [Act.put]); (try simp only [List.setIfInBounds_toArray]); (try simp only [List.set_cons_succ]); (try simp only [List.set_cons_zero])
      refine wpAnyH_ready (rs := [6, 10]) (by kernel_rfl) (by simp) ?_
      refine AllReadyH.cons (o := _) rfl (fun K hK => ?_) (AllReadyH.cons (o := _) rfl (fun K hK => ?_) AllReadyH.nil)
      · go_simp
        refine (CC0.out _ BW0).mono ?_
        rintro e w9 hG
        obtain ⟨m1, A1, n1, c1, x, rfl, on9, kd9, on1⟩ := gives_de_one rfl hG
        clear hG
        have kk0 := only_blk on9 (K0.out.below BW0 l0) (fun q => NB.out _ (Nat.le_refl _) q)
        have kk1 := only_blk on9 (K1.out.below BW0 K1.out.lt) (fun q => NB.out _ (Nat.le_succ _) q)
        have x0 := kk0.cell 0
        have x1 := kk0.cell 1
        simp only [List.getElem?_cons_zero, List.getElem?_cons_succ] at x0 x1
        have lw9 := kk0.lt
        have Bc := HB5.out.trans (BW0.mono HB5.out.size)
        have ON9 := (Only.of_below Bc (bl (.slice A d.forks.length c))).trans on9
        have KD9 := (KeptD.of_below Bc (.slice A d.forks.length c) d.forks.length).trans kd9 Bc.size (Nat.le_refl _) (fun x e => .inl e)
        have OW9 : OneD base (.slice A d.forks.length c) (w.heap.size + 2) R1 m1 A1 n1 c1 x w9 := oneD_from on1 (Nat.le_trans K1.out.lt BW0.size)
        refine hK.out _ _ ?_ (fun hHeld => ?_)
        · (try dsimp only); exact ⟨x0, x1⟩
        clear hK K
        (try simp only [List.getElem_toArray, List.getElem_cons_zero, List.getElem_cons_succ]); (try simp only [Act.put]); (try simp only [List.setIfInBounds_toArray]); (try simp only [List.set_cons_succ]); (try simp only [List.set_cons_zero])
        refine wpAnyH_take (i := 7) (v := ?p7v) rfl (by kernel_rfl) (by kernel_rfl) (by kernel_rfl) (fun _ _ _ h => h) (Or.inl ⟨by kernel_rfl, ?p7h⟩) (by assumption) ?p7r
        case p7h => ((intro w hSw; (try dsimp only at hSw); go_simp) <;> with_reducible rfl)
        (try simp only [List.getElem_toArray, List.getElem_cons_zero, List.getElem_cons_succ]); (try simp only [Act.put]); (try simp only [List.setIfInBounds_toArray]); (try simp only [List.set_cons_succ]); (try simp only [List.set_cons_zero])
        refine wpAnyH_take (i := 8) (v := ?p8v) rfl (by kernel_rfl) (by kernel_rfl) (by kernel_rfl) (fun _ _ _ h => h) (Or.inl ⟨by kernel_rfl, ?p8h⟩) (by assumption) ?p8r
        case p8h => ((intro w hSw; (try dsimp only at hSw); go_simp) <;> with_reducible rfl)
        (try simp only [List.getElem_toArray, List.getElem_cons_zero, List.getElem_cons_succ]); (try simp only [Act.put]); (try simp only [List.setIfInBounds_toArray]); (try simp only [List.set_cons_succ]); (try simp only [List.set_cons_zero])
        refine wpAnyH_take (i := 9) (v := ?p9v) rfl (by kernel_rfl) (by kernel_rfl) (by kernel_rfl) (fun _ _ _ h => h) (Or.inl ⟨by kernel_rfl, ?p9h⟩) (by assumption) ?p9r
        case p9h => ((intro w hSw; (try dsimp only at hSw); go_simp) <;> with_reducible rfl)
        (try simp only [List.getElem_toArray, List.getElem_cons_zero, List.getElem_cons_succ]); (try simp only [Act.put]); (try simp only [List.setIfInBounds_toArray]); (try simp only [List.set_cons_succ]); (try simp only [List.set_cons_zero])
        refine wpAnyH_ready (rs := [10]) (by kernel_rfl) (by simp) ?_
        refine AllReadyH.cons (o := _) rfl (fun K hK => ?_) AllReadyH.nil
        go_simp
        have KAp10 : Blk (w9.alloc (.cells #[.int .i64 0, .slice none 0 0] 35)) w9.heap.size 35 [.int .i64 0, .slice none 0 0] := ci_blk w9 #[.int .i64 0, .slice none 0 0] 35
        have x0 := cell_below (below_alloc w9 (.cells #[.int .i64 0, .slice none 0 0] 35)) (p := ⟨w.heap.size, 0, none⟩) lw9 x0
        have x1 := cell_below (below_alloc w9 (.cells #[.int .i64 0, .slice none 0 0] 35)) (p := ⟨w.heap.size, 1, none⟩) lw9 x1
        refine hK.out _ _ ?_ (fun hHeld => ?_)
        · (try dsimp only); exact ⟨x0, x1⟩
        clear hK K
        (try simp only [List.getElem_toArray, List.getElem_cons_zero, List.getElem_cons_succ]); (try simp only [Act.put]); (try simp only [List.setIfInBounds_toArray]); (try simp only [List.set_cons_succ]); (try simp only [List.set_cons_zero])
        have hc0 := KAp10.cell 0
        have hc1 := KAp10.cell 1
        have hf0 := KAp10.frozen 0
        have hf1 := KAp10.frozen 1
        simp only [List.getElem?_cons_zero, List.getElem?_cons_succ] at hc0 hc1
        refine wpAnyH_ready (rs := [11]) (by kernel_rfl) (by simp) ?_
        refine AllReadyH.cons (o := _) rfl (fun K hK => ?_) AllReadyH.nil
        go_simp
        refine hK.out _ _ ?_ (fun hHeld => ?_)
        · (try dsimp only)
          first
            | exact ⟨(half_new kk1.lt kk0 kk1 ON9 KD9 OW9).box.cell 0, (half_new kk1.lt kk0 kk1 ON9 KD9 OW9).box.cell 1⟩
            | exact ⟨(half_set (W := w9.alloc (.cells #[.int .i64 0, .slice none 0 0] 35)) kk1.lt (kk0.alloc _) (kk1.alloc _) (ON9.trans (Only.of_below (below_alloc w9 _) _)) (KD9.below (below_alloc w9 _) ON9.size) (ci_blk w9 _ _) (oneD_below OW9 (below_alloc w9 _)) (fun x0 => oneD_late OW9 x0)).box.cell 0, (half_set (W := w9.alloc (.cells #[.int .i64 0, .slice none 0 0] 35)) kk1.lt (kk0.alloc _) (kk1.alloc _) (ON9.trans (Only.of_below (below_alloc w9 _) _)) (KD9.below (below_alloc w9 _) ON9.size) (ci_blk w9 _ _) (oneD_below OW9 (below_alloc w9 _)) (fun x0 => oneD_late OW9 x0)).box.cell 1⟩
        clear hK K
        (try simp only [List.getElem_toArray, List.getElem_cons_zero, List.getElem_cons_succ]); (try simp only [Act.put]); (try simp only [List.setIfInBounds_toArray]); (try simp only [List.set_cons_succ]); (try simp only [List.set_cons_zero])
        refine wpAnyH_take (i := 12) (v := ?p11v) rfl (by kernel_rfl) (by kernel_rfl) (by kernel_rfl) (fun _ _ _ h => h) (Or.inl ⟨by kernel_rfl, ?p11h⟩) (by assumption) ?p11r
        case p11h => ((intro w hSw; (try dsimp only at hSw); go_simp) <;> with_reducible rfl)
        (try simp only [List.getElem_toArray, List.getElem_cons_zero, List.getElem_cons_succ]); (try simp only [Act.put]); (try simp only [List.setIfInBounds_toArray]); (try simp only [List.set_cons_succ]); (try simp only [List.set_cons_zero])
        refine wpAnyH_done (by kernel_rfl) ?_ _
        go_wp2_with fail
        go_meet
        first
          | exact ⟨_, m1, A1, n1, c1, x, rfl, rfl, Lib.hid (half_heap (half_new kk1.lt kk0 kk1 ON9 KD9 OW9) rfl rfl rfl rfl)⟩
          | exact ⟨_, m1, A1, n1, c1, x, rfl, rfl, Lib.hid (half_heap (half_set (W := w9.alloc (.cells #[.int .i64 0, .slice none 0 0] 35)) kk1.lt (kk0.alloc _) (kk1.alloc _) (ON9.trans (Only.of_below (below_alloc w9 _) _)) (KD9.below (below_alloc w9 _) ON9.size) (ci_blk w9 _ _) (oneD_below OW9 (below_alloc w9 _)) (fun x0 => oneD_late OW9 x0)) rfl rfl rfl rfl)⟩
      · go_simp
        have BAp12 := BW0.alloc BW0.size (.cells #[.int .i64 0, .slice none 0 0] 35)
        have KAp12 : Blk (W5.drew.alloc (.cells #[.int .i64 0, .slice none 0 0] 35)) W5.heap.size 35 [.int .i64 0, .slice none 0 0] := ci_blk W5.drew #[.int .i64 0, .slice none 0 0] 35
        have x0 := cell_below BAp12 (p := ⟨w.heap.size, 0, none⟩) l0 z0
        have x1 := cell_below BAp12 (p := ⟨w.heap.size, 1, none⟩) l0 z1
        refine hK.out _ _ ?_ (fun hHeld => ?_)
        · (try dsimp only); exact ⟨x0, x1⟩
        clear hK K
        (try simp only [List.getElem_toArray, List.getElem_cons_zero, List.getElem_cons_succ]); (try simp only [Act.put]); (try simp only [List.setIfInBounds_toArray]); (try simp only [List.set_cons_succ]); (try simp only [List.set_cons_zero])
        refine wpAnyH_ready (rs := [6]) (by kernel_rfl) (by simp) ?_
        refine AllReadyH.cons (o := _) rfl (fun K hK => ?_) AllReadyH.nil
        go_simp
        refine (CC0.out _ BAp12).mono ?_
        rintro e w9 hG
        obtain ⟨m1, A1, n1, c1, x, rfl, on9, kd9, on1⟩ := gives_de_one rfl hG
        clear hG
        have kk0 := only_blk on9 (K0.out.below BAp12 l0) (fun q => NB.out _ (Nat.le_refl _) q)
        have kk1 := only_blk on9 (K1.out.below BAp12 K1.out.lt) (fun q => NB.out _ (Nat.le_succ _) q)
        have x0 := kk0.cell 0
        have x1 := kk0.cell 1
        simp only [List.getElem?_cons_zero, List.getElem?_cons_succ] at x0 x1
        have lw9 := kk0.lt
        have Bc := HB5.out.trans (BAp12.mono HB5.out.size)
        have ON9 := (Only.of_below Bc (bl (.slice A d.forks.length c))).trans on9
        have KD9 := (KeptD.of_below Bc (.slice A d.forks.length c) d.forks.length).trans kd9 Bc.size (Nat.le_refl _) (fun x e => .inl e)
        have OW9 : OneD base (.slice A d.forks.length c) (w.heap.size + 2) R1 m1 A1 n1 c1 x w9 := oneD_from on1 (Nat.le_trans K1.out.lt BAp12.size)
        have KH9 := only_blk on9 KAp12 (fun q => NB.out _ (Nat.le_trans HB5.out.size BW0.size) q)
        have HY9 := oneD_far on1 KAp12.lt (fun q => NB.out _ (Nat.le_trans HB5.out.size BW0.size) q)
        refine hK.out _ _ ?_ (fun hHeld => ?_)
        · (try dsimp only); exact ⟨x0, x1⟩
        clear hK K
        (try simp only [List.getElem_toArray, List.getElem_cons_zero, List.getElem_cons_succ]); (try simp only [Act.put]); (try simp only [List.setIfInBounds_toArray]); (try simp only [List.set_cons_succ]); (try simp only [List.set_cons_zero])
        refine wpAnyH_take (i := 7) (v := ?p13v) rfl (by kernel_rfl) (by kernel_rfl) (by kernel_rfl) (fun _ _ _ h => h) (Or.inl ⟨by kernel_rfl, ?p13h⟩) (by assumption) ?p13r
        case p13h => ((intro w hSw; (try dsimp only at hSw); go_simp) <;> with_reducible rfl)
        (try simp only [List.getElem_toArray, List.getElem_cons_zero, List.getElem_cons_succ]); (try simp only [Act.put]); (try simp only [List.setIfInBounds_toArray]); (try simp only [List.set_cons_succ]); (try simp only [List.set_cons_zero])
        refine wpAnyH_take (i := 8) (v := ?p14v) rfl (by kernel_rfl) (by kernel_rfl) (by kernel_rfl) (fun _ _ _ h => h) (Or.inl ⟨by kernel_rfl, ?p14h⟩) (by assumption) ?p14r
        case p14h => ((intro w hSw; (try dsimp only at hSw); go_simp) <;> with_reducible rfl)
        (try simp only [List.getElem_toArray, List.getElem_cons_zero, List.getElem_cons_succ]); (try simp only [Act.put]); (try simp only [List.setIfInBounds_toArray]); (try simp only [List.set_cons_succ]); (try simp only [List.set_cons_zero])
        refine wpAnyH_take (i := 9) (v := ?p15v) rfl (by kernel_rfl) (by kernel_rfl) (by kernel_rfl) (fun _ _ _ h => h) (Or.inl ⟨by kernel_rfl, ?p15h⟩) (by assumption) ?p15r
        case p15h => ((intro w hSw; (try dsimp only at hSw); go_simp) <;> with_reducible rfl)
        (try simp only [List.getElem_toArray, List.getElem_cons_zero, List.getElem_cons_succ]); (try simp only [Act.put]); (try simp only [List.setIfInBounds_toArray]); (try simp only [List.set_cons_succ]); (try simp only [List.set_cons_zero])
        have hc0 := KH9.cell 0
        have hc1 := KH9.cell 1
        have hf0 := KH9.frozen 0
        have hf1 := KH9.frozen 1
        simp only [List.getElem?_cons_zero, List.getElem?_cons_succ] at hc0 hc1
        refine wpAnyH_ready (rs := [11]) (by kernel_rfl) (by simp) ?_
        refine AllReadyH.cons (o := _) rfl (fun K hK => ?_) AllReadyH.nil
        go_simp
        refine hK.out _ _ ?_ (fun hHeld => ?_)
        · (try dsimp only)
          first
            | exact ⟨(half_set (Nat.lt_of_lt_of_le K1.out.lt BW0.size) kk0 kk1 ON9 KD9 KH9 OW9 HY9).box.cell 0, (half_set (Nat.lt_of_lt_of_le K1.out.lt BW0.size) kk0 kk1 ON9 KD9 KH9 OW9 HY9).box.cell 1⟩
        clear hK K
        (try simp only [List.getElem_toArray, List.getElem_cons_zero, List.getElem_cons_succ]); (try simp only [Act.put]); (try simp only [List.setIfInBounds_toArray]); (try simp only [List.set_cons_succ]); (try simp only [List.set_cons_zero])
        refine wpAnyH_take (i := 12) (v := ?p16v) rfl (by kernel_rfl) (by kernel_rfl) (by kernel_rfl) (fun _ _ _ h => h) (Or.inl ⟨by kernel_rfl, ?p16h⟩) (by assumption) ?p16r
        case p16h => ((intro w hSw; (try dsimp only at hSw); go_simp) <;> with_reducible rfl)
        (try simp only [List.getElem_toArray, List.getElem_cons_zero, List.getElem_cons_succ]); (try simp only [Act.put]); (try simp only [List.setIfInBounds_toArray]); (try simp only [List.set_cons_succ]); (try simp only [List.set_cons_zero])
        refine wpAnyH_done (by kernel_rfl) ?_ _
        go_wp2_with fail
        go_meet
        first
          | exact ⟨_, m1, A1, n1, c1, x, rfl, rfl, Lib.hid (half_heap (half_set (Nat.lt_of_lt_of_le K1.out.lt BW0.size) kk0 kk1 ON9 KD9 KH9 OW9 HY9) rfl rfl rfl rfl)⟩
    case rest =>
      obtain ⟨h, m1, A1, n1, c1, x, rfl, rfl, H1⟩ := hcut
      have k0 := H1.out.box
      have k1 := H1.out.res
      have kh := H1.out.one
      have x0 := k0.cell 0
      have x1 := k0.cell 1
      have u0 := k1.cell 0
      have u1 := k1.cell 1
      have uf0 := k1.frozen 0
      have uf1 := k1.frozen 1
      have s0 := k0.lt
      have s1 := k1.lt
      simp only [List.getElem?_cons_zero, List.getElem?_cons_succ] at x0 x1 u0 u1
      have HL := Lib.hid H1.out.only
      have HKE := Lib.hid H1.out.kept
      have KK1 := Lib.hid k1
      clear z0 z1 l0
      rcases H1.out.own with ⟨hx, hr⟩ | ⟨hx, ex, em, en, ho1, hy1⟩
      · exact absurd hr (by omega)
      · have HAP := Lib.hid (H1.out.apart hx)
        have KH := Lib.hid kh
        have KB := Lib.hid k0
        clear k0 k1 kh
        obtain ⟨⟨rv, rf⟩, rx⟩ := R1
        dsimp only at *
        have ex2 := ex.symm
        have em2 := em.symm
        subst ex2
        subst em2
        subst en
        have HO1 := Lib.hid ho1
        have HY1 := Lib.hid hy1
        have NB1 : Hid (∀ y, w.heap.size ≤ y → y ≤ w.heap.size + 1 → y ∉ bl (.slice A1 rf.length c1)) := Lib.hid (fun y h1 h2 q => by
          rcases HY1.out y q with q | q
          · exact NB.out y h1 q
          · omega)
        have CC1 := Lib.hid (fun W (B : Below wc.heap.size wc W) => C1.out A1 c1 W (HL.out.trans (Only.of_below B _)) (own_below HO1.out B))
        have h0 := KH.out.cell 0
        have h1 := KH.out.cell 1
        have sh := KH.out.lt
        simp only [List.getElem?_cons_zero, List.getElem?_cons_succ] at h0 h1
        have hxn : ¬ rx < 0 := by omega
        have FAR := Lib.hid H1.out.far
        clear ho1 hy1 H1 C1
        have BW0 : Below wc.heap.size wc wc.drew := (Below.refl _ _).drew
        have z0 := x0
        have z1 := x1
        have zh0 := h0
        have zh1 := h1
        go_upto_region 7 with fail
        go_cut [11, 12] from 37 to 47 (fun a11 a12 wx => ∃ (h2 : Nat) (m2 : Int) (A2 : Option Addr) (n2 c2 : Nat) (x2 : Int), a11 = .pointer (some ⟨h2, 0, none⟩) ∧ a12 = .int .i64 x2 ∧ Hid (HalfD base (.slice A d.forks.length c) d.forks.length d.vars w R2 wx h2 m2 A2 n2 c2 x2))
        case first =>
          refine wp_region_held_drew (S := (fun w' => w'.cell? ⟨w.heap.size, 0, none⟩ = some (.int .i64 d.vars) ∧ w'.cell? ⟨w.heap.size, 1, none⟩ = some (.slice A d.forks.length c) ∧ w'.cell? ⟨h, 0, none⟩ = some (.int .i64 rv) ∧ w'.cell? ⟨h, 1, none⟩ = some (.slice A1 rf.length c1))) (by kernel_rfl) ?_ (fun hHeld => ?_)
          · (try dsimp only); exact ⟨x0, x1, h0, h1⟩
          refine wpAnyH_take (i := 0) (v := ?q1v) rfl (by kernel_rfl) (by kernel_rfl) (by kernel_rfl) (fun _ _ _ h => h) (Or.inl ⟨by kernel_rfl, ?q1h⟩) (by assumption) ?q1r
          case q1h => ((intro w hSw; (try dsimp only at hSw); go_simp) <;> with_reducible rfl)
          (try simp only [List.getElem_toArray, List.getElem_cons_zero]); (try simp only [Act.put]); (try simp only [List.setIfInBounds_toArray]); (try simp only [List.set_cons_succ]); (try simp only [List.set_cons_zero])
          refine wpAnyH_take (i := 1) (v := ?q2v) rfl (by kernel_rfl) (by kernel_rfl) (by kernel_rfl) (fun _ _ _ h => h) (Or.inl ⟨by kernel_rfl, ?q2h⟩) (by assumption) ?q2r
          case q2h => ((intro w hSw; (try dsimp only at hSw); go_simp) <;> with_reducible rfl)
          (try simp only [List.getElem_toArray, List.getElem_cons_zero, List.getElem_cons_succ]); (try simp only [Act.put]); (try simp only [List.setIfInBounds_toArray]); (try simp only [List.set_cons_succ]); (try simp only [List.set_cons_zero])
          refine wpAnyH_take (i := 2) (v := ?q3v) rfl (by kernel_rfl) (by kernel_rfl) (by kernel_rfl) (fun _ _ _ h => h) (Or.inl ⟨by kernel_rfl, ?q3h⟩) (by assumption) ?q3r
          case q3h => ((intro w hSw; (try dsimp only at hSw); go_simp) <;> with_reducible rfl)
          (try simp only [List.getElem_toArray, List.getElem_cons_zero, List.getElem_cons_succ]); (try simp only [Act.put]); (try simp only [List.setIfInBounds_toArray]); (try simp only [List.set_cons_succ]); (try simp only [List.set_cons_zero])
          refine wpAnyH_take (i := 3) (v := ?q4v) rfl (by kernel_rfl) (by kernel_rfl) (by kernel_rfl) (fun _ _ _ h => h) (Or.inl ⟨by kernel_rfl, ?q4h⟩) (by assumption) ?q4r
          case q4h => ((intro w hSw; (try dsimp only at hSw); go_simp) <;> with_reducible rfl)
          (try simp only [List.getElem_toArray, List.getElem_cons_zero, List.getElem_cons_succ]); (try simp only [Act.put]); (try simp only [List.setIfInBounds_toArray]); (try simp only [List.set_cons_succ]); (try simp only [List.set_cons_zero])
          refine wpAnyH_take (i := 4) (v := ?q5v) rfl (by kernel_rfl) (by kernel_rfl) (by kernel_rfl) (fun _ _ _ h => h) (Or.inl ⟨by kernel_rfl, ?q5h⟩) (by assumption) ?q5r
          case q5h => ((intro w hSw; (try dsimp only at hSw); go_simp) <;> with_reducible rfl)
          (try simp only [List.getElem_toArray, List.getElem_cons_zero, List.getElem_cons_succ]); (try simp only [Act.put]); (try simp only [List.setIfInBounds_toArray]); (try simp only [List.set_cons_succ]); (try simp only [List.set_cons_zero])
          refine wpAnyH_take (i := 5) (v := ?q6v) rfl (by kernel_rfl) (by kernel_rfl) (by kernel_rfl) (fun _ _ _ h => h) (Or.inl ⟨by kernel_rfl, ?q6h⟩) (by assumption) ?q6r
          case q6h => ((intro w hSw; (try dsimp only at hSw); go_simp) <;> with_reducible rfl)
          (try simp only [List.getElem_toArray, List.getElem_cons_zero, List.getElem_cons_succ]); (try simp only [Act.put]); (try simp only [List.setIfInBounds_toArray]); (try simp only [List.set_cons_succ]); (try simp only [List.set_cons_zero])
          refine wpAnyH_ready (rs := [6, 10]) (by kernel_rfl) (by simp) ?_
          refine AllReadyH.cons (o := _) rfl (fun K hK => ?_) (AllReadyH.cons (o := _) rfl (fun K hK => ?_) AllReadyH.nil)
          · go_simp
            refine (CC1.out _ BW0).mono ?_
            rintro e w9 hG
            obtain ⟨m2, A2, n2, c2, x2, rfl, on9, kd9, on1⟩ := gives_de_one rfl hG
            clear hG
            have kk0 := only_blk on9 (KB.out.below BW0 s0) (NB1.out _ (Nat.le_refl _) (Nat.le_succ _))
            have kk1 := only_blk on9 (KK1.out.below BW0 s1) (NB1.out _ (Nat.le_succ _) (Nat.le_refl _))
            have kkh := only_blk on9 (KH.out.below BW0 sh) (fun q => HAP.out (mem_bl.1 q))
            have x0 := kk0.cell 0
            have x1 := kk0.cell 1
            have h0 := kkh.cell 0
            have h1 := kkh.cell 1
            simp only [List.getElem?_cons_zero, List.getElem?_cons_succ] at x0 x1 h0 h1
            have lw9 := kk0.lt
            have lh9 := kkh.lt
            have ON9 := only_trans2 (HL.out.trans (Only.of_below BW0 _)) on9 (fun y hy => (HY1.out y hy).imp id (fun q => by omega))
            have KD9 := (HKE.out.below BW0 HL.out.size).trans kd9 (Nat.le_trans HL.out.size BW0.size) EL.out (fun x e => (HY1.out x (mem_bl.2 e)).imp mem_bl.1 (fun q => by omega))
            have OW9 : OneD base (.slice A d.forks.length c) (w.heap.size + 2) R2 m2 A2 n2 c2 x2 w9 := oneD_via on1 (by have := s1; have := BW0.size; omega) HY1.out
            refine hK.out _ _ ?_ (fun hHeld => ?_)
            · (try dsimp only); exact ⟨x0, x1, h0, h1⟩
            clear hK K
            (try simp only [List.getElem_toArray, List.getElem_cons_zero, List.getElem_cons_succ]); (try simp only [Act.put]); (try simp only [List.setIfInBounds_toArray]); (try simp only [List.set_cons_succ]); (try simp only [List.set_cons_zero])
            refine wpAnyH_take (i := 7) (v := ?q7v) rfl (by kernel_rfl) (by kernel_rfl) (by kernel_rfl) (fun _ _ _ h => h) (Or.inl ⟨by kernel_rfl, ?q7h⟩) (by assumption) ?q7r
            case q7h => ((intro w hSw; (try dsimp only at hSw); go_simp) <;> with_reducible rfl)
            (try simp only [List.getElem_toArray, List.getElem_cons_zero, List.getElem_cons_succ]); (try simp only [Act.put]); (try simp only [List.setIfInBounds_toArray]); (try simp only [List.set_cons_succ]); (try simp only [List.set_cons_zero])
            refine wpAnyH_take (i := 8) (v := ?q8v) rfl (by kernel_rfl) (by kernel_rfl) (by kernel_rfl) (fun _ _ _ h => h) (Or.inl ⟨by kernel_rfl, ?q8h⟩) (by assumption) ?q8r
            case q8h => ((intro w hSw; (try dsimp only at hSw); go_simp) <;> with_reducible rfl)
            (try simp only [List.getElem_toArray, List.getElem_cons_zero, List.getElem_cons_succ]); (try simp only [Act.put]); (try simp only [List.setIfInBounds_toArray]); (try simp only [List.set_cons_succ]); (try simp only [List.set_cons_zero])
            refine wpAnyH_take (i := 9) (v := ?q9v) rfl (by kernel_rfl) (by kernel_rfl) (by kernel_rfl) (fun _ _ _ h => h) (Or.inl ⟨by kernel_rfl, ?q9h⟩) (by assumption) ?q9r
            case q9h => ((intro w hSw; (try dsimp only at hSw); go_simp) <;> with_reducible rfl)
            (try simp only [List.getElem_toArray, List.getElem_cons_zero, List.getElem_cons_succ]); (try simp only [Act.put]); (try simp only [List.setIfInBounds_toArray]); (try simp only [List.set_cons_succ]); (try simp only [List.set_cons_zero])
            refine wpAnyH_ready (rs := [10]) (by kernel_rfl) (by simp) ?_
            refine AllReadyH.cons (o := _) rfl (fun K hK => ?_) AllReadyH.nil
            go_simp
            have KAq10 : Blk (w9.alloc (.cells #[.int .i64 0, .slice none 0 0] 35)) w9.heap.size 35 [.int .i64 0, .slice none 0 0] := ci_blk w9 #[.int .i64 0, .slice none 0 0] 35
            have x0 := cell_below (below_alloc w9 (.cells #[.int .i64 0, .slice none 0 0] 35)) (p := ⟨w.heap.size, 0, none⟩) lw9 x0
            have x1 := cell_below (below_alloc w9 (.cells #[.int .i64 0, .slice none 0 0] 35)) (p := ⟨w.heap.size, 1, none⟩) lw9 x1
            have h0 := cell_below (below_alloc w9 (.cells #[.int .i64 0, .slice none 0 0] 35)) (p := ⟨h, 0, none⟩) lh9 h0
            have h1 := cell_below (below_alloc w9 (.cells #[.int .i64 0, .slice none 0 0] 35)) (p := ⟨h, 1, none⟩) lh9 h1
            refine hK.out _ _ ?_ (fun hHeld => ?_)
            · (try dsimp only); exact ⟨x0, x1, h0, h1⟩
            clear hK K
            (try simp only [List.getElem_toArray, List.getElem_cons_zero, List.getElem_cons_succ]); (try simp only [Act.put]); (try simp only [List.setIfInBounds_toArray]); (try simp only [List.set_cons_succ]); (try simp only [List.set_cons_zero])
            have hc0 := KAq10.cell 0
            have hc1 := KAq10.cell 1
            have hf0 := KAq10.frozen 0
            have hf1 := KAq10.frozen 1
            simp only [List.getElem?_cons_zero, List.getElem?_cons_succ] at hc0 hc1
            refine wpAnyH_ready (rs := [11]) (by kernel_rfl) (by simp) ?_
            refine AllReadyH.cons (o := _) rfl (fun K hK => ?_) AllReadyH.nil
            go_simp
            refine hK.out _ _ ?_ (fun hHeld => ?_)
            · (try dsimp only)
              first
                | exact ⟨(half_new kk1.lt kk0 kk1 ON9 KD9 OW9).box.cell 0, (half_new kk1.lt kk0 kk1 ON9 KD9 OW9).box.cell 1, (kkh.alloc _).cell 0, (kkh.alloc _).cell 1⟩
                | exact ⟨(half_new kk1.lt kk0 kk1 ON9 KD9 OW9).box.cell 0, (half_new kk1.lt kk0 kk1 ON9 KD9 OW9).box.cell 1, (two_far (by omega) (kkh.alloc _)).cell 0, (two_far (by omega) (kkh.alloc _)).cell 1⟩
                | exact ⟨(half_set (W := w9.alloc (.cells #[.int .i64 0, .slice none 0 0] 35)) kk1.lt (kk0.alloc _) (kk1.alloc _) (ON9.trans (Only.of_below (below_alloc w9 _) _)) (KD9.below (below_alloc w9 _) ON9.size) (ci_blk w9 _ _) (oneD_below OW9 (below_alloc w9 _)) (fun x0 => oneD_late OW9 x0)).box.cell 0, (half_set (W := w9.alloc (.cells #[.int .i64 0, .slice none 0 0] 35)) kk1.lt (kk0.alloc _) (kk1.alloc _) (ON9.trans (Only.of_below (below_alloc w9 _) _)) (KD9.below (below_alloc w9 _) ON9.size) (ci_blk w9 _ _) (oneD_below OW9 (below_alloc w9 _)) (fun x0 => oneD_late OW9 x0)).box.cell 1, (kkh.alloc _).cell 0, (kkh.alloc _).cell 1⟩
                | exact ⟨(half_set (W := w9.alloc (.cells #[.int .i64 0, .slice none 0 0] 35)) kk1.lt (kk0.alloc _) (kk1.alloc _) (ON9.trans (Only.of_below (below_alloc w9 _) _)) (KD9.below (below_alloc w9 _) ON9.size) (ci_blk w9 _ _) (oneD_below OW9 (below_alloc w9 _)) (fun x0 => oneD_late OW9 x0)).box.cell 0, (half_set (W := w9.alloc (.cells #[.int .i64 0, .slice none 0 0] 35)) kk1.lt (kk0.alloc _) (kk1.alloc _) (ON9.trans (Only.of_below (below_alloc w9 _) _)) (KD9.below (below_alloc w9 _) ON9.size) (ci_blk w9 _ _) (oneD_below OW9 (below_alloc w9 _)) (fun x0 => oneD_late OW9 x0)).box.cell 1, (two_far (by omega) (kkh.alloc _)).cell 0, (two_far (by omega) (kkh.alloc _)).cell 1⟩
            clear hK K
            (try simp only [List.getElem_toArray, List.getElem_cons_zero, List.getElem_cons_succ]); (try simp only [Act.put]); (try simp only [List.setIfInBounds_toArray]); (try simp only [List.set_cons_succ]); (try simp only [List.set_cons_zero])
            refine wpAnyH_take (i := 12) (v := ?q11v) rfl (by kernel_rfl) (by kernel_rfl) (by kernel_rfl) (fun _ _ _ h => h) (Or.inl ⟨by kernel_rfl, ?q11h⟩) (by assumption) ?q11r
            case q11h => ((intro w hSw; (try dsimp only at hSw); go_simp) <;> with_reducible rfl)
            (try simp only [List.getElem_toArray, List.getElem_cons_zero, List.getElem_cons_succ]); (try simp only [Act.put]); (try simp only [List.setIfInBounds_toArray]); (try simp only [List.set_cons_succ]); (try simp only [List.set_cons_zero])
            refine wpAnyH_done (by kernel_rfl) ?_ _
            go_wp2_with fail
            go_meet
            first
              | exact ⟨_, m2, A2, n2, c2, x2, rfl, rfl, Lib.hid (half_heap (half_new kk1.lt kk0 kk1 ON9 KD9 OW9) rfl rfl rfl rfl)⟩
              | exact ⟨_, m2, A2, n2, c2, x2, rfl, rfl, Lib.hid (half_heap (half_set (W := w9.alloc (.cells #[.int .i64 0, .slice none 0 0] 35)) kk1.lt (kk0.alloc _) (kk1.alloc _) (ON9.trans (Only.of_below (below_alloc w9 _) _)) (KD9.below (below_alloc w9 _) ON9.size) (ci_blk w9 _ _) (oneD_below OW9 (below_alloc w9 _)) (fun x0 => oneD_late OW9 x0)) rfl rfl rfl rfl)⟩
          · go_simp
            have BAq12 := BW0.alloc BW0.size (.cells #[.int .i64 0, .slice none 0 0] 35)
            have KAq12 : Blk (wc.drew.alloc (.cells #[.int .i64 0, .slice none 0 0] 35)) wc.heap.size 35 [.int .i64 0, .slice none 0 0] := ci_blk wc.drew #[.int .i64 0, .slice none 0 0] 35
            have x0 := cell_below BAq12 (p := ⟨w.heap.size, 0, none⟩) s0 z0
            have x1 := cell_below BAq12 (p := ⟨w.heap.size, 1, none⟩) s0 z1
            have h0 := cell_below BAq12 (p := ⟨h, 0, none⟩) sh zh0
            have h1 := cell_below BAq12 (p := ⟨h, 1, none⟩) sh zh1
            refine hK.out _ _ ?_ (fun hHeld => ?_)
            · (try dsimp only); exact ⟨x0, x1, h0, h1⟩
            clear hK K
            (try simp only [List.getElem_toArray, List.getElem_cons_zero, List.getElem_cons_succ]); (try simp only [Act.put]); (try simp only [List.setIfInBounds_toArray]); (try simp only [List.set_cons_succ]); (try simp only [List.set_cons_zero])
            refine wpAnyH_ready (rs := [6]) (by kernel_rfl) (by simp) ?_
            refine AllReadyH.cons (o := _) rfl (fun K hK => ?_) AllReadyH.nil
            go_simp
            refine (CC1.out _ BAq12).mono ?_
            rintro e w9 hG
            obtain ⟨m2, A2, n2, c2, x2, rfl, on9, kd9, on1⟩ := gives_de_one rfl hG
            clear hG
            have kk0 := only_blk on9 (KB.out.below BAq12 s0) (NB1.out _ (Nat.le_refl _) (Nat.le_succ _))
            have kk1 := only_blk on9 (KK1.out.below BAq12 s1) (NB1.out _ (Nat.le_succ _) (Nat.le_refl _))
            have kkh := only_blk on9 (KH.out.below BAq12 sh) (fun q => HAP.out (mem_bl.1 q))
            have x0 := kk0.cell 0
            have x1 := kk0.cell 1
            have h0 := kkh.cell 0
            have h1 := kkh.cell 1
            simp only [List.getElem?_cons_zero, List.getElem?_cons_succ] at x0 x1 h0 h1
            have lw9 := kk0.lt
            have lh9 := kkh.lt
            have ON9 := only_trans2 (HL.out.trans (Only.of_below BAq12 _)) on9 (fun y hy => (HY1.out y hy).imp id (fun q => by omega))
            have KD9 := (HKE.out.below BAq12 HL.out.size).trans kd9 (Nat.le_trans HL.out.size BAq12.size) EL.out (fun x e => (HY1.out x (mem_bl.2 e)).imp mem_bl.1 (fun q => by omega))
            have OW9 : OneD base (.slice A d.forks.length c) (w.heap.size + 2) R2 m2 A2 n2 c2 x2 w9 := oneD_via on1 (by have := s1; have := BAq12.size; omega) HY1.out
            have KH9 := only_blk on9 KAq12 (fun q => by have := (HO1.out.lt _ (mem_bl.1 q)).2; have := BW0.size; omega)
            have HY9 := oneD_far on1 KAq12.lt (fun q => by have := (HO1.out.lt _ (mem_bl.1 q)).2; have := BW0.size; omega)
            refine hK.out _ _ ?_ (fun hHeld => ?_)
            · (try dsimp only); exact ⟨x0, x1, h0, h1⟩
            clear hK K
            (try simp only [List.getElem_toArray, List.getElem_cons_zero, List.getElem_cons_succ]); (try simp only [Act.put]); (try simp only [List.setIfInBounds_toArray]); (try simp only [List.set_cons_succ]); (try simp only [List.set_cons_zero])
            refine wpAnyH_take (i := 7) (v := ?q13v) rfl (by kernel_rfl) (by kernel_rfl) (by kernel_rfl) (fun _ _ _ h => h) (Or.inl ⟨by kernel_rfl, ?q13h⟩) (by assumption) ?q13r
            case q13h => ((intro w hSw; (try dsimp only at hSw); go_simp) <;> with_reducible rfl)
            (try simp only [List.getElem_toArray, List.getElem_cons_zero, List.getElem_cons_succ]); (try simp only [Act.put]); (try simp only [List.setIfInBounds_toArray]); (try simp only [List.set_cons_succ]); (try simp only [List.set_cons_zero])
            refine wpAnyH_take (i := 8) (v := ?q14v) rfl (by kernel_rfl) (by kernel_rfl) (by kernel_rfl) (fun _ _ _ h => h) (Or.inl ⟨by kernel_rfl, ?q14h⟩) (by assumption) ?q14r
            case q14h => ((intro w hSw; (try dsimp only at hSw); go_simp) <;> with_reducible rfl)
            (try simp only [List.getElem_toArray, List.getElem_cons_zero, List.getElem_cons_succ]); (try simp only [Act.put]); (try simp only [List.setIfInBounds_toArray]); (try simp only [List.set_cons_succ]); (try simp only [List.set_cons_zero])
            refine wpAnyH_take (i := 9) (v := ?q15v) rfl (by kernel_rfl) (by kernel_rfl) (by kernel_rfl) (fun _ _ _ h => h) (Or.inl ⟨by kernel_rfl, ?q15h⟩) (by assumption) ?q15r
            case q15h => ((intro w hSw; (try dsimp only at hSw); go_simp) <;> with_reducible rfl)
            (try simp only [List.getElem_toArray, List.getElem_cons_zero, List.getElem_cons_succ]); (try simp only [Act.put]); (try simp only [List.setIfInBounds_toArray]); (try simp only [List.set_cons_succ]); (try simp only [List.set_cons_zero])
            have hc0 := KH9.cell 0
            have hc1 := KH9.cell 1
            have hf0 := KH9.frozen 0
            have hf1 := KH9.frozen 1
            simp only [List.getElem?_cons_zero, List.getElem?_cons_succ] at hc0 hc1
            refine wpAnyH_ready (rs := [11]) (by kernel_rfl) (by simp) ?_
            refine AllReadyH.cons (o := _) rfl (fun K hK => ?_) AllReadyH.nil
            go_simp
            refine hK.out _ _ ?_ (fun hHeld => ?_)
            · (try dsimp only)
              first
                | exact ⟨(half_set (by have := s1; have := BW0.size; omega) kk0 kk1 ON9 KD9 KH9 OW9 HY9).box.cell 0, (half_set (by have := s1; have := BW0.size; omega) kk0 kk1 ON9 KD9 KH9 OW9 HY9).box.cell 1, (two_far (by have := BW0.size; omega) kkh).cell 0, (two_far (by have := BW0.size; omega) kkh).cell 1⟩
            clear hK K
            (try simp only [List.getElem_toArray, List.getElem_cons_zero, List.getElem_cons_succ]); (try simp only [Act.put]); (try simp only [List.setIfInBounds_toArray]); (try simp only [List.set_cons_succ]); (try simp only [List.set_cons_zero])
            refine wpAnyH_take (i := 12) (v := ?q16v) rfl (by kernel_rfl) (by kernel_rfl) (by kernel_rfl) (fun _ _ _ h => h) (Or.inl ⟨by kernel_rfl, ?q16h⟩) (by assumption) ?q16r
            case q16h => ((intro w hSw; (try dsimp only at hSw); go_simp) <;> with_reducible rfl)
            (try simp only [List.getElem_toArray, List.getElem_cons_zero, List.getElem_cons_succ]); (try simp only [Act.put]); (try simp only [List.setIfInBounds_toArray]); (try simp only [List.set_cons_succ]); (try simp only [List.set_cons_zero])
            refine wpAnyH_done (by kernel_rfl) ?_ _
            go_wp2_with fail
            go_meet
            first
              | exact ⟨_, m2, A2, n2, c2, x2, rfl, rfl, Lib.hid (half_heap (half_set (by have := s1; have := BW0.size; omega) kk0 kk1 ON9 KD9 KH9 OW9 HY9) rfl rfl rfl rfl)⟩
        case rest =>
          obtain ⟨h2, m2, A2, n2, c2, x2, rfl, rfl, H2⟩ := hcut
          have kr := H2.out.res
          have kg := H2.out.one
          have j0 := kg.cell 0
          have j1 := kg.cell 1
          have u0 := kr.cell 0
          have u1 := kr.cell 1
          simp only [List.getElem?_cons_zero, List.getElem?_cons_succ] at j0 j1 u0 u1
          have HL2 := Lib.hid H2.out.only
          have HKE2 := Lib.hid H2.out.kept
          have KR := Lib.hid kr
          rcases H2.out.own with ⟨hx2, hr2⟩ | ⟨hx2, ex2, em2, en2, ho2, hy2⟩
          · exact absurd hr2 (by omega)
          · clear kr kg
            obtain ⟨⟨sv, sf⟩, sx⟩ := R2
            dsimp only at *
            have ex3 := ex2.symm
            have em3 := em2.symm
            subst ex3
            subst em3
            subst en2
            have HY2 := Lib.hid hy2
            have LA := Lib.hid (l8Add_any ⟨sv, sf⟩ A2 c2 ⟨v, rx, sx⟩ base wc ho2 (Nat.le_trans hb HL2.out.size) few2 hx hx2)
            dsimp only at LA
            clear ho2 hy2 H2
            go_wp2_with fail
            refine LA.out.mono ?_
            rintro e w7 hG
            obtain ⟨m3, A3, n3, c3, x3, rfl, on7, kd7, on1⟩ := gives_de_one rfl hG
            clear hG
            have kr7 := only_blk on7 KR.out (fun q => (HY2.out _ q).elim (NB.out _ (Nat.le_succ _)) (fun q => by omega))
            have u0 := kr7.cell 0
            have u1 := kr7.cell 1
            have uf0 := kr7.frozen 0
            have uf1 := kr7.frozen 1
            simp only [List.getElem?_cons_zero, List.getElem?_cons_succ] at u0 u1
            have KR7 := Lib.hid kr7
            have ON7 := Lib.hid (only_trans2 HL2.out on7 (fun y hy => (HY2.out y hy).imp id (fun q => by omega)))
            have KD7 := Lib.hid (HKE2.out.trans kd7 HL2.out.size EL2.out (fun x e => (HY2.out x (mem_bl.2 e)).imp mem_bl.1 (fun q => by omega)))
            have OD7 := Lib.hid (oneD_via (v := .slice A d.forks.length c) (L := w.heap.size) on1 HL2.out.size (fun y hy => (HY2.out y hy).imp id (fun q => by omega)))
            have APT : Hid (x3 = -1 ∨ (Value.slice A3 n3 c3).ownBlock ≠ some (w.heap.size + 1)) := Lib.hid (by
              rcases on1 with ⟨q, _⟩ | ⟨_, _, _, _, _, q⟩
              · exact .inl q
              · refine .inr fun e => ?_
                rcases q _ (mem_bl.2 e) with q | q
                · exact (HY2.out _ q).elim (NB.out _ (Nat.le_succ _)) (fun q => by omega)
                · have := KR.out.lt; omega)
            clear kr7 on7 kd7 on1
            go_wp2
            have K2 := (KR7.out.set 0 (.int .i64 m3)).set 1 (.slice A3 n3 c3)
            have q8 := only_setD (only_setD ON7.out (p := ⟨w.heap.size + 1, 0, none⟩) (.int .i64 m3) (Nat.le_succ _)) (p := ⟨w.heap.size + 1, 1, none⟩) (.slice A3 n3 c3) (Nat.le_succ _)
            have kd8 := (KD7.out.set (p := ⟨w.heap.size + 1, 0, none⟩) (.int .i64 m3) (Nat.le_succ _)).set (p := ⟨w.heap.size + 1, 1, none⟩) (.slice A3 n3 c3) (Nat.le_succ _)
            have OD8 : OneD base (.slice A d.forks.length c) w.heap.size (adF ⟨sv, sf⟩ ⟨v, rx, sx⟩) m3 A3 n3 c3 x3 ((w7.setCell ⟨w.heap.size + 1, 0, none⟩ (.int .i64 m3)).setCell ⟨w.heap.size + 1, 1, none⟩ (.slice A3 n3 c3)) := by
              rcases APT.out with q | q
              · rcases OD7.out with o | o
                · exact .inl o
                · omega
              · exact oneD_set (oneD_set OD7.out _ q) _ q
            generalize (w7.setCell ⟨w.heap.size + 1, 0, none⟩ (.int .i64 m3)).setCell ⟨w.heap.size + 1, 1, none⟩ (.slice A3 n3 c3) = w8 at K2 q8 kd8 OD8 ⊢
            have r0 := K2.cell 0
            have r1 := K2.cell 1
            simp only [List.set_cons_zero, List.set_cons_succ, List.getElem?_cons_zero, List.getElem?_cons_succ] at r0 r1
            exact bodyPost_ret (v := .tuple #[.agg #[.int .i64 m3, .slice A3 n3 c3], .int .i64 x3]) (by simp [results, Tryd.results38, go_sem, r0, r1]) rfl (de_of_one q8 kd8 OD8)
end Go.Proofs.YtnhjcokmajejcaaDoor
