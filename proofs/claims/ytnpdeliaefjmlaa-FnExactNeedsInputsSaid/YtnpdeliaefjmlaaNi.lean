/- Circuits: to which nodes one comes (plain); the library's way through a slice of gates from its end. -/
import Derived.Test.YtnpdeliaefjmlaaRcI
import Derived.Test.YtnpdeliaefjmlaaCiI
import Derived.Test.YtnpdeliaefjmlaaDgV
namespace Go.Proofs.Ytnpdeliaefjmlaa
open Go.RowKit Go.Shelf
attribute [local go_sem] Oper.semAt_some
set_option maxRecDepth 100000

/-- Where a gate's node is. -/
def nP (s : Ci) (i : Nat) : Nat := 1 + s.ins.toNat + i
/-- One gate is looked at: if one comes to it, one comes to the nodes of both of its edges. -/
def nstep (s : Ci) (R : Nat → Bool) (i : Nat) : Nat → Bool := fun x => R x || (R (nP s i) && (decide ((x : Int) = (el s.gates i).a / 2) || decide ((x : Int) = (el s.gates i).b / 2)))
def nch (s : Ci) (e : Int) (is : List Nat) : Nat → Bool := is.foldl (nstep s) (fun x => decide ((x : Int) = e / 2))
theorem nch_snoc (s : Ci) (e : Int) (is : List Nat) (i : Nat) : nch s e (is ++ [i]) = nstep s (nch s e is) i := by unfold nch; rw [List.foldl_append]; rfl
/-- To which nodes one comes from an edge. -/
def needF (s : Ci) (e : Int) : Nat → Bool := nch s e (downTo s.gates.length s.gates.length)
theorem nstep_no {s : Ci} {R : Nat → Bool} {i : Nat} (h : R (nP s i) = false) : nstep s R i = R := by
  funext x
  unfold nstep
  rw [h, Bool.false_and, Bool.or_false]
theorem nstep_yes {s : Ci} {R : Nat → Bool} {i lo hi : Nat} (h : R (nP s i) = true) (h1 : (el s.gates i).a / 2 = lo) (h2 : (el s.gates i).b / 2 = hi) : nstep s R i = fun y => (R y || decide (y = lo)) || decide (y = hi) := by
  funext x
  unfold nstep
  rw [h, h1, h2, Bool.true_and, Bool.or_assoc]
  congr 2 <;> exact decide_eq_decide.2 ⟨fun h => by omega, fun h => by omega⟩
theorem nchC_two {m : Nat} {s : Ci} {R : Nat → Bool} {i lo hi : Nat} (h : R (nP s i) = true) (h1 : (el s.gates i).a / 2 = lo) (h2 : (el s.gates i).b / 2 = hi) : ((rchC m R).set lo (.bool true)).set hi (.bool true) = rchC m (nstep s R i) := by
  rw [rchC_set, rchC_set, nstep_yes h h1 h2]
/-- The inputs below n to which one comes. -/
def inTo (R : Nat → Bool) : Nat → List Int
  | 0 => []
  | v + 1 => if R (1 + v) = true then inTo R v ++ [(v : Int)] else inTo R v
theorem inTo_len (R : Nat → Bool) : ∀ n, (inTo R n).length ≤ n
  | 0 => Nat.le_refl _
  | n + 1 => by
    have := inTo_len R n
    unfold inTo
    split
    · rw [List.length_append, List.length_singleton]; omega
    · omega
noncomputable def needsB (s : Ci) (e : Int) : List Int := if (ckB s && isE s e) = true then inTo (needF s e) s.ins.toNat else []
theorem needsB_len (s : Ci) (e : Int) : (needsB s e).length ≤ 1000000 := by
  unfold needsB
  split
  · rename_i h
    rw [Bool.and_eq_true] at h
    have := (ckB_iff.1 h.1).hi
    exact Nat.le_trans (inTo_len _ _) (by omega)
  · exact Nat.zero_le _
/-- The parts of an edge. -/
theorem half_of {e : Int} (h : 0 ≤ e) : ∃ x : Nat, e / 2 = x ∧ e.tdiv 2 = x := ⟨(e / 2).toNat, by omega, by rw [Int.tdiv_eq_ediv_of_nonneg h]; omega⟩
theorem size_n (s : Ci) (A : Option Addr) (c : Nat) (w : World) (h0 : 0 ≤ s.ins) (h1 : s.ins ≤ 12) (hn : s.gates.length ≤ 600) :
    Calls Try.prog 50 #[.agg #[.int .i64 s.ins, .slice A s.gates.length c]] w (GivesInt w s.nodes) := by
  obtain ⟨m, gs⟩ := s
  unfold Ci.nodes
  dsimp only at *
  generalize gs.length = n at *
  go_enter Try.func50, Try.ntmps50
  go_wp2
  go_ret
  exact ⟨rfl, below_alloc _ _⟩

set_option maxHeartbeats 1000000 in
theorem hasE_any (s : Ci) (A : Option Addr) (n c : Nat) (A2 : Option Addr) (n2 c2 : Nat) (l : List Int) (w : World) (h1 : Mem.rd w w.heap.size [.slice A n c] s.gates) (h2 : Mem.rd w w.heap.size [.slice A2 n2 c2] l) :
    Calls Try.prog 49 #[.agg #[.int .i64 s.ins, .slice A n c], .slice A2 n2 c2] w (GivesBool w (ckB s && areE s l)) := by
  have CK := Lib.hid (fun W (B : Below w.heap.size w W) => ckValid_impl s A n c W (Mem.rd_on h1 B))
  have l1 := rd_len h1
  have l2 := rd_len h2
  have m2 := rd_max h2
  unfold maxLen at m2
  have BX := Lib.hid (ci_box (w := w) (v1 := .int .i64 s.ins) (v2 := .slice A n c) (t := 30))
  cases k1 : ckB s
  · rw [k1] at CK
    obtain ⟨m, gs⟩ := s
    dsimp only at *
    clear h1 h2 k1 l1
    go_enter Try.func49, Try.ntmps49
    go_wp2_with fail
    refine (CK.out _ (below_alloc _ _)).mono ?_
    rintro e w1 ⟨rfl, b1⟩
    obtain ⟨B1, x0, x1⟩ := BX.out _ b1
    go_wp2
    go_ret
    exact ⟨rfl, B1⟩
  · rw [k1] at CK
    have ok := ckB_iff.1 k1
    have HS := Lib.hid (fun W => size_n s A c W ok.lo ok.hi ok.few)
    rw [l1] at HS
    have hN := Ci.nodes_le ok.lo ok.hi ok.few
    have IE := Lib.hid (fun x => isE_iff (c := s) (e := x))
    have AE : Hid (∀ k, k < n2 → isE s (ix l k) = false → areE s l = false) := Lib.hid (fun k hk hz => by
      cases q : areE s l
      · rfl
      · have := List.all_eq_true.1 q (ix l k) (by rw [ix_lt (by omega)]; exact List.getElem_mem (by omega))
        rw [hz] at this; cases this)
    have AY : Hid ((∀ k, k < n2 → isE s (ix l k) = true) → areE s l = true) := Lib.hid (fun hz => by
      unfold areE
      rw [List.all_eq_true]
      intro x hx
      obtain ⟨j, hj, rfl⟩ := List.getElem_of_mem hx
      have := hz j (by omega)
      rwa [ix_lt hj] at this)
    have h2' := (rd_ints.1 h2).2
    generalize s.nodes = N at *
    generalize isE s = ie at *
    generalize areE s l = ae at *
    obtain ⟨m, gs⟩ := s
    dsimp only at *
    clear h1 h2 k1 l1 ok
    go_enter Try.func49, Try.ntmps49
    go_wp2_with fail
    refine (CK.out _ (below_alloc _ _)).mono ?_
    rintro e w1 ⟨rfl, b1⟩
    obtain ⟨B1, x0, x1⟩ := BX.out _ b1
    go_wp2
    go_loopg [12] n2 (fun r i wr => ∃ k : Nat, k + r = n2 ∧ i = .int .i64 k ∧ Hid (∀ j, j < k → ie (ix l j) = true) ∧ Below (w.alloc (.cells #[.int .i64 m, .slice A n c] 30)).heap.size (w.alloc (.cells #[.int .i64 m, .slice A n c] 30)) wr)
    case atStart => exact ⟨0, by omega, rfl, Lib.hid (fun j hj => absurd hj (by omega)), b1⟩
    case round =>
      clear b1 B1 x0 x1
      obtain ⟨k, hk, rfl, ha, hb⟩ := hrel
      obtain ⟨B, x0, x1⟩ := BX.out _ hb
      by_cases hlt : k < n2
      · obtain ⟨ad, rfl, hbl, d0⟩ := (h2'.below B).int hlt
        have kn : (k : Int) < n2 := by omega
        have HF := Lib.hid (AE.out k hlt)
        have HX := IE.out (ix l k)
        have HS1 : Hid (ie (ix l k) = true → ∀ j, j < k + 1 → ie (ix l j) = true) := Lib.hid (fun hz j hj => by
          by_cases e : j = k
          · subst e; exact hz
          · exact ha.out j (by omega))
        generalize ix l k = x at *
        cases hz : ie x
        · have hf := Lib.hid (HF.out hz)
          have hx : x < 0 ∨ 2 * N ≤ x := by
            rw [hz] at HX
            have : ¬ (0 ≤ x ∧ x < 2 * N) := fun q => by cases HX.2 q
            omega
          clear HX
          by_cases x0' : x < 0
          · go_wp2
            go_ret
            exact ⟨(congrArg (fun b => Ending.returned (.bool b)) (by rw [hf.out]; rfl)).symm, B⟩
          · go_wp2_with (first | (go_at_call 50; refine (HS.out _).mono ?_; rintro e w3 ⟨rfl, b3⟩) | (go_at_call 58; refine (evenEdge_any _ _ (by omega) (by omega)).mono ?_; rintro e w4 ⟨rfl, rfl⟩))
            go_ret
            exact ⟨(congrArg (fun b => Ending.returned (.bool b)) (by rw [hf.out]; rfl)).symm, B.trans (b3.mono B.size)⟩
        · obtain ⟨y0, y1⟩ := HX.1 hz
          have hs := Lib.hid (HS1.out hz)
          go_wp2_with (first | (go_at_call 50; refine (HS.out _).mono ?_; rintro e w3 ⟨rfl, b3⟩) | (go_at_call 58; refine (evenEdge_any _ _ (by omega) (by omega)).mono ?_; rintro e w4 ⟨rfl, rfl⟩))
          go_roundg (n2 - (k + 1))
          case measure => omega
          case rel => exact ⟨k + 1, by omega, by go_num, hs, hb.trans (b3.mono hb.size)⟩
      · obtain rfl : k = n2 := by omega
        have hf := Lib.hid (AY.out ha.out)
        go_wp2
        go_ret
        exact ⟨(congrArg (fun b => Ending.returned (.bool b)) (by rw [hf.out]; rfl)).symm, B⟩


set_option maxHeartbeats 2000000 in
theorem backN1_in (F : Fence) (n : Nat) (hf : F.fn 96) (hro : F.round = none) (hn : 1 ≤ n) (l Bs n₀ : Nat) (A : Option Addr) (len cap : Nat) (fs : List Ga) (hl : fs.length = len) (hreach : len ≤ 100000)
    (J Jx : List {i : Nat // i < len} → World → Prop)
    (hY : ∀ pre (x : {i : Nat // i < len}) W, J pre W → pre.length < len → YieldAt F (n - 1) Try.prog l #[.int .i64 (x.1 : Int), (el fs x.1).v] W fun e W' =>
      (e = .returned (.bool true) ∧ J (pre ++ [x]) W' ∧ KB n₀ Bs W W') ∨ (e = .returned (.bool false) ∧ Jx (pre ++ [x]) W'))
    (W : World) (hBs : W.cell? ⟨Bs, 0, none⟩ = some (.slice A len cap)) (hr : Mem.rd W n₀ [.slice A len cap] fs) (h0 : J [] W) :
    CallsIn F n Try.prog 96 #[.func (.yield l) #[] #[], .pointer (some ⟨Bs, 0, none⟩)] W fun e W' => (∃ v, e = .returned v) ∧
      ((∃ ys : List {i : Nat // i < len}, ys.map (·.1) = downTo len len ∧ J ys W') ∨ (∃ pre, Jx pre W')) := by
  refine callsIn_of_wp Try.func96 rfl hf ?_ hro
  simp only [Try.ntmps96, List.size_toArray, List.length_cons, List.length_nil, Nat.reduceAdd, Nat.reduceSub, Array.replicate_succ, Array.replicate_zero, List.push_toArray, List.append_toArray, List.nil_append, List.cons_append]
  gi_wp2
  gi_loopw [3] (fun i wr => ∃ k : Nat, k ≤ len ∧ i = .int .i64 ((len : Int) - 1 - k) ∧ (∃ pre : List {i : Nat // i < len}, pre.map (·.1) = downTo len k ∧ J pre wr) ∧ KB n₀ Bs W wr)
    (fun i _ => (intOf i + 1).toNat)
  case atStart => exact ⟨0, Nat.zero_le _, by simp, ⟨[], rfl, h0⟩, kb_refl _ _ _⟩
  case round =>
    obtain ⟨k, hk, rfl, ⟨pre, hp, hJs⟩, hnx⟩ := hrel
    have hBw := (World.cell?_of_block (w := W) (a := ⟨Bs, 0, none⟩) hnx.2).trans hBs
    by_cases hlt : k < len
    · have hpl : pre.length < len := by
        have := congrArg List.length hp
        rw [List.length_map, downTo_len] at this
        omega
      have hj : len - 1 - k < len := by omega
      obtain ⟨fn, tmps, assign, body, hy, hR⟩ := hY pre ⟨len - 1 - k, hj⟩ wr hJs hpl
      have ej : (len : Int) - 1 - k = ((len - 1 - k : Nat) : Int) := by omega
      obtain ⟨ad, rfl, hbl, d0, d1⟩ := ga_at (Mem.rd_below hr hnx.1) hj
      rw [ej]
      dsimp only [Ga.v] at hy
      have HP := Lib.hid hp
      clear hp
      generalize hjj : len - 1 - k = j at *
      generalize hG : el fs j = G at *
      obtain ⟨gl, gh⟩ := G
      dsimp only at *
      gi_wp2
      refine hR.mono ?_
      rintro e W3 (⟨rfl, hJ3, hk3⟩ | ⟨rfl, hJx3⟩)
      · gi_wp2
        go_roundw
        case rel => exact ⟨k + 1, by omega, by go_num, ⟨_, by rw [List.map_append, HP.out, downTo_succ, hjj]; rfl, hJ3⟩, kb_t hnx hk3⟩
        case measure => simp [intOf]
      · gi_wp2
        refine bodyPost_ret (results_none rfl _ _ _) rfl ?_
        exact ⟨⟨_, rfl⟩, .inr ⟨_, hJx3⟩⟩
    · obtain rfl : k = len := by omega
      have ej : (k : Int) - 1 - k = -1 := by omega
      rw [ej]
      gi_wp2
      go_end0
      exact ⟨⟨_, rfl⟩, .inl ⟨pre, hp, hJs⟩⟩

/-- slices.Backward: the slice is boxed; the function value captures the box. -/
theorem backN_in (F : Fence) (n : Nat) (hf : F.fn 51) (hro : F.round = none) (A : Option Addr) (len cap : Nat) (w : World) :
    CallsIn F n Try.prog 51 #[.slice A len cap] w fun e w' => e = .returned (.func (.func 96) #[] #[.pointer (some ⟨w.heap.size, 0, none⟩)]) ∧ w' = w.alloc (.cells #[.slice A len cap] 28) := by
  refine callsIn_of_wp Try.func51 rfl hf ?_ hro
  simp only [Try.ntmps51, List.size_toArray, List.length_cons, List.length_nil, Nat.reduceAdd, Nat.reduceSub, Array.replicate_succ, Array.replicate_zero, List.push_toArray, List.append_toArray, List.nil_append, List.cons_append]
  gi_wp2
  go_ret
  exact ⟨rfl, rfl⟩
/-- What slices.Backward hands back gives the forks from the end on. -/
theorem backN_stops (F : Fence) (n : Nat) (hf : F.fn 96) (hro : F.round = none) (hn : 1 ≤ n) (Bs n₀ : Nat) (A : Option Addr) (len cap : Nat) (fs : List Ga) (hl : fs.length = len) (hreach : len ≤ 100000) (w : World)
    (hBs : Bs < w.heap.size) (hn₀ : n₀ ≤ w.heap.size) (hc : w.cell? ⟨Bs, 0, none⟩ = some (.slice A len cap)) (hr : Mem.rd w n₀ [.slice A len cap] fs) :
    SeqStopsK F n Try.prog 96 #[.pointer (some ⟨Bs, 0, none⟩)] (fun x : {i : Nat // i < len} => #[.int .i64 (x.1 : Int), (el fs x.1).v]) (KB n₀ Bs) (fun ys => ys.map (·.1) = downTo len len) (fun _ => True) len w := fun l J Jx W hW _ _ hY h0 => by
  refine (backN1_in F n hf hro hn l Bs n₀ A len cap fs hl hreach J Jx hY W ((hW.cell (p := ⟨Bs, 0, none⟩) hBs).trans hc) (Mem.rd_below hr (hW.mono hn₀)) h0).mono ?_
  rintro e W' ⟨he, ⟨ys, h1, h2⟩ | ⟨pre, h⟩⟩
  · exact ⟨he, .inl ⟨ys, h1, h2⟩⟩
  · exact ⟨he, .inr ⟨pre, trivial, h⟩⟩
end Go.Proofs.Ytnpdeliaefjmlaa
