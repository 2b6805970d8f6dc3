/- Diagrams: places, variables and forks, in the program. -/
import Derived.Test.YtnhjcokmajejcaaDoorDgW
namespace Go.Proofs.YtnhjcokmajejcaaDoor
open Go.RowKit
set_option maxRecDepth 100000

theorem fk_blk (w : World) (f : Fk) : Blk (w.alloc (.cells #[.int .i64 f.v, .int .i64 f.lo, .int .i64 f.hi] 108)) w.heap.size 108 f.cs := ci_blk w _ _
theorem size_d (d : Dg) (A : Option Addr) (c : Nat) (w : World) (hn : d.forks.length ≤ 100000) :
    Calls Tryd.prog 88 #[.agg #[.int .i64 d.vars, .slice A d.forks.length c]] w (GivesInt w (2 + d.forks.length)) := by
  obtain ⟨m, fs⟩ := d
  dsimp only at *
  generalize fs.length = n at *
  go_enter Tryd.func88, Tryd.ntmps88
  go_wp2
  go_ret
  exact ⟨rfl, below_alloc _ _⟩
theorem hasPlace_any (d : Dg) (A : Option Addr) (c : Nat) (x : Int) (w : World) (hn : d.forks.length ≤ 100000) :
    Calls Tryd.prog 90 #[.agg #[.int .i64 d.vars, .slice A d.forks.length c], .int .i64 x] w (GivesBool w (isP d x)) := by
  have SZ := Lib.hid (fun W => size_d d A c W hn)
  by_cases h0 : 0 ≤ x
  · by_cases h1 : x < 2 + d.forks.length
    · rw [show isP d x = true from isP_iff.2 ⟨h0, h1⟩]
      obtain ⟨m, fs⟩ := d
      dsimp only at *
      generalize fs.length = n at *
      go_enter Tryd.func90, Tryd.ntmps90
      go_wp2_with (first | (go_at_call 88; refine (SZ.out _).mono ?_; rintro e w3 ⟨rfl, b3⟩))
      go_ret
      exact ⟨rfl, below_call b3⟩
    · rw [show isP d x = false from by unfold isP; exact decide_eq_false (fun h => h1 h.2)]
      obtain ⟨m, fs⟩ := d
      dsimp only at *
      generalize fs.length = n at *
      have g : decide (x < 2 + (n : Int)) = false := decide_eq_false h1
      go_enter Tryd.func90, Tryd.ntmps90
      go_wp2_with (first | (go_at_call 88; refine (SZ.out _).mono ?_; rintro e w3 ⟨rfl, b3⟩))
      go_ret
      exact ⟨rfl, below_call b3⟩
  · rw [show isP d x = false from by unfold isP; exact decide_eq_false (fun h => h0 h.1)]
    obtain ⟨m, fs⟩ := d
    dsimp only at *
    generalize fs.length = n at *
    go_enter Tryd.func90, Tryd.ntmps90
    go_wp2
    go_ret
    exact ⟨rfl, below_alloc _ _⟩
/-- A variable of a diagram. -/
def isV (d : Dg) (v : Int) : Bool := decide (0 ≤ v ∧ v < d.vars)
theorem hasVar_any (d : Dg) (A : Option Addr) (n c : Nat) (x : Int) (w : World) :
    Calls Tryd.prog 56 #[.agg #[.int .i64 d.vars, .slice A n c], .int .i64 x] w (GivesBool w (isV d x)) := by
  obtain ⟨m, fs⟩ := d
  unfold isV
  dsimp only
  by_cases h0 : 0 ≤ x
  · by_cases h1 : x < m
    · rw [decide_eq_true (show 0 ≤ x ∧ x < m from ⟨h0, h1⟩)]
      go_enter Tryd.func56, Tryd.ntmps56
      go_wp2
      go_ret
      exact ⟨rfl, below_alloc _ _⟩
    · rw [decide_eq_false (show ¬ (0 ≤ x ∧ x < m) from fun h => h1 h.2)]
      go_enter Tryd.func56, Tryd.ntmps56
      go_wp2
      go_ret
      exact ⟨rfl, below_alloc _ _⟩
  · rw [decide_eq_false (show ¬ (0 ≤ x ∧ x < m) from fun h => h0 h.1)]
    go_enter Tryd.func56, Tryd.ntmps56
    go_wp2
    go_ret
    exact ⟨rfl, below_alloc _ _⟩
theorem fork_any (d : Dg) (A : Option Addr) (n c : Nat) (x : Int) (w : World) (h : Mem.rd w w.heap.size [.slice A n c] d.forks) (hn : n ≤ 100000) (h2 : 2 ≤ x) (hx : x < 2 + n) :
    Calls Tryd.prog 93 #[.agg #[.int .i64 d.vars, .slice A n c], .int .i64 x] w (fun e w' => e = .returned (fkA d x).u ∧ Below w.heap.size w w') := by
  obtain ⟨k, rfl⟩ : ∃ k : Nat, x = 2 + k := ⟨(x - 2).toNat, by omega⟩
  have hk : k < n := by omega
  obtain ⟨ad, rfl, hbl, d0, d1, d2⟩ := fk_at h hk
  have hbl' : (ad.add (k * 3)).block < w.heap.size := by rw [add_block]; exact hbl
  unfold fkA
  rw [show ((2 + (k : Int)) - 2).toNat = k by omega]
  obtain ⟨m, fs⟩ := d
  dsimp only at *
  generalize el fs k = G at *
  obtain ⟨a, b, z⟩ := G
  dsimp only [Fk.u] at *
  have w1 : IntKind.i64.wrap (2 + (k : Int) - 2) = (k : Int) := by rw [show 2 + (k : Int) - 2 = k by omega]; exact IntWalk.i64_in _ (by omega)
  clear h
  go_enter Tryd.func93, Tryd.ntmps93
  go_wp2
  exact bodyPost_ret (v := .agg #[.int .i64 a, .int .i64 b, .int .i64 z]) (by simp [results, Tryd.results93, go_sem]) rfl ⟨rfl, ((Below.refl _ w).alloc (Nat.le_refl _) _).alloc (by simp) _⟩
theorem run_fk_v (a b c : Int) (W : World) : (Instr.field 108 (.agg #[.int .i64 a, .int .i64 b, .int .i64 c]) 0).run Tryd.prog W = .ok (.int .i64 a) W := by kernel_rfl
theorem variable_any (d : Dg) (A : Option Addr) (n c : Nat) (x : Int) (w : World) (h : Mem.rd w w.heap.size [.slice A n c] d.forks) (hn : n ≤ 100000) (hx : x < 2 + n) :
    Calls Tryd.prog 92 #[.agg #[.int .i64 d.vars, .slice A n c], .int .i64 x] w (GivesInt w (varP d x)) := by
  unfold varP
  by_cases h2 : x < 2
  · rw [if_pos h2]
    obtain ⟨m, fs⟩ := d
    dsimp only at *
    clear h
    go_enter Tryd.func92, Tryd.ntmps92
    go_wp2
    go_ret
    exact ⟨rfl, below_alloc _ _⟩
  · rw [if_neg h2]
    have FK := Lib.hid (fun W (B : Below w.heap.size w W) => fork_any d A n c x W (Mem.rd_on h B) hn (by omega) hx)
    generalize fkA d x = G at *
    obtain ⟨a, b, z⟩ := G
    obtain ⟨m, fs⟩ := d
    dsimp only [Fk.u] at *
    have RF := fun W => run_fk_v a b z W
    clear h
    go_enter Tryd.func92, Tryd.ntmps92
    go_wp2_with fail
    refine (FK.out _ (below_alloc _ _)).mono ?_
    rintro e w3 ⟨rfl, b3⟩
    go_wp2
    go_ret
    exact ⟨rfl, below_call b3⟩
/-- A place with a greater variable. -/
def behB (d : Dg) (x v : Int) : Bool := isP d x && decide (v < varP d x)
theorem isBehind_any (d : Dg) (A : Option Addr) (c : Nat) (x v : Int) (w : World) (h : Mem.rd w w.heap.size [.slice A d.forks.length c] d.forks) (hn : d.forks.length ≤ 100000) :
    Calls Tryd.prog 91 #[.agg #[.int .i64 d.vars, .slice A d.forks.length c], .int .i64 x, .int .i64 v] w (GivesBool w (behB d x v)) := by
  have HP := Lib.hid (fun W => hasPlace_any d A c x W hn)
  have BX := Lib.hid (ci_box (w := w) (v1 := .int .i64 d.vars) (v2 := .slice A d.forks.length c) (t := 35))
  unfold behB
  cases hp : isP d x
  · rw [hp] at HP
    obtain ⟨m, fs⟩ := d
    dsimp only at *
    clear h hp
    go_enter Tryd.func91, Tryd.ntmps91
    go_wp2_with fail
    refine (HP.out _).mono ?_
    rintro e w3 ⟨rfl, b3⟩
    go_wp2
    go_ret
    exact ⟨rfl, below_call b3⟩
  · rw [hp] at HP
    have VA := Lib.hid (fun W (B : Below w.heap.size w W) => variable_any d A d.forks.length c x W (Mem.rd_on h B) hn (isP_iff.1 hp).2)
    generalize varP d x = V at *
    obtain ⟨m, fs⟩ := d
    dsimp only at *
    clear h hp
    by_cases hv : v < V
    · rw [decide_eq_true hv]
      go_enter Tryd.func91, Tryd.ntmps91
      go_wp2_with fail
      refine (HP.out _).mono ?_
      rintro e w3 ⟨rfl, b3⟩
      obtain ⟨B3, x0, x1⟩ := BX.out _ b3
      go_wp2_with fail
      refine (VA.out _ B3).mono ?_
      rintro e w4 ⟨rfl, b4⟩
      go_wp2
      go_ret
      exact ⟨rfl, B3.trans (b4.mono B3.size)⟩
    · rw [decide_eq_false hv]
      have g : decide (v < V) = false := decide_eq_false hv
      go_enter Tryd.func91, Tryd.ntmps91
      go_wp2_with fail
      refine (HP.out _).mono ?_
      rintro e w3 ⟨rfl, b3⟩
      obtain ⟨B3, x0, x1⟩ := BX.out _ b3
      go_wp2_with fail
      refine (VA.out _ B3).mono ?_
      rintro e w4 ⟨rfl, b4⟩
      go_wp2
      go_ret
      exact ⟨rfl, B3.trans (b4.mono B3.size)⟩
/-- A fork that may be put behind all others. -/
def fitB (d : Dg) (f : Fk) : Bool := isV d f.v && (behB d f.lo f.v && behB d f.hi f.v)
theorem fitB_iff {d : Dg} {f : Fk} : fitB d f = true ↔ fitK d f (d.forks.length + 1) := by
  unfold fitB isV behB
  simp only [Bool.and_eq_true, decide_eq_true_eq, isP_iff]
  constructor
  · rintro ⟨⟨a, b⟩, ⟨⟨c, d⟩, e⟩, ⟨f, g⟩, h⟩
    exact ⟨a, b, c, by omega, f, by omega, e, h⟩
  · rintro ⟨a, b, c, d, e, f, g, h⟩
    exact ⟨⟨a, b⟩, ⟨⟨c, by omega⟩, g⟩, ⟨e, by omega⟩, h⟩
theorem fits_any (d : Dg) (A : Option Addr) (c : Nat) (f : Fk) (w : World) (h : Mem.rd w w.heap.size [.slice A d.forks.length c] d.forks) (hn : d.forks.length ≤ 100000) :
    Calls Tryd.prog 89 #[.agg #[.int .i64 d.vars, .slice A d.forks.length c], f.u] w (GivesBool w (fitB d f)) := by
  have BX := Lib.hid (two_boxes w #[.int .i64 d.vars, .slice A d.forks.length c] #[.int .i64 f.v, .int .i64 f.lo, .int .i64 f.hi] 35 108)
  have HV := Lib.hid (fun W => hasVar_any d A d.forks.length c f.v W)
  have BL := Lib.hid (fun W (B : Below w.heap.size w W) => isBehind_any d A c f.lo f.v W (Mem.rd_on h B) hn)
  have BH := Lib.hid (fun W (B : Below w.heap.size w W) => isBehind_any d A c f.hi f.v W (Mem.rd_on h B) hn)
  unfold fitB
  generalize isV d f.v = b1 at *
  generalize behB d f.lo f.v = b2 at *
  generalize behB d f.hi f.v = b3 at *
  obtain ⟨m, fs⟩ := d
  obtain ⟨x, y, z⟩ := f
  dsimp only [Fk.u] at *
  clear h
  cases b1
  · go_enter Tryd.func89, Tryd.ntmps89
    go_wp2_with fail
    refine (HV.out _).mono ?_
    rintro e w3 ⟨rfl, b3⟩
    go_wp2
    go_ret
    exact ⟨rfl, below_call (below_call b3)⟩
  · cases b2
    · go_enter Tryd.func89, Tryd.ntmps89
      go_wp2_with fail
      refine (HV.out _).mono ?_
      rintro e w3 ⟨rfl, b3⟩
      obtain ⟨B3, k0, k1⟩ := BX.out _ b3
      have x0 := k0.cell 0
      have x1 := k0.cell 1
      have y0 := k1.cell 0
      have y1 := k1.cell 1
      have y2 := k1.cell 2
      simp only [List.getElem?_cons_zero, List.getElem?_cons_succ] at x0 x1 y0 y1 y2
      go_wp2_with fail
      refine (BL.out _ B3).mono ?_
      rintro e w4 ⟨rfl, b4⟩
      go_wp2
      go_ret
      exact ⟨rfl, B3.trans (b4.mono B3.size)⟩
    · go_enter Tryd.func89, Tryd.ntmps89
      go_wp2_with fail
      refine (HV.out _).mono ?_
      rintro e w3 ⟨rfl, b3⟩
      obtain ⟨B3, k0, k1⟩ := BX.out _ b3
      have x0 := k0.cell 0
      have x1 := k0.cell 1
      have y0 := k1.cell 0
      have y1 := k1.cell 1
      have y2 := k1.cell 2
      simp only [List.getElem?_cons_zero, List.getElem?_cons_succ] at x0 x1 y0 y1 y2
      go_wp2_with fail
      refine (BL.out _ B3).mono ?_
      rintro e w4 ⟨rfl, b4⟩
      have l0 := k0.lt
      have l1 := k1.lt
      have k0 := k0.below b4 l0
      have k1 := k1.below b4 l1
      have x0 := k0.cell 0
      have x1 := k0.cell 1
      have y0 := k1.cell 0
      have y1 := k1.cell 1
      have y2 := k1.cell 2
      simp only [List.getElem?_cons_zero, List.getElem?_cons_succ] at x0 x1 y0 y1 y2
      have B4 := B3.trans (b4.mono B3.size)
      go_wp2_with fail
      refine (BH.out _ B4).mono ?_
      rintro e w5 ⟨rfl, b5⟩
      go_wp2
      go_ret
      exact ⟨rfl, B4.trans (b5.mono B4.size)⟩
end Go.Proofs.YtnhjcokmajejcaaDoor
