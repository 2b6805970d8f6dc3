/- Diagrams in memory, and the exact laws' helpers for them. -/
import Derived.Test.YtnhjcokmajejcaaDoorEqSy
import Derived.Test.YtnhjcokmajejcaaDoorOpenSy
import Derived.Test.YtnhjcokmajejcaaDoorIl
namespace Go.Proofs.YtnhjcokmajejcaaDoor
open Go.ChangeShapes Go.WideShapes Go.ChangeAt Go.RowKit Go.Deep
set_option maxRecDepth 100000

/-- A fork: its variable and two places. -/
structure Fk where
  v : Int
  lo : Int
  hi : Int
def Fk.cs (v : Fk) : List Value := [.int .i64 v.v, .int .i64 v.lo, .int .i64 v.hi]
def Fk.u (v : Fk) : Value := .agg #[.int .i64 v.v, .int .i64 v.lo, .int .i64 v.hi]
instance : Mem Fk where
  default := ⟨0, 0, 0⟩
  size := 3
  rd _ _ cs a := cs = a.cs
  own _ fp cs a := fp = [] ∧ cs = a.cs
  rd_len h := by subst h; rfl
  rd_keep h _ := h
  rd_more h _ := h
  own_rd h := h.2
  own_keep h _ := h
  own_lt h b hb := by rw [h.1] at hb; cases hb
instance : Flat Fk := ⟨Fk.cs, fun _ => rfl, Iff.rfl, Iff.rfl⟩
/-- A diagram: how many inputs, and its forks. -/
structure Dg where
  vars : Int
  forks : List Fk
theorem fk_at {w : World} {B n c : Nat} {A : Option Addr} {l : List Fk} (h : Mem.rd w B [.slice A n c] l) {k : Nat} (hk : k < n) : ∃ ad, A = some ad ∧ ad.block < B ∧ w.cell? (ad.add (k * 3)) = some (.int .i64 (el l k).v) ∧
    w.cell? ⟨(ad.add (k * 3)).block, (ad.add (k * 3)).off + 1, none⟩ = some (.int .i64 (el l k).lo) ∧ w.cell? ⟨(ad.add (k * 3)).block, (ad.add (k * 3)).off + 2, none⟩ = some (.int .i64 (el l k).hi) := by
  obtain ⟨A', n', c', e, hm, hl, h⟩ := h
  injection e with e _
  injection e with e1 e2 e3
  subst e1; subst e2; subst e3
  obtain ⟨ad, ecs, hA, hb, hc, hr⟩ := h k hk
  cases (show ecs = (el l k).cs from hr)
  refine ⟨ad, hA, hb, ?_⟩
  rw [pos1 ad k 3 (j := 1) (by omega), pos1 ad k 3 (j := 2) (by omega)]
  exact ⟨hc 0 _ rfl, hc 1 _ rfl, hc 2 _ rfl⟩

theorem fk_info : (Tryd.prog.info? 108).map (fun i => (i.zero, i.size, i.bytes)) = some (some (.agg #[.int .i64 0, .int .i64 0, .int .i64 0]), 3, 24) := by kernel_rfl
noncomputable def fkRow : TypeInfo := Classical.choose (info_parts fk_info)
theorem fk_row : Tryd.prog.info? 108 = some fkRow ∧ fkRow.zero = some (.agg #[.int .i64 0, .int .i64 0, .int .i64 0]) ∧ fkRow.size = 3 ∧ fkRow.bytes = 24 := Classical.choose_spec (info_parts fk_info)
theorem set3_fk {X Y : List Value} {m : Nat} (h : X.length = m) (a b c a' b' c' : Value) : (((X ++ ([a, b, c] ++ Y)).set m a').set (m + 1) b').set (m + 2) c' = X ++ ([a', b', c'] ++ Y) := by
  subst h
  rw [List.set_append_right _ _ (by omega), Nat.sub_self, List.set_append_right _ _ (by omega), show X.length + 1 - X.length = 1 by omega, List.set_append_right _ _ (by omega), show X.length + 2 - X.length = 2 by omega]
  rfl

theorem toFork_any (t : Fk) (w : World) : Calls Tryd.prog 79 #[t.u] w fun e w' => e = .returned t.u ∧ Below w.heap.size w w' := by
  obtain ⟨a, b, c⟩ := t
  show Calls _ _ #[.agg #[.int .i64 a, .int .i64 b, .int .i64 c]] w _
  go_enter Tryd.func79, Tryd.ntmps79
  go_wp2
  exact bodyPost_ret (v := .agg #[.int .i64 a, .int .i64 b, .int .i64 c]) (by simp [results, Tryd.results79, go_sem]) rfl ⟨rfl, ((((Below.refl _ _).alloc (Nat.le_refl _) _).alloc (by simp) _).alloc (by simp; omega) _)⟩

set_option maxHeartbeats 1000000 in
theorem toForkS_any (A : Option Addr) (n c : Nat) (l : List Fk) (w : World) (h : Mem.rd w w.heap.size [.slice A n c] l) (hn : n ≤ 1048576) :
    Calls Tryd.prog 50 #[.slice A n c] w (GivesL w l) := by
  go_enter Tryd.func50, Tryd.ntmps50
  go_wp2_with (first | (at_make; refine wpList_make_full _ rfl _ _ 33 rfl w.heap.size 108 fkRow _ 3 Tryd.underlying33 fk_row.1 fk_row.2.1 fk_row.2.2.1 _ _ _ _ n rfl rfl rfl rfl (by rw [fk_row.2.2.2]; omega) (by unfold maxLen; omega) (Nat.le_refl _) ?_; intro w1 hown hg))
  have hbw := (Below.refl w.heap.size w).grown hg (Nat.le_refl _) (by simp)
  have hblk := (Blk.of_own hown).1
  have hblk : Blk w1 w.heap.size 108 (cat (fun _ => [.int .i64 0, .int .i64 0, .int .i64 0]) n) := made_cat #[.int .i64 0, .int .i64 0, .int .i64 0] n ▸ hblk
  have hmade := MadeL.zero (l := l) hblk
  clear hg hown hblk
  go_loopg [4] n (fun m i wr => ∃ k : Nat, k + m = n ∧ i = .int .i64 k ∧ MadeL wr w.heap.size 108 [.int .i64 0, .int .i64 0, .int .i64 0] n k l ∧ Below w.heap.size w wr)
  case atStart => exact ⟨0, by omega, rfl, hmade, hbw⟩
  case round =>
    clear hmade hbw
    obtain ⟨k, hk, rfl, hm, hb⟩ := hrel
    by_cases hlt : k < n
    · obtain ⟨ad, rfl, _, h0, h1, h2⟩ := fk_at (Mem.rd_below h hb) hlt
      obtain ⟨X, Y, hblk, hX, hstep⟩ := hm.room hlt
      have hX3 : X.length = k * 3 := hX
      have HX := Lib.hid hX3
      have HS := Lib.hid hstep
      clear hm hX hX3 hstep
      go_wp2_with (first | (go_at_call 79; refine (toFork_any (el l k) _).mono ?_; rintro e w2 ⟨rfl, hb2⟩; unfold Fk.u
                            have HK := Lib.hid (hblk.below hb2 hblk.lt)
                            have f0 := HK.out.frozen (k * 3)
                            have f1 := HK.out.frozen (k * 3 + 1)
                            have f2 := HK.out.frozen (k * 3 + 2)
                            have c0 : w2.cell? ⟨w.heap.size, k * 3, none⟩ = some (.int .i64 0) := (HK.out.cell (k * 3)).trans (by rw [List.getElem?_append_right (by rw [HX.out]; omega), HX.out]; simp)
                            have c1 : w2.cell? ⟨w.heap.size, k * 3 + 1, none⟩ = some (.int .i64 0) := (HK.out.cell (k * 3 + 1)).trans (by rw [List.getElem?_append_right (by rw [HX.out]; omega), HX.out]; simp)
                            have c2 : w2.cell? ⟨w.heap.size, k * 3 + 2, none⟩ = some (.int .i64 0) := (HK.out.cell (k * 3 + 2)).trans (by rw [List.getElem?_append_right (by rw [HX.out]; omega), HX.out]; simp)))
      go_roundg (n - (k + 1))
      case measure => omega
      case rel =>
        refine ⟨k + 1, by omega, by go_num, HS.out (el l k).cs [] w2 _ hb2 ⟨rfl, rfl⟩ (by simp) (by simp) ?_ ?_, ?_⟩
        · unfold Fk.cs
          rw [← set3_fk HX.out]
          exact ((HK.out.set _ _).set _ _).set _ _
        · intro b hb'
          rw [setCell_heap _ _ _ hb', setCell_heap _ _ _ hb', setCell_heap _ _ _ hb']
        · exact (((hb.trans (hb2.mono hb.size)).setCell (Nat.le_refl _) _).setCell (Nat.le_refl _) _).setCell (Nat.le_refl _) _
    · obtain rfl : k = n := by omega
      go_wp2
      go_ret
      obtain ⟨fp, o, nd, lo⟩ := hm.all (rd_len h) (rd_max h)
      exact ⟨_, _, _, fp, rfl, o, nd, lo, hb⟩

/-- The call gives a new diagram. -/
def GivesDg (w : World) (s : Dg) (e : Ending) (w' : World) : Prop :=
  ∃ A1 n1 c1 f1, e = .returned (.agg #[.int .i64 s.vars, .slice A1 n1 c1]) ∧ Mem.own w' f1 [.slice A1 n1 c1] s.forks ∧ f1.Nodup ∧ (∀ b ∈ f1, w.heap.size ≤ b) ∧ Below w.heap.size w w'
def szDg (s : Dg) : Nat := s.forks.length

set_option maxHeartbeats 1000000 in
theorem toDiagram_any (s : Dg) (A1 : Option Addr) (n1 c1 : Nat) (w : World) (h1 : Mem.rd w w.heap.size [.slice A1 n1 c1] s.forks) (hf : s.forks.length ≤ 1048576) :
    Calls Tryd.prog 20 #[.agg #[.int .i64 s.vars, .slice A1 n1 c1]] w (GivesDg w s) := by
  have i1 : n1 ≤ 1048576 := by rw [← rd_len h1]; exact hf
  obtain ⟨vars, forks⟩ := s
  dsimp only at h1 hf ⊢
  clear hf
  go_enter Tryd.func20, Tryd.ntmps20
  go_wp2_with fail
  refine (toForkS_any A1 n1 c1 forks _ (Mem.rd_on h1 (by first | exact (((below_alloc w _).alloc (by simp) _).alloc (by simp; omega) _).setCell (by simp; omega) _ | exact ((below_alloc w _).alloc (by simp) _).alloc (by simp; omega) _)) i1).mono ?_
  rintro e w2 ⟨B1, m1, d1, f1, rfl, o1, nd1, lo1, b1⟩
  obtain ⟨hc1, hf1⟩ := bcell b1
  have hz1 := b1.size
  have L1 : Below w.heap.size w w2 := (((below_alloc w _).alloc (by simp) _).alloc (by simp; omega) _).trans (b1.mono (by simp; omega))
  have g1 : ∀ b ∈ f1, b < w2.heap.size := Mem.own_lt o1
  simp only [World.size_alloc] at lo1 hz1
  have q1 : w.heap.size + 1 + 1 < w2.heap.size := by omega
  have p1 : w.heap.size + 1 < w2.heap.size := by omega
  have q1' : w.heap.size < w2.heap.size := by omega
  go_wp2_with fail
  have keep : ∀ b, w.heap.size + 1 + 1 < b → (((w2.setCell ⟨w.heap.size + 1 + 1, 1, none⟩ (Value.slice B1 m1 d1)).setCell ⟨w.heap.size + 1, 0, none⟩ (Value.int .i64 vars)).setCell ⟨w.heap.size + 1, 1, none⟩ (Value.slice B1 m1 d1)).heap[b]? = w2.heap[b]? := by
    intro b hb
    rw [setCell_heap _ _ _ (show b ≠ w.heap.size + 1 by omega), setCell_heap _ _ _ (show b ≠ w.heap.size + 1 by omega), setCell_heap _ _ _ (show b ≠ w.heap.size + 1 + 1 by omega)]
  refine bodyPost_ret (v := .agg #[.int .i64 vars, .slice B1 m1 d1]) (by simp [results, Tryd.results20, go_sem, hc1]) rfl ⟨B1, m1, d1, f1, rfl,
    Mem.own_keep o1 fun b hb => keep b (by have := lo1 b hb; omega), nd1, ?_, ?_⟩
  · intro b hb
    have := lo1 b hb; omega
  · exact ((L1.setCell (p := ⟨w.heap.size + 1 + 1, 1, none⟩) (by simp; omega) _).setCell (by simp) _).setCell (by simp) _

theorem szForkS_M (A : Option Addr) (n c : Nat) (left : Int) (hn : n ≤ maxLen) (h0 : 0 ≤ left) (h1 : left ≤ 1048576) (w : World) :
    Calls Tryd.prog 45 #[.slice A n c, .int .i64 left] w (fun e w' => e = .returned (.int .i64 (rest left n)) ∧ w = w') := by
  unfold maxLen at hn
  by_cases h : left < n
  · rw [rest_no h]
    go_enter Tryd.func45, Tryd.ntmps45
    go_wp2
    go_ret
    exact ⟨rfl, rfl⟩
  · rw [rest_yes (by omega)]
    go_enter Tryd.func45, Tryd.ntmps45
    go_wp2
    go_ret
    exact ⟨rfl, rfl⟩
theorem szDiagram_any (s : Dg) (A1 : Option Addr) (n1 c1 : Nat) (left : Int) (w : World) (h1 : Mem.rd w w.heap.size [.slice A1 n1 c1] s.forks) (g0 : 0 ≤ left) (g1 : left ≤ 1048576) :
    Calls Tryd.prog 18 #[.agg #[.int .i64 s.vars, .slice A1 n1 c1], .int .i64 left] w (Left w left (szDg s)) := by
  have m1 := rd_max h1
  have e : szDg s = n1 := rd_len h1
  rw [e]
  clear e h1
  by_cases h : left < n1
  · go_enter Tryd.func18, Tryd.ntmps18
    go_wp2_with fail
    refine (szForkS_M A1 n1 c1 left m1 g0 g1 _).mono ?_
    rintro e' w' ⟨rfl, rfl⟩
    rw [rest_no h]
    go_wp2
    go_ret
    exact ⟨congrArg (fun z => Ending.returned (.int .i64 z)) (rest_no h).symm, below_alloc _ _⟩
  · go_enter Tryd.func18, Tryd.ntmps18
    go_wp2_with fail
    refine (szForkS_M A1 n1 c1 left m1 g0 g1 _).mono ?_
    rintro e' w' ⟨rfl, rfl⟩
    rw [rest_yes (by omega)]
    go_wp2
    go_ret
    exact ⟨congrArg (fun z => Ending.returned (.int .i64 z)) (rest_yes (by omega)).symm, below_alloc _ _⟩

set_option maxHeartbeats 1000000 in
theorem eqFork_same (t : Fk) (w : World) : Calls Tryd.prog 75 #[.agg #[.int .i64 t.v, .int .i64 t.lo, .int .i64 t.hi], .agg #[.int .i64 t.v, .int .i64 t.lo, .int .i64 t.hi]] w (GivesBool w true) := by
  obtain ⟨a, b, c⟩ := t
  dsimp only
  have g1 : (a != a) = false := by simp
  have g2 : (b != b) = false := by simp
  have g3 : (c != c) = false := by simp
  go_enter Tryd.func75, Tryd.ntmps75
  go_wp2
  go_ret
  exact ⟨rfl, ((Below.refl _ _).alloc (Nat.le_refl _) _).alloc (by simp) _⟩
theorem fk_below {w w' : World} {a : Addr} {m : Nat} {v0 v1 v2 : Value} (hb : Below w.heap.size w w') (ha : a.block < w.heap.size) (h0 : w.cell? (a.add m) = some v0) (h1 : w.cell? ⟨(a.add m).block, (a.add m).off + 1, none⟩ = some v1) (h2 : w.cell? ⟨(a.add m).block, (a.add m).off + 2, none⟩ = some v2) :
    w'.cell? (a.add m) = some v0 ∧ w'.cell? ⟨(a.add m).block, (a.add m).off + 1, none⟩ = some v1 ∧ w'.cell? ⟨(a.add m).block, (a.add m).off + 2, none⟩ = some v2 := by
  have e : (a.add m).block < w.heap.size := by rw [add_block]; exact ha
  exact ⟨cell_below hb e h0, cell_below hb e h1, cell_below hb e h2⟩

set_option maxHeartbeats 1000000 in
theorem eqForkS_same (A A' : Option Addr) (n c n' c' : Nat) (l : List Fk) (w : World) (h : Mem.rd w w.heap.size [.slice A n c] l) (h' : Mem.rd w w.heap.size [.slice A' n' c'] l) (hn : l.length ≤ 1048576) :
    Calls Tryd.prog 41 #[.slice A n c, .slice A' n' c'] w (GivesBool w true) := by
  have e1 := rd_len h
  have e2 := rd_len h'
  obtain rfl : n = n' := by omega
  have hn' : n ≤ 1048576 := by omega
  clear e1 e2 hn
  go_enter Tryd.func41, Tryd.ntmps41
  go_wp2
  go_loopg [5] n (fun m i wr => ∃ k : Nat, k + m = n ∧ i = .int .i64 k ∧ Below w.heap.size w wr)
  case atStart => exact ⟨0, by omega, rfl, Below.refl _ _⟩
  case round =>
    obtain ⟨k, hk, rfl, hb⟩ := hrel
    by_cases hlt : k < n
    · obtain ⟨ad, rfl, b1, h0, h1, h2⟩ := fk_at (Mem.rd_below h hb) hlt
      obtain ⟨ad', rfl, b2, i0, i1, i2⟩ := fk_at (Mem.rd_below h' hb) hlt
      go_wp2
      go_region_held3 (fun w' => w'.cell? (ad.add (k * 3)) = some (.int .i64 (el l k).v) ∧ w'.cell? ⟨(ad.add (k * 3)).block, (ad.add (k * 3)).off + 1, none⟩ = some (.int .i64 (el l k).lo) ∧ w'.cell? ⟨(ad.add (k * 3)).block, (ad.add (k * 3)).off + 2, none⟩ = some (.int .i64 (el l k).hi) ∧
          w'.cell? (ad'.add (k * 3)) = some (.int .i64 (el l k).v) ∧ w'.cell? ⟨(ad'.add (k * 3)).block, (ad'.add (k * 3)).off + 1, none⟩ = some (.int .i64 (el l k).lo) ∧ w'.cell? ⟨(ad'.add (k * 3)).block, (ad'.add (k * 3)).off + 2, none⟩ = some (.int .i64 (el l k).hi))
        (go_keep) ((go_at_call 75; refine (eqFork_same (el l k) _).mono ?_; rintro e w2 ⟨rfl, hb2⟩; obtain ⟨p0, p1, p2⟩ := fk_below hb2 (Nat.lt_of_lt_of_le b1 hb.size) h0 h1 h2; obtain ⟨q0, q1, q2⟩ := fk_below hb2 (Nat.lt_of_lt_of_le b2 hb.size) i0 i1 i2))
      all_goals
        go_wp2
        go_roundg (n - (k + 1))
        case measure => omega
        case rel => exact ⟨k + 1, by omega, by go_num, hb.trans (Below.mono (B' := w.heap.size) ⟨hb2.os, hb2.tape, hb2.output, hb2.size, hb2.block⟩ hb.size)⟩
    · obtain rfl : k = n := by omega
      go_wp2
      go_ret
      exact ⟨rfl, hb⟩

theorem dg_box2 {w : World} {v1 v2 u1 u2 : Value} (t : TypeId) : ∀ W, Below ((w.alloc (.cells #[v1, v2] t)).alloc (.cells #[u1, u2] t)).heap.size ((w.alloc (.cells #[v1, v2] t)).alloc (.cells #[u1, u2] t)) W →
    Below w.heap.size w W := fun _W hW => below_call (below_call hW)
set_option maxHeartbeats 1000000 in
theorem eqDiagram_same (s : Dg) (A1 : Option Addr) (n1 c1 : Nat) (A2 : Option Addr) (n2 c2 : Nat) (w : World) (h1 : Mem.rd w w.heap.size [.slice A1 n1 c1] s.forks) (h2 : Mem.rd w w.heap.size [.slice A2 n2 c2] s.forks) (hs : s.forks.length ≤ 1048576) :
    Calls Tryd.prog 14 #[.agg #[.int .i64 s.vars, .slice A1 n1 c1], .agg #[.int .i64 s.vars, .slice A2 n2 c2]] w (GivesBool w true) := by
  obtain ⟨vars, forks⟩ := s
  dsimp only at h1 h2 hs ⊢
  have HS := Lib.hid hs
  have g1 : (vars != vars) = false := by simp
  clear hs
  go_enter Tryd.func14, Tryd.ntmps14
  go_wp2_with fail
  refine (eqForkS_same A1 A2 n1 c1 n2 c2 forks _ (Mem.rd_on_alloc (Mem.rd_on_alloc h1 _) _) (Mem.rd_on_alloc (Mem.rd_on_alloc h2 _) _) HS.out).mono ?_
  rintro e w2 ⟨rfl, b2⟩
  have B2 := below_call (below_call b2)
  go_wp2
  go_ret
  exact ⟨rfl, B2⟩

/-- Marks: from q on, three a fork. -/
def fkFrom (q : Int) (n : Nat) : List Fk := (List.range n).map fun (k : Nat) => ⟨q + 3 * (k : Int), q + 3 * (k : Int) + 1, q + 3 * (k : Int) + 2⟩
theorem fkFrom_len (q : Int) (n : Nat) : (fkFrom q n).length = n := by simp [fkFrom]
theorem fkFrom_at (q : Int) {n k : Nat} (h : k < n) : el (fkFrom q n) k = ⟨q + 3 * k, q + 3 * k + 1, q + 3 * k + 2⟩ := by
  rw [el_lt (by rw [fkFrom_len]; exact h)]; simp [fkFrom]
/-- k forks have marks. -/
def fkMarked (l : List Fk) (q : Int) (k : Nat) (i : Nat) : List Value := if i < k then Fk.cs ⟨q + 3 * i, q + 3 * i + 1, q + 3 * i + 2⟩ else Fk.cs (el l i)
theorem fkMarked_three (l : List Fk) (q : Int) (k i : Nat) : (fkMarked l q k i).length = 3 := by unfold fkMarked; split <;> rfl
theorem fkMarked_succ (l : List Fk) (q : Int) {n k : Nat} (_h : k < n) :
    (((cat (fkMarked l q k) n).set (k * 3) (.int .i64 (q + 3 * k))).set (k * 3 + 1) (.int .i64 (q + 3 * k + 1))).set (k * 3 + 2) (.int .i64 (q + 3 * k + 2)) = cat (fkMarked l q (k + 1)) n := by
  have L0 : (cat (fkMarked l q k) n).length = n * 3 := cat_len fun i _ => fkMarked_three l q k i
  have L1 : (cat (fkMarked l q (k + 1)) n).length = n * 3 := cat_len fun i _ => fkMarked_three l q (k + 1) i
  refine List.ext_getElem? fun i => ?_
  by_cases hi : i < n * 3
  · have h0 := cat_at (n := n) (fun i _ => fkMarked_three l q k i) (k := i / 3) (j := i % 3) (by omega) (by omega)
    have h1 := cat_at (n := n) (fun i _ => fkMarked_three l q (k + 1) i) (k := i / 3) (j := i % 3) (by omega) (by omega)
    rw [show i / 3 * 3 + i % 3 = i by omega] at h0 h1
    rw [List.getElem?_set, List.getElem?_set, List.getElem?_set, h0, h1]
    simp only [List.length_set, L0]
    by_cases e2 : k * 3 + 2 = i
    · subst e2
      rw [if_pos rfl, if_pos hi, show (k * 3 + 2) / 3 = k by omega, show (k * 3 + 2) % 3 = 2 by omega]
      simp [fkMarked, Fk.cs]
    · rw [if_neg e2]
      by_cases e1 : k * 3 + 1 = i
      · subst e1
        rw [if_pos rfl, if_pos hi, show (k * 3 + 1) / 3 = k by omega, show (k * 3 + 1) % 3 = 1 by omega]
        simp [fkMarked, Fk.cs]
      · rw [if_neg e1]
        by_cases e0 : k * 3 = i
        · subst e0
          rw [if_pos rfl, if_pos hi, show (k * 3) / 3 = k by omega, show (k * 3) % 3 = 0 by omega]
          simp [fkMarked, Fk.cs]
        · rw [if_neg e0]
          unfold fkMarked
          by_cases e3 : i / 3 < k
          · rw [if_pos e3, if_pos (by omega)]
          · rw [if_neg e3, if_neg (by omega)]
  · rw [List.getElem?_eq_none (by simp only [List.length_set, L0]; omega), List.getElem?_eq_none (by omega)]

set_option maxHeartbeats 1000000 in
theorem markForkS_t (t : TypeId) (base : Nat) (A : Option Addr) (n c : Nat) (l : List Fk) (q : Int) (w : World) (hown : w.ownsRow base t 3 (.slice A n c) n (cat (fkMarked l q 0) n)) (hq : 0 ≤ q) (hq' : q ≤ 1000000000000) (hn : n ≤ 1000000000000) :
    Calls Tryd.prog 43 #[.slice A n c, .int .i64 q] w (fun e w' => e = .returned (.int .i64 (q + 3 * n)) ∧ w'.ownsRow base t 3 (.slice A n c) n (cat (fkMarked l q n) n) ∧ w.grownBy w' (Value.slice A n c).ownBlock) := by
  go_enter Tryd.func43, Tryd.ntmps43
  go_wp2
  go_loopg [1, 5] n (fun m j i wr => ∃ (k : Nat), k + m = n ∧ i = .int .i64 k ∧ j = .int .i64 (q + 3 * k) ∧ wr.ownsRow base t 3 (.slice A n c) n (cat (fkMarked l q k) n) ∧ w.grownBy wr (Value.slice A n c).ownBlock)
  case atStart => exact ⟨0, by omega, rfl, by simp, hown, World.grownBy.refl _ _⟩
  case round =>
    clear hown
    obtain ⟨k, hk, rfl, rfl, ho, hg⟩ := hrel
    by_cases hlt : k < n
    · rcases ho.2 with ⟨_, h0⟩ | ⟨g, cap, cur, hv, _⟩
      · omega
      injection hv with hA _ hc
      subst hA
      subst hc
      have C : ∀ j, j < n * 3 → ∃ u, wr.cell? ⟨g, j, none⟩ = some u := fun j hj => by
        rw [ho.cellAt j hj]
        exact ⟨_, List.getElem?_eq_getElem (by rw [ho.1]; exact hj)⟩
      obtain ⟨u0, c0⟩ := C (k * 3) (by omega)
      obtain ⟨u1, c1⟩ := C (k * 3 + 1) (by omega)
      obtain ⟨u2, c2⟩ := C (k * 3 + 2) (by omega)
      have f0 := ho.frozenAt (k * 3)
      have f1 := ho.frozenAt (k * 3 + 1)
      have f2 := ho.frozenAt (k * 3 + 2)
      clear C
      have s0 := Lib.hid (ho.stored (k * 3) (.int .i64 (q + 3 * k)))
      go_wp2
      go_roundg (n - (k + 1))
      case measure => omega
      case rel =>
        have s1 := s0.out.1.stored (k * 3 + 1) (.int .i64 (q + 3 * k + 1))
        have s2 := s1.1.stored (k * 3 + 2) (.int .i64 (q + 3 * k + 1 + 1))
        refine ⟨k + 1, by omega, by go_num, by go_num, ?_, grown_trans (grown_trans (grown_trans hg s0.out.2) s1.2) s2.2⟩
        rw [← fkMarked_succ l q hlt, show q + 3 * (k : Int) + 2 = q + 3 * k + 1 + 1 by omega]
        exact s2.1
    · obtain rfl : k = n := by omega
      go_wp2
      go_ret
      exact ⟨rfl, ho, hg⟩

theorem cat_forks {ecs : Nat → List Value} {l : List Fk} {q : Int} {n : Nat} (h : ∀ k, k < n → ecs k = Fk.cs (el l k)) : cat ecs n = cat (fkMarked l q 0) n :=
  cat_congr fun k hk => by rw [h k hk]; unfold fkMarked; rw [if_neg (by omega)]
theorem markForkS_W (A : Option Addr) (n c : Nat) (l : List Fk) (fp : List Nat) (q : Int) (w : World) (h : Mem.own w fp [.slice A n c] l) (hq : 0 ≤ q) (hq' : q ≤ 1000000000000) (hn : l.length ≤ 1048576) :
    Calls Tryd.prog 43 #[.slice A n c, .int .i64 q] w (fun e w' => e = .returned (.int .i64 (q + 3 * l.length)) ∧ Mem.own w' fp [.slice A n c] (fkFrom q l.length) ∧ Only fp w w') := by
  obtain ⟨hm, hl, h0 | ⟨g, t, ecs, fps, rfl, ho, rfl, he⟩⟩ := own_row h
  · subst h0
    obtain rfl : l = [] := List.length_eq_zero_iff.1 hl
    clear hl hn hm
    have HH := Lib.hid h
    clear h
    go_enter Tryd.func43, Tryd.ntmps43
    go_wp2
    go_loopg [1, 5] 0 (fun m j i wr => i = .int .i64 0 ∧ j = .int .i64 q ∧ wr = w)
    case atStart => exact ⟨rfl, rfl, rfl⟩
    case round =>
      obtain ⟨rfl, rfl, rfl⟩ := hrel
      go_wp2
      go_ret
      exact ⟨by simp, HH.out, Only.refl _ _⟩
  · have e2 : cat fps n = [] := by
      have : ∀ k, k < n → fps k = (fun _ => []) k := fun k hk => (he k hk).1
      rw [cat_congr this]; simp [cat]
    rw [cat_forks (l := l) (q := q) fun k hk => (he k hk).2] at ho
    refine (markForkS_t t 0 _ n c l q w ho hq hq' (by omega)).mono ?_
    rintro e w' ⟨rfl, ho', hg⟩
    rw [hl, e2]
    refine ⟨rfl, ⟨_, n, c, rfl, hm, fkFrom_len q n, .inr ⟨g, t, fkMarked l q n, fun _ => [], rfl, ho', by simp [cat], fun k hk => ⟨rfl, ?_⟩⟩⟩, Only.of_grown hg fun k hk => by simp [Value.ownBlock] at hk; simp [hk]⟩
    rw [fkFrom_at q hk]
    unfold fkMarked
    rw [if_pos hk]

set_option maxHeartbeats 1000000 in
theorem heldForkS_W (A : Option Addr) (n c : Nat) (q : Int) (m : Nat) (w : World) (h : Mem.rd w w.heap.size [.slice A n c] (fkFrom q m)) (hq : 0 ≤ q) (hq' : q ≤ 1000000000000) (hm : m ≤ 1048576) :
    Calls Tryd.prog 44 #[.slice A n c, .int .i64 q] w (fun e w' => e = .returned (.int .i64 (q + 3 * m)) ∧ Below w.heap.size w w') := by
  obtain rfl : m = n := by have := rd_len h; rw [fkFrom_len] at this; omega
  go_enter Tryd.func44, Tryd.ntmps44
  go_wp2
  go_loopg [1, 5] m (fun r j i wr => ∃ k : Nat, k + r = m ∧ i = .int .i64 k ∧ j = .int .i64 (q + 3 * k) ∧ Below w.heap.size w wr)
  case atStart => exact ⟨0, by omega, rfl, by simp, Below.refl _ _⟩
  case round =>
    obtain ⟨k, hk, rfl, rfl, hb⟩ := hrel
    by_cases hlt : k < m
    · obtain ⟨ad, rfl, b1, h0, h1, h2⟩ := fk_at (Mem.rd_below h hb) hlt
      rw [fkFrom_at q hlt] at h0 h1 h2
      rw [show q + 3 * (k : Int) + 2 = q + 3 * k + 1 + 1 by omega] at h2
      dsimp only at h0 h1 h2
      have n0 : ((q + 3 * (k : Int)) != (q + 3 * (k : Int))) = false := by simp
      have n1 : ((q + 3 * (k : Int) + 1) != (q + 3 * (k : Int) + 1)) = false := by simp
      have n2 : ((q + 3 * (k : Int) + 1 + 1) != (q + 3 * (k : Int) + 1 + 1)) = false := by simp
      go_wp2
      go_roundg (m - (k + 1))
      case measure => omega
      case rel => exact ⟨k + 1, by omega, by go_num, by go_num, hb⟩
    · obtain rfl : k = m := by omega
      go_wp2
      go_ret
      exact ⟨rfl, hb⟩

/-- How many marks. -/
def mkDg (s : Dg) : Nat := 3 * s.forks.length
theorem markDiagram_W (s : Dg) (A1 : Option Addr) (n1 c1 : Nat) (f1 : List Nat) (q : Int) (w : World) (h1 : Mem.own w f1 [.slice A1 n1 c1] s.forks) (hq : 0 ≤ q) (hq' : q ≤ 10000000000) (hl : s.forks.length ≤ 1048576) :
    Calls Tryd.prog 16 #[.agg #[.int .i64 s.vars, .slice A1 n1 c1], .int .i64 q] w (fun e w' => e = .returned (.int .i64 (q + mkDg s)) ∧ Mem.own w' f1 [.slice A1 n1 c1] (fkFrom q s.forks.length) ∧ Only f1 w w') := by
  have M := Lib.hid (fun o => markForkS_W A1 n1 c1 s.forks f1 q (w.alloc o) (Mem.own_below h1 (below_alloc w o)) hq (by omega) hl)
  have e : (mkDg s : Int) = 3 * (s.forks.length : Int) := by unfold mkDg; omega
  rw [e]
  obtain ⟨vars, forks⟩ := s
  dsimp only at M hl ⊢
  generalize forks.length = m at *
  clear hl h1 e
  go_enter Tryd.func16, Tryd.ntmps16
  go_wp2_with fail
  refine (M.out _).mono ?_
  rintro e w2 ⟨rfl, o2, on2⟩
  go_wp2
  go_ret
  exact ⟨rfl, o2, (Only.of_below (below_alloc w _) f1).trans on2⟩
theorem markDiagram_M (s : Dg) (A1 : Option Addr) (n1 c1 : Nat) (f1 : List Nat) (q : Int) (w : World) (h1 : Mem.own w f1 [.slice A1 n1 c1] s.forks) (hq : 0 ≤ q) (hq' : q ≤ 10000000000) (hl : s.forks.length ≤ 1048576) :
    Calls Tryd.prog 16 #[.agg #[.int .i64 s.vars, .slice A1 n1 c1], .int .i64 q] w (MarksL w f1 (q + mkDg s)) :=
  (markDiagram_W s A1 n1 c1 f1 q w h1 hq hq' hl).mono fun _ _ h => ⟨h.1, h.2.2⟩
theorem heldDiagram_W (s : Dg) (A1 : Option Addr) (n1 c1 : Nat) (q : Int) (w : World) (h1 : Mem.rd w w.heap.size [.slice A1 n1 c1] (fkFrom q s.forks.length)) (hq : 0 ≤ q) (hq' : q ≤ 10000000000) (hm : s.forks.length ≤ 1048576) :
    Calls Tryd.prog 17 #[.agg #[.int .i64 s.vars, .slice A1 n1 c1], .int .i64 q] w (fun e w' => e = .returned (.int .i64 (q + mkDg s)) ∧ Below w.heap.size w w') := by
  have M := Lib.hid (fun o => heldForkS_W A1 n1 c1 q s.forks.length (w.alloc o) (Mem.rd_on_alloc h1 o) hq (by omega) hm)
  have e : (mkDg s : Int) = 3 * (s.forks.length : Int) := by unfold mkDg; omega
  rw [e]
  obtain ⟨vars, forks⟩ := s
  dsimp only at M hm ⊢
  generalize forks.length = m at *
  clear h1 e
  go_enter Tryd.func17, Tryd.ntmps17
  go_wp2_with fail
  refine (M.out _).mono ?_
  rintro e w2 ⟨rfl, b2⟩
  go_wp2
  go_ret
  exact ⟨rfl, below_call b2⟩
section
variable {H : Type} {enc : TypeId × Value → H} {w : World} {base : Nat} {spare : Nat → Bool} {held : Bool}
theorem opens_Fork : Opens enc Tryd.prog w base spare held 112 Fk := fun _ cs _ h => by
  obtain ⟨hl, hf⟩ := one_field Tryd.underlying112 (by kernel_rfl) (by kernel_rfl) h
  obtain ⟨v0, _, _, e0, t0⟩ := hf 0 _ rfl
  obtain ⟨v1, _, _, e1, t1⟩ := hf 1 _ rfl
  obtain ⟨a, ha⟩ := opens_Int _ _ _ t0
  obtain ⟨b, hb⟩ := opens_Int _ _ _ t1
  obtain ⟨v2, _, _, e2, t2⟩ := hf 2 _ rfl
  obtain ⟨c, hc⟩ := opens_Int _ _ _ t2
  injection (show [v0] = [.int .i64 a] from ha) with ha _
  injection (show [v1] = [.int .i64 b] from hb) with hb _
  injection (show [v2] = [.int .i64 c] from hc) with hc _
  subst ha; subst hb; subst hc
  exact ⟨⟨a, b, c⟩, list3 hl e0 e1 e2⟩
theorem opens_ForkS : Opens enc Tryd.prog w base spare held 42 (List Fk) := opens_slice Tryd.underlying42 (by kernel_rfl) (by decide) opens_Fork
set_option maxRecDepth 100000 in
/-- An argument of type laws.Diagram. -/
theorem open_diagram {v : Value} {d : DataW H} {p : List MemPlace} {r : Reach} {b0 : Nat} (hv : Value.okWide Tryd.prog w r b0 44 v) (h : DataW.Trod enc Tryd.prog w base spare held 44 v d p) :
    ∃ A1 n1 c1, ∃ s : Dg, v = .agg #[.int .i64 s.vars, .slice A1 n1 c1] ∧ Mem.rd w w.heap.size [.slice A1 n1 c1] s.forks ∧ (Lit.int .i64 s.vars).wf = true := by
  obtain ⟨fuel, h⟩ := h
  obtain ⟨cs, rfl, hcs⟩ := okWide_struct Tryd.underlying44 hv
  obtain ⟨hl, hf⟩ := one_field Tryd.underlying44 (by kernel_rfl) (by kernel_rfl) h
  obtain ⟨v0, _, _, e0, t0⟩ := hf 0 _ rfl
  obtain ⟨v1, _, _, e1, t1⟩ := hf 1 _ rfl
  obtain ⟨n, hn, _, hw⟩ := DataW.trod_int Tryd.underlying3 t0
  obtain ⟨b, hb⟩ := opens_ForkS _ _ _ t1
  have e := list2 hl e0 e1
  have hb' := hb
  obtain ⟨A1, n1, c1, f1, _⟩ := hb'
  injection f1 with f1 _
  injection hn with hn _
  subst f1; subst hn
  refine ⟨A1, n1, c1, ⟨n, b⟩, ?_, hb, hw⟩
  have e' : cs.toList = [.int .i64 n, .slice A1 n1 c1] := e
  rw [← Array.toArray_toList (xs := cs), e']
end
end Go.Proofs.YtnhjcokmajejcaaDoor
