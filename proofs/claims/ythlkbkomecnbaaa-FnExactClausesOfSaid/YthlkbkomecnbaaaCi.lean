/- Circuits in memory, and the exact laws' helpers for them. -/
import Derived.Test.YthlkbkomecnbaaaEqSy
import Derived.Test.YthlkbkomecnbaaaOpenSy
import Derived.Test.YthlkbkomecnbaaaIl
namespace Go.Proofs.Ythlkbkomecnbaaa
open Go.ChangeShapes Go.WideShapes Go.ChangeAt Go.RowKit Go.Deep
set_option maxRecDepth 100000

/-- A gate: its two edges. -/
structure Ga where
  a : Int
  b : Int
def Ga.cs (v : Ga) : List Value := [.int .i64 v.a, .int .i64 v.b]
def Ga.v (v : Ga) : Value := .agg #[.int .i64 v.a, .int .i64 v.b]
instance : Mem Ga where
  default := ⟨0, 0⟩
  size := 2
  rd _ _ cs a := cs = a.cs
  own _ fp cs a := fp = [] ∧ cs = a.cs
  rd_len h := by subst h; rfl
  rd_keep h _ := h
  rd_more h _ := h
  own_rd h := h.2
  own_keep h _ := h
  own_lt h b hb := by rw [h.1] at hb; cases hb
instance : Flat Ga := ⟨Ga.cs, fun _ => rfl, Iff.rfl, Iff.rfl⟩
/-- A circuit: how many inputs, and its gates. -/
structure Ci where
  ins : Int
  gates : List Ga
theorem ga_at {w : World} {B n c : Nat} {A : Option Addr} {l : List Ga} (h : Mem.rd w B [.slice A n c] l) {k : Nat} (hk : k < n) : ∃ ad, A = some ad ∧ ad.block < B ∧ w.cell? (ad.add (k * 2)) = some (.int .i64 (el l k).a) ∧
    w.cell? ⟨(ad.add (k * 2)).block, (ad.add (k * 2)).off + 1, none⟩ = some (.int .i64 (el l k).b) := by
  obtain ⟨A', n', c', e, hm, hl, h⟩ := h
  injection e with e _
  injection e with e1 e2 e3
  subst e1; subst e2; subst e3
  obtain ⟨ad, ecs, hA, hb, hc, hr⟩ := h k hk
  cases (show ecs = (el l k).cs from hr)
  refine ⟨ad, hA, hb, ?_⟩
  rw [pos1 ad k 2 (j := 1) (by omega)]
  exact ⟨hc 0 _ rfl, hc 1 _ rfl⟩

theorem ga_info : (Try.prog.info? 92).map (fun i => (i.zero, i.size, i.bytes)) = some (some (.agg #[.int .i64 0, .int .i64 0]), 2, 16) := by kernel_rfl
noncomputable def gaRow : TypeInfo := Classical.choose (info_parts ga_info)
theorem ga_row : Try.prog.info? 92 = some gaRow ∧ gaRow.zero = some (.agg #[.int .i64 0, .int .i64 0]) ∧ gaRow.size = 2 ∧ gaRow.bytes = 16 := Classical.choose_spec (info_parts ga_info)
theorem set_two {X Y : List Value} {m : Nat} (h : X.length = m) (a b a' b' : Value) : ((X ++ ([a, b] ++ Y)).set m a').set (m + 1) b' = X ++ ([a', b'] ++ Y) := by
  subst h
  rw [List.set_append_right _ _ (by omega), Nat.sub_self, List.set_append_right _ _ (by omega), show X.length + 1 - X.length = 1 by omega]
  rfl

theorem toAnd_any (t : Ga) (w : World) : Calls Try.prog 107 #[t.v] w fun e w' => e = .returned t.v ∧ Below w.heap.size w w' := by
  obtain ⟨a, b⟩ := t
  show Calls _ _ #[.agg #[.int .i64 a, .int .i64 b]] w _
  go_enter Try.func107, Try.ntmps107
  go_wp2
  exact bodyPost_ret (v := .agg #[.int .i64 a, .int .i64 b]) (by simp [results, Try.results107, go_sem]) rfl ⟨rfl, ((((Below.refl _ _).alloc (Nat.le_refl _) _).alloc (by simp) _).alloc (by simp; omega) _)⟩

set_option maxHeartbeats 1000000 in
theorem toAndS_any (A : Option Addr) (n c : Nat) (l : List Ga) (w : World) (h : Mem.rd w w.heap.size [.slice A n c] l) (hn : n ≤ 1048576) :
    Calls Try.prog 69 #[.slice A n c] w (GivesL w l) := by
  go_enter Try.func69, Try.ntmps69
  go_wp2_with (first | (at_make; refine wpList_make_full _ rfl _ _ 46 rfl w.heap.size 92 gaRow _ 2 Try.underlying46 ga_row.1 ga_row.2.1 ga_row.2.2.1 _ _ _ _ n rfl rfl rfl rfl (by rw [ga_row.2.2.2]; omega) (by unfold maxLen; omega) (Nat.le_refl _) ?_; intro w1 hown hg))
  have hbw := (Below.refl w.heap.size w).grown hg (Nat.le_refl _) (by simp)
  have hblk := (Blk.of_own hown).1
  have hblk : Blk w1 w.heap.size 92 (cat (fun _ => [.int .i64 0, .int .i64 0]) n) := made_cat #[.int .i64 0, .int .i64 0] n ▸ hblk
  have hmade := MadeL.zero (l := l) hblk
  clear hg hown hblk
  go_loopg [4] n (fun m i wr => ∃ k : Nat, k + m = n ∧ i = .int .i64 k ∧ MadeL wr w.heap.size 92 [.int .i64 0, .int .i64 0] n k l ∧ Below w.heap.size w wr)
  case atStart => exact ⟨0, by omega, rfl, hmade, hbw⟩
  case round =>
    clear hmade hbw
    obtain ⟨k, hk, rfl, hm, hb⟩ := hrel
    by_cases hlt : k < n
    · obtain ⟨ad, rfl, _, h0, h1⟩ := ga_at (Mem.rd_below h hb) hlt
      obtain ⟨X, Y, hblk, hX, hstep⟩ := hm.room hlt
      have hX3 : X.length = k * 2 := hX
      have HX := Lib.hid hX3
      have HS := Lib.hid hstep
      clear hm hX hX3 hstep
      go_wp2_with (first | (go_at_call 107; refine (toAnd_any (el l k) _).mono ?_; rintro e w2 ⟨rfl, hb2⟩; unfold Ga.v
                            have HK := Lib.hid (hblk.below hb2 hblk.lt)
                            have f0 := HK.out.frozen (k * 2)
                            have f1 := HK.out.frozen (k * 2 + 1)
                            have c0 : w2.cell? ⟨w.heap.size, k * 2, none⟩ = some (.int .i64 0) := (HK.out.cell (k * 2)).trans (by rw [List.getElem?_append_right (by rw [HX.out]; omega), HX.out]; simp)
                            have c1 : w2.cell? ⟨w.heap.size, k * 2 + 1, none⟩ = some (.int .i64 0) := (HK.out.cell (k * 2 + 1)).trans (by rw [List.getElem?_append_right (by rw [HX.out]; omega), HX.out]; simp)))
      go_roundg (n - (k + 1))
      case measure => omega
      case rel =>
        refine ⟨k + 1, by omega, by go_num, HS.out (el l k).cs [] w2 _ hb2 ⟨rfl, rfl⟩ (by simp) (by simp) ?_ ?_, ?_⟩
        · unfold Ga.cs
          rw [← set_two HX.out]
          exact (HK.out.set _ _).set _ _
        · intro b hb'
          rw [setCell_heap _ _ _ hb', setCell_heap _ _ _ hb']
        · exact ((hb.trans (hb2.mono hb.size)).setCell (Nat.le_refl _) _).setCell (Nat.le_refl _) _
    · obtain rfl : k = n := by omega
      go_wp2
      go_ret
      obtain ⟨fp, o, nd, lo⟩ := hm.all (rd_len h) (rd_max h)
      exact ⟨_, _, _, fp, rfl, o, nd, lo, hb⟩

/-- The call gives a new circuit. -/
def GivesCi (w : World) (s : Ci) (e : Ending) (w' : World) : Prop :=
  ∃ A1 n1 c1 f1, e = .returned (.agg #[.int .i64 s.ins, .slice A1 n1 c1]) ∧ Mem.own w' f1 [.slice A1 n1 c1] s.gates ∧ f1.Nodup ∧ (∀ b ∈ f1, w.heap.size ≤ b) ∧ Below w.heap.size w w'
def szCi (s : Ci) : Nat := s.gates.length

set_option maxHeartbeats 1000000 in
theorem toCircuit_any (s : Ci) (A1 : Option Addr) (n1 c1 : Nat) (w : World) (h1 : Mem.rd w w.heap.size [.slice A1 n1 c1] s.gates) (hf : s.gates.length ≤ 1048576) :
    Calls Try.prog 28 #[.agg #[.int .i64 s.ins, .slice A1 n1 c1]] w (GivesCi w s) := by
  have i1 : n1 ≤ 1048576 := by rw [← rd_len h1]; exact hf
  obtain ⟨ins, gates⟩ := s
  dsimp only at h1 hf ⊢
  clear hf
  go_enter Try.func28, Try.ntmps28
  go_wp2_with fail
  refine (toAndS_any A1 n1 c1 gates _ (Mem.rd_on h1 (by first | exact (((below_alloc w _).alloc (by simp) _).alloc (by simp; omega) _).setCell (by simp; omega) _ | exact ((below_alloc w _).alloc (by simp) _).alloc (by simp; omega) _)) i1).mono ?_
  rintro e w2 ⟨B1, m1, d1, f1, rfl, o1, nd1, lo1, b1⟩
  obtain ⟨hc1, hf1⟩ := bcell b1
  have hz1 := b1.size
  have L1 : Below w.heap.size w w2 := (((below_alloc w _).alloc (by simp) _).alloc (by simp; omega) _).trans (b1.mono (by simp; omega))
  have g1 : ∀ b ∈ f1, b < w2.heap.size := Mem.own_lt o1
  simp only [World.size_alloc] at lo1 hz1
  have q1 : w.heap.size + 1 + 1 < w2.heap.size := by omega
  have p1 : w.heap.size + 1 < w2.heap.size := by omega
  have q1' : w.heap.size < w2.heap.size := by omega
  go_wp2_with fail
  have keep : ∀ b, w.heap.size + 1 + 1 < b → (((w2.setCell ⟨w.heap.size + 1 + 1, 1, none⟩ (Value.slice B1 m1 d1)).setCell ⟨w.heap.size + 1, 0, none⟩ (Value.int .i64 ins)).setCell ⟨w.heap.size + 1, 1, none⟩ (Value.slice B1 m1 d1)).heap[b]? = w2.heap[b]? := by
    intro b hb
    rw [setCell_heap _ _ _ (show b ≠ w.heap.size + 1 by omega), setCell_heap _ _ _ (show b ≠ w.heap.size + 1 by omega), setCell_heap _ _ _ (show b ≠ w.heap.size + 1 + 1 by omega)]
  refine bodyPost_ret (v := .agg #[.int .i64 ins, .slice B1 m1 d1]) (by simp [results, Try.results28, go_sem, hc1]) rfl ⟨B1, m1, d1, f1, rfl,
    Mem.own_keep o1 fun b hb => keep b (by have := lo1 b hb; omega), nd1, ?_, ?_⟩
  · intro b hb
    have := lo1 b hb; omega
  · exact ((L1.setCell (p := ⟨w.heap.size + 1 + 1, 1, none⟩) (by simp; omega) _).setCell (by simp) _).setCell (by simp) _

theorem szAndS_M (A : Option Addr) (n c : Nat) (left : Int) (hn : n ≤ maxLen) (h0 : 0 ≤ left) (h1 : left ≤ 1048576) (w : World) :
    Calls Try.prog 63 #[.slice A n c, .int .i64 left] w (fun e w' => e = .returned (.int .i64 (rest left n)) ∧ w = w') := by
  unfold maxLen at hn
  by_cases h : left < n
  · rw [rest_no h]
    go_enter Try.func63, Try.ntmps63
    go_wp2
    go_ret
    exact ⟨rfl, rfl⟩
  · rw [rest_yes (by omega)]
    go_enter Try.func63, Try.ntmps63
    go_wp2
    go_ret
    exact ⟨rfl, rfl⟩
theorem szCircuit_any (s : Ci) (A1 : Option Addr) (n1 c1 : Nat) (left : Int) (w : World) (h1 : Mem.rd w w.heap.size [.slice A1 n1 c1] s.gates) (g0 : 0 ≤ left) (g1 : left ≤ 1048576) :
    Calls Try.prog 26 #[.agg #[.int .i64 s.ins, .slice A1 n1 c1], .int .i64 left] w (Left w left (szCi s)) := by
  have m1 := rd_max h1
  have e : szCi s = n1 := rd_len h1
  rw [e]
  clear e h1
  by_cases h : left < n1
  · go_enter Try.func26, Try.ntmps26
    go_wp2_with fail
    refine (szAndS_M A1 n1 c1 left m1 g0 g1 _).mono ?_
    rintro e' w' ⟨rfl, rfl⟩
    rw [rest_no h]
    go_wp2
    go_ret
    exact ⟨congrArg (fun z => Ending.returned (.int .i64 z)) (rest_no h).symm, below_alloc _ _⟩
  · go_enter Try.func26, Try.ntmps26
    go_wp2_with fail
    refine (szAndS_M A1 n1 c1 left m1 g0 g1 _).mono ?_
    rintro e' w' ⟨rfl, rfl⟩
    rw [rest_yes (by omega)]
    go_wp2
    go_ret
    exact ⟨congrArg (fun z => Ending.returned (.int .i64 z)) (rest_yes (by omega)).symm, below_alloc _ _⟩

set_option maxHeartbeats 1000000 in
theorem eqAnd_same (t : Ga) (w : World) : Calls Try.prog 110 #[.agg #[.int .i64 t.a, .int .i64 t.b], .agg #[.int .i64 t.a, .int .i64 t.b]] w (GivesBool w true) := by
  obtain ⟨a, b⟩ := t
  dsimp only
  have g1 : (a != a) = false := by simp
  have g2 : (b != b) = false := by simp
  go_enter Try.func110, Try.ntmps110
  go_wp2
  go_ret
  exact ⟨rfl, ((Below.refl _ _).alloc (Nat.le_refl _) _).alloc (by simp) _⟩
theorem two_below {w w' : World} {a : Addr} {m : Nat} {v0 v1 : Value} (hb : Below w.heap.size w w') (ha : a.block < w.heap.size) (h0 : w.cell? (a.add m) = some v0) (h1 : w.cell? ⟨(a.add m).block, (a.add m).off + 1, none⟩ = some v1) :
    w'.cell? (a.add m) = some v0 ∧ w'.cell? ⟨(a.add m).block, (a.add m).off + 1, none⟩ = some v1 := by
  have e : (a.add m).block < w.heap.size := by rw [add_block]; exact ha
  exact ⟨cell_below hb e h0, cell_below hb e h1⟩

set_option maxHeartbeats 1000000 in
theorem eqAndS_same (A A' : Option Addr) (n c n' c' : Nat) (l : List Ga) (w : World) (h : Mem.rd w w.heap.size [.slice A n c] l) (h' : Mem.rd w w.heap.size [.slice A' n' c'] l) (hn : l.length ≤ 1048576) :
    Calls Try.prog 75 #[.slice A n c, .slice A' n' c'] w (GivesBool w true) := by
  have e1 := rd_len h
  have e2 := rd_len h'
  obtain rfl : n = n' := by omega
  have hn' : n ≤ 1048576 := by omega
  clear e1 e2 hn
  go_enter Try.func75, Try.ntmps75
  go_wp2
  go_loopg [5] n (fun m i wr => ∃ k : Nat, k + m = n ∧ i = .int .i64 k ∧ Below w.heap.size w wr)
  case atStart => exact ⟨0, by omega, rfl, Below.refl _ _⟩
  case round =>
    obtain ⟨k, hk, rfl, hb⟩ := hrel
    by_cases hlt : k < n
    · obtain ⟨ad, rfl, b1, h0, h1⟩ := ga_at (Mem.rd_below h hb) hlt
      obtain ⟨ad', rfl, b2, i0, i1⟩ := ga_at (Mem.rd_below h' hb) hlt
      go_wp2
      go_region_held3 (fun w' => w'.cell? (ad.add (k * 2)) = some (.int .i64 (el l k).a) ∧ w'.cell? ⟨(ad.add (k * 2)).block, (ad.add (k * 2)).off + 1, none⟩ = some (.int .i64 (el l k).b) ∧
          w'.cell? (ad'.add (k * 2)) = some (.int .i64 (el l k).a) ∧ w'.cell? ⟨(ad'.add (k * 2)).block, (ad'.add (k * 2)).off + 1, none⟩ = some (.int .i64 (el l k).b))
        (go_keep) ((go_at_call 110; refine (eqAnd_same (el l k) _).mono ?_; rintro e w2 ⟨rfl, hb2⟩; obtain ⟨p0, p1⟩ := two_below hb2 (Nat.lt_of_lt_of_le b1 hb.size) h0 h1; obtain ⟨q0, q1⟩ := two_below hb2 (Nat.lt_of_lt_of_le b2 hb.size) i0 i1))
      all_goals
        go_wp2
        go_roundg (n - (k + 1))
        case measure => omega
        case rel => exact ⟨k + 1, by omega, by go_num, hb.trans (Below.mono (B' := w.heap.size) ⟨hb2.os, hb2.tape, hb2.output, hb2.size, hb2.block⟩ hb.size)⟩
    · obtain rfl : k = n := by omega
      go_wp2
      go_ret
      exact ⟨rfl, hb⟩

theorem ci_box2 {w : World} {v1 v2 u1 u2 : Value} (t : TypeId) : ∀ W, Below ((w.alloc (.cells #[v1, v2] t)).alloc (.cells #[u1, u2] t)).heap.size ((w.alloc (.cells #[v1, v2] t)).alloc (.cells #[u1, u2] t)) W →
    Below w.heap.size w W := fun _W hW => below_call (below_call hW)
set_option maxHeartbeats 1000000 in
theorem eqCircuit_same (s : Ci) (A1 : Option Addr) (n1 c1 : Nat) (A2 : Option Addr) (n2 c2 : Nat) (w : World) (h1 : Mem.rd w w.heap.size [.slice A1 n1 c1] s.gates) (h2 : Mem.rd w w.heap.size [.slice A2 n2 c2] s.gates) (hs : s.gates.length ≤ 1048576) :
    Calls Try.prog 30 #[.agg #[.int .i64 s.ins, .slice A1 n1 c1], .agg #[.int .i64 s.ins, .slice A2 n2 c2]] w (GivesBool w true) := by
  obtain ⟨ins, gates⟩ := s
  dsimp only at h1 h2 hs ⊢
  have HS := Lib.hid hs
  have g1 : (ins != ins) = false := by simp
  clear hs
  go_enter Try.func30, Try.ntmps30
  go_wp2_with fail
  refine (eqAndS_same A1 A2 n1 c1 n2 c2 gates _ (Mem.rd_on_alloc (Mem.rd_on_alloc h1 _) _) (Mem.rd_on_alloc (Mem.rd_on_alloc h2 _) _) HS.out).mono ?_
  rintro e w2 ⟨rfl, b2⟩
  have B2 := below_call (below_call b2)
  go_wp2
  go_ret
  exact ⟨rfl, B2⟩

/-- Marks: from q on, two a gate. -/
def gaFrom (q : Int) (n : Nat) : List Ga := (List.range n).map fun (k : Nat) => ⟨q + 2 * (k : Int), q + 2 * (k : Int) + 1⟩
theorem gaFrom_len (q : Int) (n : Nat) : (gaFrom q n).length = n := by simp [gaFrom]
theorem gaFrom_at (q : Int) {n k : Nat} (h : k < n) : el (gaFrom q n) k = ⟨q + 2 * k, q + 2 * k + 1⟩ := by
  rw [el_lt (by rw [gaFrom_len]; exact h)]; simp [gaFrom]
/-- k gates have marks. -/
def gaMarked (l : List Ga) (q : Int) (k : Nat) (i : Nat) : List Value := if i < k then Ga.cs ⟨q + 2 * i, q + 2 * i + 1⟩ else Ga.cs (el l i)
theorem gaMarked_two (l : List Ga) (q : Int) (k i : Nat) : (gaMarked l q k i).length = 2 := by unfold gaMarked; split <;> rfl
theorem gaMarked_succ (l : List Ga) (q : Int) {n k : Nat} (_h : k < n) :
    ((cat (gaMarked l q k) n).set (k * 2) (.int .i64 (q + 2 * k))).set (k * 2 + 1) (.int .i64 (q + 2 * k + 1)) = cat (gaMarked l q (k + 1)) n := by
  have L0 : (cat (gaMarked l q k) n).length = n * 2 := cat_len fun i _ => gaMarked_two l q k i
  have L1 : (cat (gaMarked l q (k + 1)) n).length = n * 2 := cat_len fun i _ => gaMarked_two l q (k + 1) i
  refine List.ext_getElem? fun i => ?_
  by_cases hi : i < n * 2
  · have h0 := cat_at (n := n) (fun i _ => gaMarked_two l q k i) (k := i / 2) (j := i % 2) (by omega) (by omega)
    have h1 := cat_at (n := n) (fun i _ => gaMarked_two l q (k + 1) i) (k := i / 2) (j := i % 2) (by omega) (by omega)
    rw [show i / 2 * 2 + i % 2 = i by omega] at h0 h1
    rw [List.getElem?_set, List.getElem?_set, h0, h1]
    simp only [List.length_set, L0]
    by_cases e1 : k * 2 + 1 = i
    · subst e1
      rw [if_pos rfl, if_pos hi, show (k * 2 + 1) / 2 = k by omega, show (k * 2 + 1) % 2 = 1 by omega]
      simp [gaMarked, Ga.cs]
    · rw [if_neg e1]
      by_cases e0 : k * 2 = i
      · subst e0
        rw [if_pos rfl, if_pos hi, show (k * 2) / 2 = k by omega, show (k * 2) % 2 = 0 by omega]
        simp [gaMarked, Ga.cs]
      · rw [if_neg e0]
        unfold gaMarked
        by_cases e2 : i / 2 < k
        · rw [if_pos e2, if_pos (by omega)]
        · rw [if_neg e2, if_neg (by omega)]
  · rw [List.getElem?_eq_none (by simp only [List.length_set, L0]; omega), List.getElem?_eq_none (by omega)]

set_option maxHeartbeats 1000000 in
theorem markAndS_t (t : TypeId) (base : Nat) (A : Option Addr) (n c : Nat) (l : List Ga) (q : Int) (w : World) (hown : w.ownsRow base t 2 (.slice A n c) n (cat (gaMarked l q 0) n)) (hq : 0 ≤ q) (hq' : q ≤ 1000000000000) (hn : n ≤ 1000000000000) :
    Calls Try.prog 76 #[.slice A n c, .int .i64 q] w (fun e w' => e = .returned (.int .i64 (q + 2 * n)) ∧ w'.ownsRow base t 2 (.slice A n c) n (cat (gaMarked l q n) n) ∧ w.grownBy w' (Value.slice A n c).ownBlock) := by
  go_enter Try.func76, Try.ntmps76
  go_wp2
  go_loopg [1, 5] n (fun m j i wr => ∃ (k : Nat), k + m = n ∧ i = .int .i64 k ∧ j = .int .i64 (q + 2 * k) ∧ wr.ownsRow base t 2 (.slice A n c) n (cat (gaMarked l q k) n) ∧ w.grownBy wr (Value.slice A n c).ownBlock)
  case atStart => exact ⟨0, by omega, rfl, by simp, hown, World.grownBy.refl _ _⟩
  case round =>
    clear hown
    obtain ⟨k, hk, rfl, rfl, ho, hg⟩ := hrel
    by_cases hlt : k < n
    · rcases ho.2 with ⟨_, h0⟩ | ⟨g, cap, cur, hv, _⟩
      · omega
      injection hv with hA _ hc
      subst hA
      subst hc
      have C : ∀ j, j < n * 2 → ∃ u, wr.cell? ⟨g, j, none⟩ = some u := fun j hj => by
        rw [ho.cellAt j hj]
        exact ⟨_, List.getElem?_eq_getElem (by rw [ho.1]; exact hj)⟩
      obtain ⟨u0, c0⟩ := C (k * 2) (by omega)
      obtain ⟨u1, c1⟩ := C (k * 2 + 1) (by omega)
      have f0 := ho.frozenAt (k * 2)
      have f1 := ho.frozenAt (k * 2 + 1)
      clear C
      have s0 := Lib.hid (ho.stored (k * 2) (.int .i64 (q + 2 * k)))
      go_wp2
      go_roundg (n - (k + 1))
      case measure => omega
      case rel =>
        have s1 := s0.out.1.stored (k * 2 + 1) (.int .i64 (q + 2 * k + 1))
        refine ⟨k + 1, by omega, by go_num, by go_num, ?_, grown_trans (grown_trans hg s0.out.2) s1.2⟩
        rw [← gaMarked_succ l q hlt]
        exact s1.1
    · obtain rfl : k = n := by omega
      go_wp2
      go_ret
      exact ⟨rfl, ho, hg⟩

theorem cat_gates {ecs : Nat → List Value} {l : List Ga} {q : Int} {n : Nat} (h : ∀ k, k < n → ecs k = Ga.cs (el l k)) : cat ecs n = cat (gaMarked l q 0) n :=
  cat_congr fun k hk => by rw [h k hk]; unfold gaMarked; rw [if_neg (by omega)]
theorem markAndS_W (A : Option Addr) (n c : Nat) (l : List Ga) (fp : List Nat) (q : Int) (w : World) (h : Mem.own w fp [.slice A n c] l) (hq : 0 ≤ q) (hq' : q ≤ 1000000000000) (hn : l.length ≤ 1048576) :
    Calls Try.prog 76 #[.slice A n c, .int .i64 q] w (fun e w' => e = .returned (.int .i64 (q + 2 * l.length)) ∧ Mem.own w' fp [.slice A n c] (gaFrom q l.length) ∧ Only fp w w') := by
  obtain ⟨hm, hl, h0 | ⟨g, t, ecs, fps, rfl, ho, rfl, he⟩⟩ := own_row h
  · subst h0
    obtain rfl : l = [] := List.length_eq_zero_iff.1 hl
    clear hl hn hm
    have HH := Lib.hid h
    clear h
    go_enter Try.func76, Try.ntmps76
    go_wp2
    go_loopg [1, 5] 0 (fun m j i wr => i = .int .i64 0 ∧ j = .int .i64 q ∧ wr = w)
    case atStart => exact ⟨rfl, rfl, rfl⟩
    case round =>
      obtain ⟨rfl, rfl, rfl⟩ := hrel
      go_wp2
      go_ret
      exact ⟨by simp, HH.out, Only.refl _ _⟩
  · have e2 : cat fps n = [] := by
      have : ∀ k, k < n → fps k = (fun _ => []) k := fun k hk => (he k hk).1
      rw [cat_congr this]; simp [cat]
    rw [cat_gates (l := l) (q := q) fun k hk => (he k hk).2] at ho
    refine (markAndS_t t 0 _ n c l q w ho hq hq' (by omega)).mono ?_
    rintro e w' ⟨rfl, ho', hg⟩
    rw [hl, e2]
    refine ⟨rfl, ⟨_, n, c, rfl, hm, gaFrom_len q n, .inr ⟨g, t, gaMarked l q n, fun _ => [], rfl, ho', by simp [cat], fun k hk => ⟨rfl, ?_⟩⟩⟩, Only.of_grown hg fun k hk => by simp [Value.ownBlock] at hk; simp [hk]⟩
    rw [gaFrom_at q hk]
    unfold gaMarked
    rw [if_pos hk]

/-- How many marks. -/
def mkCi (s : Ci) : Nat := 2 * s.gates.length
theorem markCircuit_W (s : Ci) (A1 : Option Addr) (n1 c1 : Nat) (f1 : List Nat) (q : Int) (w : World) (h1 : Mem.own w f1 [.slice A1 n1 c1] s.gates) (hq : 0 ≤ q) (hq' : q ≤ 10000000000) (hl : s.gates.length ≤ 1048576) :
    Calls Try.prog 31 #[.agg #[.int .i64 s.ins, .slice A1 n1 c1], .int .i64 q] w (fun e w' => e = .returned (.int .i64 (q + mkCi s)) ∧ Mem.own w' f1 [.slice A1 n1 c1] (gaFrom q s.gates.length) ∧ Only f1 w w') := by
  have M := Lib.hid (fun o => markAndS_W A1 n1 c1 s.gates f1 q (w.alloc o) (Mem.own_below h1 (below_alloc w o)) hq (by omega) hl)
  have e : (mkCi s : Int) = 2 * (s.gates.length : Int) := by unfold mkCi; omega
  rw [e]
  obtain ⟨ins, gates⟩ := s
  dsimp only at M hl ⊢
  generalize gates.length = m at *
  clear hl h1 e
  go_enter Try.func31, Try.ntmps31
  go_wp2_with fail
  refine (M.out _).mono ?_
  rintro e w2 ⟨rfl, o2, on2⟩
  go_wp2
  go_ret
  exact ⟨rfl, o2, (Only.of_below (below_alloc w _) f1).trans on2⟩
theorem markCircuit_M (s : Ci) (A1 : Option Addr) (n1 c1 : Nat) (f1 : List Nat) (q : Int) (w : World) (h1 : Mem.own w f1 [.slice A1 n1 c1] s.gates) (hq : 0 ≤ q) (hq' : q ≤ 10000000000) (hl : s.gates.length ≤ 1048576) :
    Calls Try.prog 31 #[.agg #[.int .i64 s.ins, .slice A1 n1 c1], .int .i64 q] w (MarksL w f1 (q + mkCi s)) :=
  (markCircuit_W s A1 n1 c1 f1 q w h1 hq hq' hl).mono fun _ _ h => ⟨h.1, h.2.2⟩
section
variable {H : Type} {enc : TypeId × Value → H} {w : World} {base : Nat} {spare : Nat → Bool} {held : Bool}
theorem opens_And : Opens enc Try.prog w base spare held 130 Ga := fun _ cs _ h => by
  obtain ⟨hl, hf⟩ := one_field Try.underlying130 (by kernel_rfl) (by kernel_rfl) h
  obtain ⟨v0, _, _, e0, t0⟩ := hf 0 _ rfl
  obtain ⟨v1, _, _, e1, t1⟩ := hf 1 _ rfl
  obtain ⟨a, ha⟩ := opens_Int _ _ _ t0
  obtain ⟨b, hb⟩ := opens_Int _ _ _ t1
  injection (show [v0] = [.int .i64 a] from ha) with ha _
  injection (show [v1] = [.int .i64 b] from hb) with hb _
  subst ha; subst hb
  exact ⟨⟨a, b⟩, list2 hl e0 e1⟩
theorem opens_AndS : Opens enc Try.prog w base spare held 40 (List Ga) := opens_slice Try.underlying40 (by kernel_rfl) (by decide) opens_And
set_option maxRecDepth 100000 in
/-- An argument of type laws.Circuit. -/
theorem open_circuit {v : Value} {d : DataW H} {p : List MemPlace} {r : Reach} {b0 : Nat} (hv : Value.okWide Try.prog w r b0 42 v) (h : DataW.Trod enc Try.prog w base spare held 42 v d p) :
    ∃ A1 n1 c1, ∃ s : Ci, v = .agg #[.int .i64 s.ins, .slice A1 n1 c1] ∧ Mem.rd w w.heap.size [.slice A1 n1 c1] s.gates ∧ (Lit.int .i64 s.ins).wf = true := by
  obtain ⟨fuel, h⟩ := h
  obtain ⟨cs, rfl, hcs⟩ := okWide_struct Try.underlying42 hv
  obtain ⟨hl, hf⟩ := one_field Try.underlying42 (by kernel_rfl) (by kernel_rfl) h
  obtain ⟨v0, _, _, e0, t0⟩ := hf 0 _ rfl
  obtain ⟨v1, _, _, e1, t1⟩ := hf 1 _ rfl
  obtain ⟨n, hn, _, hw⟩ := DataW.trod_int Try.underlying3 t0
  obtain ⟨b, hb⟩ := opens_AndS _ _ _ t1
  have e := list2 hl e0 e1
  have hb' := hb
  obtain ⟨A1, n1, c1, f1, _⟩ := hb'
  injection f1 with f1 _
  injection hn with hn _
  subst f1; subst hn
  refine ⟨A1, n1, c1, ⟨n, b⟩, ?_, hb, hw⟩
  have e' : cs.toList = [.int .i64 n, .slice A1 n1 c1] := e
  rw [← Array.toArray_toList (xs := cs), e']
end
end Go.Proofs.Ythlkbkomecnbaaa
