/- Draws: the source of numbers; pick, num. -/
import Derived.Test.YtffkdmaedojcjaaIl
import Derived.Test.YtffkdmaedojcjaaBit0
import Derived.Deep.QuietTactic
import Derived.BigQuiet
import Derived.RegionTactic
import Derived.BigRegion
import Derived.Laws.Bits64b
import Derived.Laws.BitsAllLaws
import Derived.Test.YtffkdmaedojcjaaOpenSy
namespace Go.Proofs.Ytffkdmaedojcjaa
open Go.RowKit

/-- A row of bytes below a block. -/
def Bys (w : World) (B : Nat) (A : Option Addr) (m : Nat) : Prop := ∀ k, k < m → ∃ (ad : Addr) (v : Nat), A = some ad ∧ ad.block < B ∧ w.cell? (ad.add k) = some (.int .u8 (v : Int)) ∧ v < 256
theorem Bys.keep {w w' : World} {B m : Nat} {A : Option Addr} (h : Bys w B A m) (hk : ∀ p : Addr, p.block < B → w'.cell? p = w.cell? p) : Bys w' B A m := fun k hkm => by
  obtain ⟨ad, v, e, hb, hc, hv⟩ := h k hkm
  exact ⟨ad, v, e, hb, (hk _ (by rw [add_block]; exact hb)).trans hc, hv⟩
theorem bits_xor_i64_nat (a b : Nat) (ha : a < 2 ^ 32) (hb : b < 2 ^ 32) : bits .xor .i64 a b = ((a ^^^ b : Nat) : Int) := by
  have hp : (2 : Nat) ^ 32 ≤ 2 ^ IntKind.i64.bits := Nat.pow_le_pow_right (by decide) (by decide)
  have ha' : a % 2 ^ IntKind.i64.bits = a := Nat.mod_eq_of_lt (Nat.lt_of_lt_of_le ha hp)
  have hb' : b % 2 ^ IntKind.i64.bits = b := Nat.mod_eq_of_lt (Nat.lt_of_lt_of_le hb hp)
  simp only [bits, BitVec.ofInt_natCast, BitVec.toNat_xor, BitVec.toNat_ofNat, ha', hb']
  have := Nat.xor_lt_two_pow ha hb
  exact IntWalk.i64_in _ (by omega)
theorem tmod_nat (a b : Nat) : ((a : Int)).tmod (b : Int) = ((a % b : Nat) : Int) := by
  rw [Int.tmod_eq_emod_of_nonneg (by omega)]; simp
theorem tdiv_nat (a b : Nat) : ((a : Int)).tdiv (b : Int) = ((a / b : Nat) : Int) := by
  rw [Int.tdiv_eq_ediv_of_nonneg (by omega)]; simp

/-- A number that was drawn, below n: only the source's place has changed. -/
def GivesPk (w : World) (g n p : Nat) (s : Value) (e : Ending) (w' : World) : Prop :=
  ∃ x : Nat, x < n ∧ e = .returned (.int .i64 x) ∧ Blk w' g 42 [s, .int .i64 ((p + 1 : Nat) : Int)] ∧ Only [g] w w'

set_option maxRecDepth 100000 in
set_option maxHeartbeats 4000000 in
theorem pick_any (g : Nat) (A : Option Addr) (m c p n B : Nat) (w : World) (hk : Blk w g 42 [.slice A m c, .int .i64 (p : Int)]) (hb : Bys w B A m) (hB : B ≤ g) (hp : p ≤ 1000) (hn : 1 ≤ n) (hn2 : n ≤ 1000000) :
    Calls Try.prog 11 #[.pointer (some ⟨g, 0, none⟩), .int .i64 n] w (GivesPk w g n p (.slice A m c)) := by
  have k1 := Lib.hid (hk.set 1 (.int .i64 ((p + 1 : Nat) : Int)))
  have o1 := Lib.hid (show Only [g] w (w.setCell ⟨g, 1, none⟩ (.int .i64 ((p + 1 : Nat) : Int))) from ⟨rfl, rfl, rfl, by simp [World.setCell], fun k _ hk => setCell_heap w ⟨g, 1, none⟩ _ (fun e => hk (by simp [e]))⟩)
  have b1 := Lib.hid (hb.keep (w' := w.setCell ⟨g, 1, none⟩ (.int .i64 ((p + 1 : Nat) : Int))) (fun q hq => by
    have : (w.setCell ⟨g, 1, none⟩ (.int .i64 ((p + 1 : Nat) : Int))).heap[q.block]? = w.heap[q.block]? := setCell_heap w ⟨g, 1, none⟩ _ (by show q.block ≠ g; omega)
    unfold World.cell?
    rw [this]))
  have c1 := hk.cell 1
  have f1 := hk.frozen 1
  have wa : IntKind.i64.wrap ((p : Int) + 1) = ((p + 1 : Nat) : Int) := by rw [IntWalk.i64_in _ (by omega)]; omega
  have wb : IntKind.i64.wrap (((p + 1 : Nat) : Int) - 1) = (p : Int) := by rw [IntWalk.i64_in _ (by omega)]; omega
  have hn0 : ¬ ((n : Int) < 1) := by omega
  simp only [List.getElem?_cons_zero, List.getElem?_cons_succ] at c1
  obtain ⟨P1, hP1⟩ : ∃ x : Int, x = ((p + 1 : Nat) : Int) := ⟨_, rfl⟩
  have HP1 := Lib.hid hP1
  rw [← hP1] at wa wb k1 o1 b1
  clear hP1
  have d0 := k1.out.cell 0
  have d1 := k1.out.cell 1
  simp only [List.set_cons_zero, List.set_cons_succ, List.getElem?_cons_zero, List.getElem?_cons_succ] at d0 d1
  clear hb hk
  have fin : Hid (∀ (x : Nat) (W : World), x < n → (∀ q : Addr, True) → Below (w.setCell ⟨g, 1, none⟩ (.int .i64 P1)).heap.size (w.setCell ⟨g, 1, none⟩ (.int .i64 P1)) W → GivesPk w g n p (.slice A m c) (.returned (.int .i64 x)) W) := Lib.hid (fun x W hx _ hW => by
    refine ⟨x, hx, rfl, ?_, ?_⟩
    · have := k1.out.below hW k1.out.lt
      rw [← HP1.out]; exact this
    · exact ⟨hW.os.trans o1.out.os, hW.tape.trans o1.out.tape, hW.output.trans o1.out.output, Nat.le_trans o1.out.size hW.size, fun k hk hg => (hW.block k (Nat.lt_of_lt_of_le hk o1.out.size)).trans (o1.out.block k hk hg)⟩)
  by_cases h0 : m = 0
  · have m0 : (m : Int) = 0 := by omega
    subst h0
    go_enter Try.func11, Try.ntmps11
    go_wp2
    go_ret
    exact fin.out 0 _ (by omega) (fun _ => trivial) (Below.refl _ _)
  · have m0 : ¬ ((m : Int) = 0) := by omega
    by_cases hlt : p < m
    · obtain ⟨ad, v, rfl, hbl, e0, hv⟩ := b1.out p hlt
      have pm : (p : Int) < m := by omega
      have n0 : ¬ ((n : Int) = 0) := by omega
      have tm := tmod_nat v n
      have xb : v % n < n := Nat.mod_lt _ (by omega)
      have wc : IntKind.i64.wrap ((v : Nat) : Int) = (v : Nat) := IntWalk.i64_in _ (by omega)
      have wd : IntKind.i64.wrap ((v % n : Nat) : Int) = ((v % n : Nat) : Int) := IntWalk.i64_in _ (by omega)
      have FX := Lib.hid (fin.out (v % n))
      generalize v % n = x at *
      clear hlt fin
      go_enter Try.func11, Try.ntmps11
      go_wp2
      go_ret
      exact FX.out _ xb (fun _ => trivial) (Below.refl _ _)
    · have hmp : 0 < m := by omega
      have pm : ¬ ((p : Int) < m) := by omega
      have n0 : ¬ ((n : Int) = 0) := by omega
      have hi1 : p % m < m := Nat.mod_lt _ hmp
      have hi2 : (p * 7 + 3) % m < m := Nat.mod_lt _ hmp
      obtain ⟨ad, v1, rfl, hbl, e0, hv1⟩ := b1.out (p % m) hi1
      obtain ⟨ad', v2, ea, hbl', e0', hv2⟩ := b1.out ((p * 7 + 3) % m) hi2
      injection ea with ea
      subst ea
      have t1 := tmod_nat p m
      have t2 := tmod_nat (p * 7 + 3) m
      have t3 := tdiv_nat p m
      have hdd : p / m ≤ p := Nat.div_le_self _ _
      obtain ⟨X, hX⟩ : ∃ X : Nat, X = v1 * 131 + v2 * 1117 + p * 29 + p / m * 53 := ⟨_, rfl⟩
      have t4 := tdiv_nat X 64
      have t6 := tmod_nat (X ^^^ (X / 64)) n
      have t5 := bits_xor_i64_nat X (X / 64) (by omega) (by have := Nat.div_le_self X 64; omega)
      have hz := Nat.xor_lt_two_pow (show X < 2 ^ 32 by omega) (show X / 64 < 2 ^ 32 by have := Nat.div_le_self X 64; omega)
      have xb : (X ^^^ (X / 64)) % n < n := Nat.mod_lt _ (by omega)
      have FX := Lib.hid (fin.out ((X ^^^ (X / 64)) % n))
      have hY : X / 64 ≤ X := Nat.div_le_self _ _
      have wX : IntKind.i64.wrap (((v1 : Int) * 131 + (v2 : Int) * 1117 + (p : Int) * 29) + ((p / m : Nat) : Int) * 53) = ((X : Nat) : Int) := by rw [IntWalk.i64_in _ (by omega)]; omega
      have w13 : IntKind.i64.wrap ((v1 : Int) * 131 + (v2 : Int) * 1117 + (p : Int) * 29) = (v1 : Int) * 131 + (v2 : Int) * 1117 + (p : Int) * 29 := IntWalk.i64_in _ (by omega)
      have w12 : IntKind.i64.wrap ((v1 : Int) * 131 + (v2 : Int) * 1117) = (v1 : Int) * 131 + (v2 : Int) * 1117 := IntWalk.i64_in _ (by omega)
      have w11 : IntKind.i64.wrap ((v1 : Int) * 131) = (v1 : Int) * 131 := IntWalk.i64_in _ (by omega)
      have w10 : IntKind.i64.wrap ((v2 : Int) * 1117) = (v2 : Int) * 1117 := IntWalk.i64_in _ (by omega)
      have w9 : IntKind.i64.wrap ((p : Int) * 29) = (p : Int) * 29 := IntWalk.i64_in _ (by omega)
      have w8 : IntKind.i64.wrap (((p / m : Nat) : Int) * 53) = ((p / m : Nat) : Int) * 53 := IntWalk.i64_in _ (by omega)
      have w7 : IntKind.i64.wrap ((p : Int) * 7) = (p : Int) * 7 := IntWalk.i64_in _ (by omega)
      have w6 : IntKind.i64.wrap ((p : Int) * 7 + 3) = ((p * 7 + 3 : Nat) : Int) := by rw [IntWalk.i64_in _ (by omega)]; omega
      have wc1 : IntKind.i64.wrap ((v1 : Nat) : Int) = (v1 : Nat) := IntWalk.i64_in _ (by omega)
      have wc2 : IntKind.i64.wrap ((v2 : Nat) : Int) = (v2 : Nat) := IntWalk.i64_in _ (by omega)
      have wd1 : IntKind.i64.wrap ((p % m : Nat) : Int) = ((p % m : Nat) : Int) := IntWalk.i64_in _ (by omega)
      have wd2 : IntKind.i64.wrap (((p * 7 + 3) % m : Nat) : Int) = (((p * 7 + 3) % m : Nat) : Int) := IntWalk.i64_in _ (by omega)
      have wd3 : IntKind.i64.wrap ((p / m : Nat) : Int) = ((p / m : Nat) : Int) := IntWalk.i64_in _ (by omega)
      have wd4 : IntKind.i64.wrap ((X / 64 : Nat) : Int) = ((X / 64 : Nat) : Int) := IntWalk.i64_in _ (by omega)
      have wdq : IntKind.i64.wrap ((X : Int) / 64) = ((X / 64 : Nat) : Int) := by rw [IntWalk.i64_in _ (by omega)]; omega
      have wd5 : IntKind.i64.wrap (((X ^^^ (X / 64)) % n : Nat) : Int) = (((X ^^^ (X / 64)) % n : Nat) : Int) := IntWalk.i64_in _ (by omega)
      generalize (X ^^^ (X / 64)) % n = x at *
      generalize X ^^^ (X / 64) = Z at *
      generalize X / 64 = Y at *
      generalize (p * 7 + 3) % m = i2 at *
      generalize p * 7 + 3 = q at *
      generalize p % m = i1 at *
      generalize p / m = dd at *
      have n64 : ¬ ((64 : Int) = 0) := by omega
      clear hlt fin hX hz hdd hY
      go_enter Try.func11, Try.ntmps11
      go_wp2
      go_quiet (fail)
      go_wp2
      go_ret
      exact FX.out _ xb (fun _ => trivial) ⟨rfl, rfl, rfl, Nat.le_refl _, fun _ _ => rfl⟩

theorem only_cell {g : Nat} {w w' : World} {q : Addr} (o : Only [g] w w') (hne : q.block ≠ g) (hlt : q.block < w.heap.size) : w'.cell? q = w.cell? q := by
  unfold World.cell?
  rw [o.block q.block hlt (by simp [hne])]
theorem only_below {g B : Nat} {w w' : World} (o : Only [g] w w') (hg : B ≤ g) (hB : B ≤ w.heap.size) : Below B w w' := o.below hB fun b hb => by simp at hb; omega
/-- A number of a list that was drawn: only the source's place has changed. -/
def GivesNm (w : World) (g p : Nat) (s : Value) (e : Ending) (w' : World) : Prop :=
  ∃ z : Int, e = .returned (.int .i64 z) ∧ Blk w' g 42 [s, .int .i64 ((p + 1 : Nat) : Int)] ∧ Only [g] w w'
/-- A list of numbers that was laid in a block of its own. -/
def Nums (w : World) (g : Nat) (A : Option Addr) (k : Nat) : Prop := ∀ i, i < k → ∃ (ad : Addr) (z : Int), A = some ad ∧ ad.block ≠ g ∧ ad.block < w.heap.size ∧ w.cell? (ad.add i) = some (.int .i64 z)

theorem num_any (g : Nat) (A : Option Addr) (m c p B : Nat) (A' : Option Addr) (k c' : Nat) (w : World) (hk : Blk w g 42 [.slice A m c, .int .i64 (p : Int)]) (hb : Bys w B A m) (hB : B ≤ g) (hp : p ≤ 1000) (h1 : 1 ≤ k) (h2 : k ≤ 1000) (hL : Nums w g A' k) :
    Calls Try.prog 10 #[.pointer (some ⟨g, 0, none⟩), .slice A' k c'] w (GivesNm w g p (.slice A m c)) := by
  have PK := Lib.hid (pick_any g A m c p k B w hk hb hB hp h1 (by omega))
  go_enter Try.func10, Try.ntmps10
  go_wp2_with fail
  refine (PK.out).mono ?_
  rintro e w2 ⟨x, hx, rfl, k2, o2⟩
  obtain ⟨ad, z, rfl, hne, hlt, hc⟩ := hL x hx
  have c2 := (only_cell (q := ad.add x) o2 (by rw [add_block]; exact hne) (by rw [add_block]; exact hlt)).trans hc
  have hxi : (x : Int) < k := by omega
  go_wp2
  go_ret
  exact ⟨z, rfl, k2, o2⟩

/-- The source that was opened. -/
def GivesRd (w : World) (e : Ending) (w' : World) : Prop :=
  ∃ (g : Nat) (A : Option Addr) (m c : Nat), e = .returned (.pointer (some ⟨g, 0, none⟩)) ∧ Blk w' g 42 [.slice A m c, .int .i64 ((0 : Nat) : Int)] ∧ Bys w w.heap.size A m ∧ w.heap.size ≤ g ∧ Below w.heap.size w w'
theorem run_front {A : Option Addr} {n c : Nat} (hn : 2000 ≤ c) (W : World) : (Instr.sliceAt 22 (.slice A n c) none (some (.int .i64 2000)) none).run Try.prog W = .ok (.slice (if c = 0 then A else A.map (·.add (0 * 1))) 2000 c) W := by
  have hu : Try.prog.underlying 22 = some (.slice (Try.prog.elem 22)) := by kernel_rfl
  have hs : ∀ W, (Go.sizeOf (Try.prog.elem 22)).run Try.prog W = .ok 1 W := fun W => by kernel_rfl
  rw [run_sliceAt_slice W _ _ _ _ _ hu, run_slice_h W _ _ _ _ hu _ _ (by omega) (by omega), hs W]
  simp [Result.andThen, sliced]
theorem open_any (A : Option Addr) (n c : Nat) (w : World) (hc : n ≤ c) (hb : Bys w w.heap.size A n) : Calls Try.prog 9 #[.slice A n c] w (GivesRd w) := by
  by_cases h : 2000 < n
  · have hr := fun W => run_front (A := A) (n := n) (c := c) (by omega) W
    have h0 : ¬ c = 0 := by omega
    obtain ⟨ad, v, rfl, hbl, _⟩ := hb 0 (by omega)
    rw [if_neg h0] at hr
    simp only [Option.map_some, Nat.zero_mul] at hr
    have hi : (2000 : Int) < n := by omega
    have hb2 : Bys w w.heap.size (some (ad.add 0)) 2000 := fun k hk => by
      obtain ⟨ad', v, e, a, b, d⟩ := hb k (by omega)
      injection e with e
      subst e
      exact ⟨_, v, rfl, by rw [add_block]; exact a, by rw [add_add', Nat.zero_add]; exact b, d⟩
    clear hb
    go_enter Try.func9, Try.ntmps9
    go_wp2
    go_ret
    exact ⟨w.heap.size, _, 2000, c, rfl, Blk.new w _ _, hb2, Nat.le_refl _, below_alloc _ _⟩
  · have hi : ¬ ((2000 : Int) < n) := by omega
    go_enter Try.func9, Try.ntmps9
    go_wp2
    go_ret
    exact ⟨w.heap.size, A, n, c, rfl, Blk.new w _ _, hb, Nat.le_refl _, below_alloc _ _⟩
/-- Numbers that a text lays. -/
theorem nums_new (W : World) (g : Nat) (cs : Array Value) (k : Nat) (t : TypeId) (hg : g ≠ W.heap.size) (h : ∀ i, i < k → ∃ z : Int, cs.toList[i]? = some (.int .i64 z)) : Nums (W.alloc (.cells cs t)) g (some ⟨W.heap.size, 0, none⟩) k := fun i hi => by
  obtain ⟨z, hz⟩ := h i hi
  refine ⟨_, z, rfl, fun e => hg e.symm, by simp, ?_⟩
  have := (Blk.new W cs t).cell i
  rw [hz] at this
  have e : (⟨W.heap.size, 0, none⟩ : Addr).add i = ⟨W.heap.size, i, none⟩ := by unfold Addr.add; simp; exact fun h => h.symm
  rw [e]
  exact this
end Go.Proofs.Ytffkdmaedojcjaa
