/- The marks of the exact laws over systems. -/
import Derived.Test.YthlkbkomecnbaaaToSy
namespace Go.Proofs.Ythlkbkomecnbaaa
open Go.RowKit

/-- The sum of the first k. -/
def sumTo (f : Nat → Nat) : Nat → Nat
  | 0 => 0
  | k + 1 => sumTo f k + f k
theorem sumTo_mono {f : Nat → Nat} {k n : Nat} (h : k ≤ n) : sumTo f k ≤ sumTo f n := by
  induction n with
  | zero => obtain rfl : k = 0 := by omega
            exact Nat.le_refl _
  | succ n ih =>
    by_cases e : k = n + 1
    · subst e; exact Nat.le_refl _
    · have := ih (by omega); show _ ≤ sumTo f n + f n; omega
theorem sumTo_one {f : Nat → Nat} {k n : Nat} (h : k < n) : f k ≤ sumTo f n := by
  have := sumTo_mono (f := f) (show k + 1 ≤ n from h)
  have e : sumTo f (k + 1) = sumTo f k + f k := rfl
  omega
def szLL (L : List (List Tm)) : Nat := L.length + sumTo (fun i => (el L i).length) L.length
def szRl (r : Rl) : Nat := r.cond.length + (r.sets.length + szLL r.terms)
def szRls (L : List Rl) : Nat := L.length + sumTo (fun i => szRl (el L i)) L.length
def szSy (s : Sy) : Nat := s.vars.length + szRls s.rules
theorem Rl.fits_of {r : Rl} (h : szRl r ≤ 1048576) : r.Fits := by
  unfold szRl szLL at h
  exact ⟨by omega, by omega, by omega, fun k hk => by have := sumTo_one (f := fun i => (el r.terms i).length) hk; omega⟩
theorem Sy.fits_of {s : Sy} (h : szSy s ≤ 1048576) : s.Fits := by
  unfold szSy szRls at h
  exact ⟨by omega, by omega, fun k hk => Rl.fits_of (by have := sumTo_one (f := fun i => szRl (el s.rules i)) hk; omega)⟩

/-- What is left of the room behind so much. -/
def rest (left : Int) (m : Nat) : Int := if left < m then -1 else left - m
theorem rest_no {left : Int} {m : Nat} (h : left < m) : rest left m = -1 := if_pos h
theorem rest_yes {left : Int} {m : Nat} (h : m ≤ left) : rest left m = left - m := if_neg (by omega)
/-- The call tells what is left; nothing has changed but by new blocks. -/
def Left (w : World) (left : Int) (m : Nat) (e : Ending) (w' : World) : Prop := e = .returned (.int .i64 (rest left m)) ∧ Below w.heap.size w w'

theorem szTermS_M (A : Option Addr) (n c : Nat) (left : Int) (hn : n ≤ maxLen) (h0 : 0 ≤ left) (h1 : left ≤ 1048576) (w : World) :
    Calls Try.prog 36 #[.slice A n c, .int .i64 left] w (fun e w' => e = .returned (.int .i64 (rest left n)) ∧ w = w') := szTermS_any A n c left hn h0 h1 w
theorem szVarS_M (A : Option Addr) (n c : Nat) (left : Int) (hn : n ≤ maxLen) (h0 : 0 ≤ left) (h1 : left ≤ 1048576) (w : World) :
    Calls Try.prog 89 #[.slice A n c, .int .i64 left] w (fun e w' => e = .returned (.int .i64 (rest left n)) ∧ w = w') := by
  unfold maxLen at hn
  by_cases h : left < n
  · rw [rest_no h]
    go_enter Try.func89, Try.ntmps89
    go_wp2
    go_ret
    exact ⟨rfl, rfl⟩
  · rw [rest_yes (by omega)]
    go_enter Try.func89, Try.ntmps89
    go_wp2
    go_ret
    exact ⟨rfl, rfl⟩
theorem szIntS_M (A : Option Addr) (n c : Nat) (left : Int) (hn : n ≤ maxLen) (h0 : 0 ≤ left) (h1 : left ≤ 1048576) (w : World) :
    Calls Try.prog 100 #[.slice A n c, .int .i64 left] w (fun e w' => e = .returned (.int .i64 (rest left n)) ∧ w = w') := by
  unfold maxLen at hn
  by_cases h : left < n
  · rw [rest_no h]
    go_enter Try.func100, Try.ntmps100
    go_wp2
    go_ret
    exact ⟨rfl, rfl⟩
  · rw [rest_yes (by omega)]
    go_enter Try.func100, Try.ntmps100
    go_wp2
    go_ret
    exact ⟨rfl, rfl⟩

set_option maxHeartbeats 1000000 in
theorem szTermSS_any (A : Option Addr) (n c : Nat) (L : List (List Tm)) (left : Int) (w : World) (h : Mem.rd w w.heap.size [.slice A n c] L) (h0 : 0 ≤ left) (h1 : left ≤ 1048576) :
    Calls Try.prog 152 #[.slice A n c, .int .i64 left] w (fun e w' => e = .returned (.int .i64 (rest left (szLL L))) ∧ w = w') := by
  have hm := rd_max h
  unfold maxLen at hm
  have hl := Lib.hid (rd_len h)
  by_cases hs : left < n
  · rw [rest_no (by unfold szLL; have := hl.out; omega)]
    go_enter Try.func152, Try.ntmps152
    go_wp2
    go_ret
    exact ⟨rfl, rfl⟩
  · have hT : ∃ T : Nat, Hid (T = szLL L) := ⟨_, Lib.hid rfl⟩
    obtain ⟨T, HT⟩ := hT
    rw [← HT.out]
    go_enter Try.func152, Try.ntmps152
    go_wp2
    go_loopg [1, 5] n (fun m lf i wr => ∃ k x : Nat, k + m = n ∧ i = .int .i64 k ∧ lf = .int .i64 (left - n - x) ∧ Hid (x = sumTo (fun i => (el L i).length) k) ∧ n + x ≤ left ∧ wr = w)
    case atStart => exact ⟨0, 0, by omega, rfl, by simp, Lib.hid rfl, by omega, rfl⟩
    case round =>
      obtain ⟨k, x, hk, rfl, rfl, HX, hx, rfl⟩ := hrel
      by_cases hlt : k < n
      · obtain ⟨ad, A1, n1, c1, rfl, _, hc, hr⟩ := ll_at h hlt
        have hm1 := rd_max hr
        have hX1 : x + n1 = sumTo (fun i => (el L i).length) (k + 1) := by rw [HX.out, ← rd_len hr]; rfl
        have HX1 := Lib.hid hX1
        clear hX1
        by_cases hs1 : left - n - x < n1
        · go_wp2_with fail
          refine (szTermS_M A1 n1 c1 (left - n - x) hm1 (by omega) (by omega) _).mono ?_
          rintro e w' ⟨rfl, rfl⟩
          rw [rest_no hs1]
          go_wp2
          go_ret
          have : left < T := by
            have := sumTo_mono (f := fun i => (el L i).length) (show k + 1 ≤ n from hlt)
            rw [HT.out]; unfold szLL; rw [hl.out]; rw [← HX1.out] at this; omega
          rw [rest_no this]
          exact ⟨rfl, rfl⟩
        · go_wp2_with fail
          refine (szTermS_M A1 n1 c1 (left - n - x) hm1 (by omega) (by omega) _).mono ?_
          rintro e w' ⟨rfl, rfl⟩
          rw [rest_yes (by omega)]
          go_wp2
          go_roundg (n - (k + 1))
          case measure => omega
          case rel => exact ⟨k + 1, x + n1, by omega, by go_num, by congr 1; omega, HX1, by omega, rfl⟩
      · obtain rfl : k = n := by omega
        go_wp2
        go_ret
        have : T = k + x := by rw [HT.out, HX.out]; unfold szLL; rw [hl.out]
        rw [rest_yes (by omega)]
        exact ⟨congrArg (fun z => Ending.returned (.int .i64 z)) (by omega), rfl⟩

set_option maxHeartbeats 2000000 in
theorem szRule_any (r : Rl) (A1 : Option Addr) (n1 c1 : Nat) (A2 : Option Addr) (n2 c2 : Nat) (A3 : Option Addr) (n3 c3 : Nat) (left : Int) (w : World) (h1 : Mem.rd w w.heap.size [.slice A1 n1 c1] r.cond) (h2 : Mem.rd w w.heap.size [.slice A2 n2 c2] r.sets)
    (h3 : Mem.rd w w.heap.size [.slice A3 n3 c3] r.terms) (g0 : 0 ≤ left) (g1 : left ≤ 1048576) : Calls Try.prog 121 #[.agg #[.slice A1 n1 c1, .slice A2 n2 c2, .slice A3 n3 c3], .int .i64 left] w (Left w left (szRl r)) := by
  have m1 := rd_max h1
  have m2 := rd_max h2
  have hT : ∃ T : Nat, Hid (T = szRl r) := ⟨_, Lib.hid rfl⟩
  obtain ⟨T, HT⟩ := hT
  have hS : ∃ S : Nat, Hid (S = szLL r.terms) := ⟨_, Lib.hid rfl⟩
  obtain ⟨S, HS⟩ := hS
  have e : Hid (T = n1 + (n2 + S)) := Lib.hid (by rw [HT.out, HS.out]; unfold szRl; rw [rd_len h1, rd_len h2])
  rw [← HT.out]
  clear HT
  by_cases s1 : left < n1
  · go_enter Try.func121, Try.ntmps121
    go_wp2_with fail
    refine (szTermS_M A1 n1 c1 left m1 g0 g1 _).mono ?_
    rintro e' w' ⟨rfl, rfl⟩
    rw [rest_no s1]
    go_wp2
    go_ret
    exact ⟨(congrArg (fun z => Ending.returned (.int .i64 z)) (rest_no (by have := e.out; omega))).symm, below_alloc _ _⟩
  by_cases s2 : left - n1 < n2
  · go_enter Try.func121, Try.ntmps121
    go_wp2_with fail
    refine (szTermS_M A1 n1 c1 left m1 g0 g1 _).mono ?_
    rintro e' w' ⟨rfl, rfl⟩
    rw [rest_yes (by omega)]
    go_wp2_with fail
    refine (szIntS_M A2 n2 c2 (left - n1) m2 (by omega) (by omega) _).mono ?_
    rintro e' w' ⟨rfl, rfl⟩
    rw [rest_no s2]
    go_wp2
    go_ret
    exact ⟨(congrArg (fun z => Ending.returned (.int .i64 z)) (rest_no (by have := e.out; omega))).symm, below_alloc _ _⟩
  by_cases s3 : left - n1 - n2 < S
  · go_enter Try.func121, Try.ntmps121
    go_wp2_with fail
    refine (szTermS_M A1 n1 c1 left m1 g0 g1 _).mono ?_
    rintro e' w' ⟨rfl, rfl⟩
    rw [rest_yes (by omega)]
    go_wp2_with fail
    refine (szIntS_M A2 n2 c2 (left - n1) m2 (by omega) (by omega) _).mono ?_
    rintro e' w' ⟨rfl, rfl⟩
    rw [rest_yes (by omega)]
    go_wp2_with fail
    refine (szTermSS_any A3 n3 c3 r.terms (left - n1 - n2) _ (Mem.rd_on_alloc h3 _) (by omega) (by omega)).mono ?_
    rintro e' w' ⟨rfl, rfl⟩
    rw [← HS.out, rest_no s3]
    go_wp2
    go_ret
    exact ⟨(congrArg (fun z => Ending.returned (.int .i64 z)) (rest_no (by have := e.out; omega))).symm, below_alloc _ _⟩
  · go_enter Try.func121, Try.ntmps121
    go_wp2_with fail
    refine (szTermS_M A1 n1 c1 left m1 g0 g1 _).mono ?_
    rintro e' w' ⟨rfl, rfl⟩
    rw [rest_yes (by omega)]
    go_wp2_with fail
    refine (szIntS_M A2 n2 c2 (left - n1) m2 (by omega) (by omega) _).mono ?_
    rintro e' w' ⟨rfl, rfl⟩
    rw [rest_yes (by omega)]
    go_wp2_with fail
    refine (szTermSS_any A3 n3 c3 r.terms (left - n1 - n2) _ (Mem.rd_on_alloc h3 _) (by omega) (by omega)).mono ?_
    rintro e' w' ⟨rfl, rfl⟩
    rw [← HS.out, rest_yes (by omega)]
    go_wp2
    go_ret
    exact ⟨congrArg (fun z => Ending.returned (.int .i64 z)) (by rw [rest_yes (by have := e.out; omega)]; have := e.out; omega), below_alloc _ _⟩

set_option maxHeartbeats 1000000 in
theorem szRuleS_any (A : Option Addr) (n c : Nat) (L : List Rl) (left : Int) (w : World) (h : Mem.rd w w.heap.size [.slice A n c] L) (h0 : 0 ≤ left) (h1 : left ≤ 1048576) :
    Calls Try.prog 90 #[.slice A n c, .int .i64 left] w (Left w left (szRls L)) := by
  have hm := rd_max h
  unfold maxLen at hm
  have hl := Lib.hid (rd_len h)
  have hT : ∃ T : Nat, Hid (T = szRls L) := ⟨_, Lib.hid rfl⟩
  obtain ⟨T, HT⟩ := hT
  rw [← HT.out]
  by_cases hs : left < n
  · have e : rest left T = -1 := rest_no (by rw [HT.out]; unfold szRls; have := hl.out; omega)
    go_enter Try.func90, Try.ntmps90
    go_wp2
    go_ret
    exact ⟨(congrArg (fun z => Ending.returned (.int .i64 z)) e).symm, Below.refl _ _⟩
  · go_enter Try.func90, Try.ntmps90
    go_wp2
    go_loopg [1, 5] n (fun m lf i wr => ∃ k x : Nat, k + m = n ∧ i = .int .i64 k ∧ lf = .int .i64 (left - n - x) ∧ Hid (x = sumTo (fun i => szRl (el L i)) k) ∧ n + x ≤ left ∧ Below w.heap.size w wr)
    case atStart => exact ⟨0, 0, by omega, rfl, by simp, Lib.hid rfl, by omega, Below.refl _ _⟩
    case round =>
      obtain ⟨k, x, hk, rfl, rfl, HX, hx, hb⟩ := hrel
      by_cases hlt : k < n
      · obtain ⟨ad, A1, n1, c1, A2, n2, c2, A3, n3, c3, rfl, _, h0, h1, h2, r1, r2, r3⟩ := rl_at (Mem.rd_below h hb) hlt
        have r1 := Mem.rd_more r1 hb.size
        have r2 := Mem.rd_more r2 hb.size
        have r3 := Mem.rd_more r3 hb.size
        have hX1 : x + szRl (el L k) = sumTo (fun i => szRl (el L i)) (k + 1) := by rw [HX.out]; rfl
        obtain ⟨y, hy⟩ : ∃ y : Nat, Hid (y = szRl (el L k)) := ⟨_, Lib.hid rfl⟩
        rw [← hy.out] at hX1
        have HX1 := Lib.hid hX1
        clear hX1
        by_cases hs1 : left - n - x < y
        · go_wp2_with fail
          refine (szRule_any (el L k) A1 n1 c1 A2 n2 c2 A3 n3 c3 (left - n - x) _ r1 r2 r3 (by omega) (by omega)).mono ?_
          rintro e w' ⟨rfl, b1⟩
          rw [← hy.out, rest_no hs1]
          go_wp2
          go_ret
          have : left < T := by
            have := sumTo_mono (f := fun i => szRl (el L i)) (show k + 1 ≤ n from hlt)
            rw [HT.out]; unfold szRls; rw [hl.out]; rw [← HX1.out] at this; omega
          exact ⟨(congrArg (fun z => Ending.returned (.int .i64 z)) (rest_no this)).symm, hb.trans (b1.mono hb.size)⟩
        · go_wp2_with fail
          refine (szRule_any (el L k) A1 n1 c1 A2 n2 c2 A3 n3 c3 (left - n - x) _ r1 r2 r3 (by omega) (by omega)).mono ?_
          rintro e w' ⟨rfl, b1⟩
          rw [← hy.out, rest_yes (by omega)]
          go_wp2
          go_roundg (n - (k + 1))
          case measure => omega
          case rel => exact ⟨k + 1, x + y, by omega, by go_num, by congr 1; omega, HX1, by omega, hb.trans (b1.mono hb.size)⟩
      · obtain rfl : k = n := by omega
        go_wp2
        go_ret
        have : T = k + x := by rw [HT.out, HX.out]; unfold szRls; rw [hl.out]
        exact ⟨congrArg (fun z => Ending.returned (.int .i64 z)) (by rw [rest_yes (by omega)]; omega), hb⟩

theorem szSystem_any (s : Sy) (A1 : Option Addr) (n1 c1 : Nat) (A2 : Option Addr) (n2 c2 : Nat) (left : Int) (w : World) (h1 : Mem.rd w w.heap.size [.slice A1 n1 c1] s.vars) (h2 : Mem.rd w w.heap.size [.slice A2 n2 c2] s.rules)
    (g0 : 0 ≤ left) (g1 : left ≤ 1048576) : Calls Try.prog 41 #[.agg #[.slice A1 n1 c1, .slice A2 n2 c2], .int .i64 left] w (Left w left (szSy s)) := by
  have m1 := rd_max h1
  have hT : ∃ T : Nat, Hid (T = szSy s) := ⟨_, Lib.hid rfl⟩
  obtain ⟨T, HT⟩ := hT
  have hS : ∃ S : Nat, Hid (S = szRls s.rules) := ⟨_, Lib.hid rfl⟩
  obtain ⟨S, HS⟩ := hS
  have e : Hid (T = n1 + S) := Lib.hid (by rw [HT.out, HS.out]; unfold szSy; rw [rd_len h1])
  rw [← HT.out]
  clear HT
  by_cases s1 : left < n1
  · go_enter Try.func41, Try.ntmps41
    go_wp2_with fail
    refine (szVarS_M A1 n1 c1 left m1 g0 g1 _).mono ?_
    rintro e' w' ⟨rfl, rfl⟩
    rw [rest_no s1]
    go_wp2
    go_ret
    exact ⟨(congrArg (fun z => Ending.returned (.int .i64 z)) (rest_no (by have := e.out; omega))).symm, below_alloc _ _⟩
  by_cases s2 : left - n1 < S
  · go_enter Try.func41, Try.ntmps41
    go_wp2_with fail
    refine (szVarS_M A1 n1 c1 left m1 g0 g1 _).mono ?_
    rintro e' w' ⟨rfl, rfl⟩
    rw [rest_yes (by omega)]
    go_wp2_with fail
    refine (szRuleS_any A2 n2 c2 s.rules (left - n1) _ (Mem.rd_on_alloc h2 _) (by omega) (by omega)).mono ?_
    rintro e' w' ⟨rfl, b1⟩
    rw [← HS.out, rest_no s2]
    go_wp2
    go_ret
    exact ⟨(congrArg (fun z => Ending.returned (.int .i64 z)) (rest_no (by have := e.out; omega))).symm, below_call b1⟩
  · go_enter Try.func41, Try.ntmps41
    go_wp2_with fail
    refine (szVarS_M A1 n1 c1 left m1 g0 g1 _).mono ?_
    rintro e' w' ⟨rfl, rfl⟩
    rw [rest_yes (by omega)]
    go_wp2_with fail
    refine (szRuleS_any A2 n2 c2 s.rules (left - n1) _ (Mem.rd_on_alloc h2 _) (by omega) (by omega)).mono ?_
    rintro e' w' ⟨rfl, b1⟩
    rw [← HS.out, rest_yes (by omega)]
    go_wp2
    go_ret
    exact ⟨congrArg (fun z => Ending.returned (.int .i64 z)) (by rw [rest_yes (by have := e.out; omega)]; have := e.out; omega), below_call b1⟩
end Go.Proofs.Ythlkbkomecnbaaa
namespace Go.Proofs.Ythlkbkomecnbaaa
open Go.RowKit

/-- The call gives this number, and of what was there only these blocks have changed. -/
def MarksL (w : World) (fp : List Nat) (x : Int) (e : Ending) (w' : World) : Prop := e = .returned (.int .i64 x) ∧ Only fp w w'

theorem nodup_cat {f : Nat → List Nat} : ∀ {n : Nat}, (cat f n).Nodup → ∀ k, k < n → (f k).Nodup ∧ ∀ b ∈ f k, b ∉ cat f k
  | 0, _, k, hk => absurd hk (by omega)
  | n + 1, h, k, hk => by
    rw [cat_succ, List.nodup_append] at h
    by_cases e : k = n
    · subst e; exact ⟨h.2.1, fun b hb hc => h.2.2 b hc b hb rfl⟩
    · exact nodup_cat h.1 k (by omega)

set_option maxHeartbeats 1000000 in
theorem markIntS_t (t : TypeId) (base : Nat) (A : Option Addr) (n c : Nat) (xs : List Value) (q : Int) (w : World) (hown : w.ownsRow base t 1 (.slice A n c) n xs) (hq : 0 ≤ q) (hq' : q ≤ 1000000000000) (hn : n ≤ 1000000000000) :
    Calls Try.prog 22 #[.slice A n c, .int .i64 q] w (fun e w' => e = .returned (.int .i64 (q + n)) ∧ w.grownBy w' (Value.slice A n c).ownBlock) := by
  go_enter Try.func22, Try.ntmps22
  go_wp2
  go_loopg [1, 5] n (fun m j i wr => ∃ (k : Nat) (xs : List Value), k + m = n ∧ i = .int .i64 k ∧ j = .int .i64 (q + k) ∧ wr.ownsRow base t 1 (.slice A n c) n xs ∧ w.grownBy wr (Value.slice A n c).ownBlock)
  case atStart => exact ⟨0, xs, by omega, rfl, by simp, hown, World.grownBy.refl _ _⟩
  case round =>
    clear hown
    obtain ⟨k, ys, hk, rfl, rfl, ho, hg⟩ := hrel
    by_cases hlt : k < n
    · rcases ho.2 with ⟨_, h0⟩ | ⟨g, cap, cur, hv, _⟩
      · omega
      injection hv with hA _ hc
      subst hA
      subst hc
      obtain ⟨u0, c0⟩ : ∃ u, wr.cell? ⟨g, k, none⟩ = some u := by
        rw [ho.cellAt k (by omega)]
        exact ⟨_, List.getElem?_eq_getElem (by rw [ho.1]; omega)⟩
      have f0 := ho.frozenAt k
      go_wp2
      go_roundg (n - (k + 1))
      case measure => omega
      case rel =>
        have s0 := ho.stored k (.int .i64 (q + k))
        exact ⟨k + 1, _, by omega, by go_num, by go_num, s0.1, grown_trans hg s0.2⟩
    · obtain rfl : k = n := by omega
      go_wp2
      go_ret
      exact ⟨rfl, hg⟩

section
variable {α : Type} [Mem α]
/-- An own slice is empty, or a row in the first of its blocks. -/
theorem own_row {w : World} {fp : List Nat} {A : Option Addr} {n c : Nat} {l : List α} (h : Mem.own w fp [.slice A n c] l) : n ≤ maxLen ∧ l.length = n ∧ (n = 0 ∨
    ∃ g t ecs fps, A = some ⟨g, 0, none⟩ ∧ w.ownsRow 0 t (Mem.size α) (.slice A n c) n (cat ecs n) ∧ fp = g :: cat fps n ∧ ∀ k, k < n → Mem.own w (fps k) (ecs k) (el l k)) := by
  obtain ⟨A', n', c', e, hm, hl, h⟩ := h
  injection e with e _
  injection e with e1 e2 e3
  subst e1; subst e2; subst e3
  refine ⟨hm, hl, ?_⟩
  rcases h with ⟨h0, _⟩ | h
  · exact .inl h0
  · exact .inr h
end

theorem markIntS_M (A : Option Addr) (n c : Nat) (l : List Int) (fp : List Nat) (q : Int) (w : World) (h : Mem.own w fp [.slice A n c] l) (hq : 0 ≤ q) (hq' : q ≤ 1000000000000) (hn : l.length ≤ 1048576) :
    Calls Try.prog 22 #[.slice A n c, .int .i64 q] w (MarksL w fp (q + l.length)) := by
  obtain ⟨_, hl, h0 | ⟨g, t, ecs, fps, rfl, ho, rfl, _⟩⟩ := own_row h
  · subst h0
    rw [hl]
    clear h hl
    go_enter Try.func22, Try.ntmps22
    go_wp2
    go_loopg [1, 5] 0 (fun m j i wr => i = .int .i64 0 ∧ j = .int .i64 q ∧ wr = w)
    case atStart => exact ⟨rfl, rfl, rfl⟩
    case round =>
      obtain ⟨rfl, rfl, rfl⟩ := hrel
      go_wp2
      go_ret
      exact ⟨by simp, Only.refl _ _⟩
  · refine (markIntS_t t 0 _ n c _ q w ho hq hq' (by omega)).mono ?_
    rintro e w' ⟨rfl, hg⟩
    exact ⟨by rw [hl], Only.of_grown hg fun k hk => by simp [Value.ownBlock] at hk; simp [hk]⟩

/-- How many marks. -/
def mkLL (L : List (List Tm)) : Nat := sumTo (fun i => 4 * (el L i).length) L.length
theorem sum_le {f g : Nat → Nat} {n : Nat} (h : ∀ k, k < n → f k ≤ g k) : sumTo f n ≤ sumTo g n := by
  induction n with
  | zero => exact Nat.le_refl _
  | succ n ih => have := ih fun k hk => h k (by omega); have := h n (by omega); show sumTo f n + f n ≤ sumTo g n + g n; omega
theorem sum_four {f : Nat → Nat} {n : Nat} : sumTo (fun i => 4 * f i) n = 4 * sumTo f n := by
  induction n with
  | zero => rfl
  | succ n ih => show sumTo (fun i => 4 * f i) n + 4 * f n = 4 * (sumTo f n + f n); omega
theorem mkLL_le (L : List (List Tm)) : mkLL L ≤ 4 * szLL L := by unfold mkLL szLL; rw [sum_four]; omega

end Go.Proofs.Ythlkbkomecnbaaa
namespace Go.Proofs.Ythlkbkomecnbaaa
open Go.RowKit

def mkRl (r : Rl) : Nat := 4 * r.cond.length + (r.sets.length + mkLL r.terms)
theorem mkRl_le (r : Rl) : mkRl r ≤ 4 * szRl r := by have := mkLL_le r.terms; unfold mkRl szRl; omega
def mkRls (L : List Rl) : Nat := sumTo (fun i => mkRl (el L i)) L.length
theorem mkRls_le (L : List Rl) : mkRls L ≤ 4 * szRls L := by
  have := sum_le (f := fun i => mkRl (el L i)) (g := fun i => 4 * szRl (el L i)) (n := L.length) fun k _ => mkRl_le _
  rw [sum_four] at this
  unfold mkRls szRls; omega

def mkSy (s : Sy) : Nat := 3 * s.vars.length + mkRls s.rules
end Go.Proofs.Ythlkbkomecnbaaa
