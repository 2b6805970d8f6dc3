/- Diagrams: DiagramValue, in the model and in the program. -/
import Derived.Test.YtfkdggiigomgkaaDgT
import Derived.Test.YtfkdggiigomgkaaDgK
namespace Go.Proofs.Ytfkdggiigomgkaa
open Go.RowKit

def arD (l : List Int) : Bool := l.all fun x => decide (x = 0) || decide (x = 1)
theorem arD_at {l : List Int} (h : arD l = true) {k : Nat} (hk : k < l.length) : ix l k = 0 ∨ ix l k = 1 := by
  rw [ix_lt hk]
  have := List.all_eq_true.1 h _ (List.getElem_mem hk)
  simpa using this
theorem areBits_D (A : Option Addr) (n c : Nat) (l : List Int) (w : World) (h : Mem.rd w w.heap.size [.slice A n c] l) :
    Calls Try.prog 60 #[.slice A n c] w (GivesBool w (arD l)) := by
  have L1 := Lib.hid (rd_len h)
  have hm := rd_max h
  unfold maxLen at hm
  have h' := (rd_ints.1 h).2
  go_enter Try.func60, Try.ntmps60
  go_wp2
  go_loopg [7] n (fun m i wr => ∃ k : Nat, k + m = n ∧ i = .int .i64 k ∧ Hid (∀ j, j < k → ix l j = 0 ∨ ix l j = 1) ∧ Below w.heap.size w wr)
  case atStart => exact ⟨0, by omega, rfl, Lib.hid (fun j hj => absurd hj (by omega)), Below.refl _ _⟩
  case round =>
    obtain ⟨k, hk, rfl, ha, hb⟩ := hrel
    by_cases hlt : k < n
    · obtain ⟨ad, rfl, hbl, d0⟩ := (h'.below hb).int hlt
      have kn : (k : Int) < n := by omega
      have HF : Hid (ix l k ≠ 0 → ix l k ≠ 1 → arD l = false) := Lib.hid (fun z0 z1 => by
        cases hz : arD l
        · rfl
        · have := arD_at hz (k := k) (by rw [L1.out]; exact hlt)
          omega)
      have HS : Hid (ix l k = 0 ∨ ix l k = 1 → ∀ j, j < k + 1 → ix l j = 0 ∨ ix l j = 1) := Lib.hid (fun hz j hj => by
        by_cases e : j = k
        · subst e; exact hz
        · exact ha.out j (by omega))
      generalize ix l k = x at *
      by_cases z0 : x = 0
      · subst z0
        go_wp2
        go_roundg (n - (k + 1))
        case measure => omega
        case rel => exact ⟨k + 1, by omega, by go_num, Lib.hid (HS.out (by simp)), hb⟩
      · by_cases z1 : x = 1
        · subst z1
          go_wp2
          go_roundg (n - (k + 1))
          case measure => omega
          case rel => exact ⟨k + 1, by omega, by go_num, Lib.hid (HS.out (by simp)), hb⟩
        · have n0 : (x != 0) = true := by simp [z0]
          have n1 : (x != 1) = true := by simp [z1]
          go_wp2
          go_ret
          exact ⟨(congrArg (fun b => Ending.returned (.bool b)) (HF.out z0 z1)).symm, hb⟩
    · obtain rfl : k = n := by omega
      have E : Hid (arD l = true) := Lib.hid (by
        unfold arD
        rw [List.all_eq_true]
        intro x hx
        obtain ⟨j, hj, rfl⟩ := List.getElem_of_mem hx
        have := ha.out j (by have := L1.out; omega)
        rw [ix_lt hj] at this
        simpa using this)
      go_wp2
      go_ret
      exact ⟨(congrArg (fun b => Ending.returned (.bool b)) E.out).symm, hb⟩
theorem l6Are_D (A : Option Addr) (n c : Nat) (l : List Int) (w : World) (h : Mem.rd w w.heap.size [.slice A n c] l) :
    Calls Try.prog 58 #[.slice A n c] w (GivesBool w (arD l)) := by
  have L1 := Lib.hid (rd_len h)
  have hm := rd_max h
  unfold maxLen at hm
  have h' := (rd_ints.1 h).2
  go_enter Try.func58, Try.ntmps58
  go_wp2
  go_loopg [3] n (fun m i wr => ∃ k : Nat, k + m = n ∧ i = .int .i64 k ∧ Hid (∀ j, j < k → ix l j = 0 ∨ ix l j = 1) ∧ Below w.heap.size w wr)
  case atStart => exact ⟨0, by omega, rfl, Lib.hid (fun j hj => absurd hj (by omega)), Below.refl _ _⟩
  case round =>
    obtain ⟨k, hk, rfl, ha, hb⟩ := hrel
    by_cases hlt : k < n
    · obtain ⟨ad, rfl, hbl, d0⟩ := (h'.below hb).int hlt
      have kn : (k : Int) < n := by omega
      have HF : Hid (ix l k ≠ 0 → ix l k ≠ 1 → arD l = false) := Lib.hid (fun z0 z1 => by
        cases hz : arD l
        · rfl
        · have := arD_at hz (k := k) (by rw [L1.out]; exact hlt)
          omega)
      have HS : Hid (ix l k = 0 ∨ ix l k = 1 → ∀ j, j < k + 1 → ix l j = 0 ∨ ix l j = 1) := Lib.hid (fun hz j hj => by
        by_cases e : j = k
        · subst e; exact hz
        · exact ha.out j (by omega))
      generalize ix l k = x at *
      by_cases z : 0 ≤ x ∧ x ≤ 1
      · have hs := Lib.hid (HS.out (by omega))
        go_wp2_with (first | (go_at_call 43; refine (l1In_yes z _).mono ?_; rintro e w3 ⟨rfl, rfl⟩))
        go_roundg (n - (k + 1))
        case measure => omega
        case rel => exact ⟨k + 1, by omega, by go_num, hs, hb⟩
      · have hf := Lib.hid (HF.out (by omega) (by omega))
        go_wp2_with (first | (go_at_call 43; refine (l1In_no (by omega) _).mono ?_; rintro e w3 ⟨rfl, rfl⟩))
        go_ret
        exact ⟨(congrArg (fun b => Ending.returned (.bool b)) hf.out).symm, hb⟩
    · obtain rfl : k = n := by omega
      have E : Hid (arD l = true) := Lib.hid (by
        unfold arD
        rw [List.all_eq_true]
        intro x hx
        obtain ⟨j, hj, rfl⟩ := List.getElem_of_mem hx
        have := ha.out j (by have := L1.out; omega)
        rw [ix_lt hj] at this
        simpa using this)
      go_wp2
      go_ret
      exact ⟨(congrArg (fun b => Ending.returned (.bool b)) E.out).symm, hb⟩

theorem rd_newD1 (W : World) (a : Int) : Mem.rd (W.alloc (.cells #[.int .i64 a] 3)) (W.alloc (.cells #[.int .i64 a] 3)).heap.size [.slice (some ⟨W.heap.size, 0, none⟩) 1 1] [a] :=
  rd_ints.2 ⟨by unfold maxLen; omega, Rd.of_own (World.ownsRow_lit (base := 0) (e := 3) (size := 1) W #[.int .i64 a] 1 (Nat.zero_le _) (by unfold maxLen; omega) rfl)⟩
theorem rd_newD2 (W : World) (a b : Int) : Mem.rd (W.alloc (.cells #[.int .i64 a, .int .i64 b] 3)) (W.alloc (.cells #[.int .i64 a, .int .i64 b] 3)).heap.size [.slice (some ⟨W.heap.size, 0, none⟩) 2 2] [a, b] :=
  rd_ints.2 ⟨by unfold maxLen; omega, Rd.of_own (World.ownsRow_lit (base := 0) (e := 3) (size := 1) W #[.int .i64 a, .int .i64 b] 2 (Nat.zero_le _) (by unfold maxLen; omega) rfl)⟩

/-- Where one goes from a fork, by its bit. -/
def nextP (d : Dg) (bits : List Int) (n : Int) : Int := if ix bits (fkA d n).v.toNat = 1 then (fkA d n).hi else (fkA d n).lo
def goP (d : Dg) (bits : List Int) : Nat → Int → Int
  | 0, n => n
  | k + 1, n => if n < 2 then n else goP d bits k (nextP d bits n)
theorem nextP_ok {d : Dg} (ok : d.Ok) (bits : List Int) {n : Int} (hn : isP d n = true) (h2 : 2 ≤ n) : isP d (nextP d bits n) = true ∧ nextP d bits n < n := by
  have hp := isP_iff.1 hn
  have F := ok.fit h2 hp.2
  have := F.l1
  have := F.h1
  unfold nextP
  split
  · exact ⟨F.high (by omega), by omega⟩
  · exact ⟨F.low (by omega), by omega⟩
theorem goP_fuel {d : Dg} (ok : d.Ok) (bits : List Int) : ∀ {k m : Nat} {n : Int}, isP d n = true → n < k + 2 → n < m + 2 → goP d bits k n = goP d bits m n
  | 0, 0, n, _, _, _ => rfl
  | 0, m + 1, n, _, hk, _ => by unfold goP; rw [if_pos (by omega)]
  | k + 1, 0, n, _, _, hm => by unfold goP; rw [if_pos (by omega)]
  | k + 1, m + 1, n, hn, hk, hm => by
    unfold goP
    by_cases h2 : n < 2
    · rw [if_pos h2, if_pos h2]
    · rw [if_neg h2, if_neg h2]
      have := nextP_ok ok bits hn (by omega)
      exact goP_fuel ok bits this.1 (by omega) (by omega)
def valP (d : Dg) (bits : List Int) (n : Int) : Int := goP d bits 3000 n
theorem valP_end {d : Dg} {bits : List Int} {n : Int} (h : n < 2) : valP d bits n = n := if_pos h
theorem valP_next {d : Dg} (ok : d.Ok) (bits : List Int) {n : Int} (hn : isP d n = true) (h2 : 2 ≤ n) : valP d bits n = valP d bits (nextP d bits n) := by
  have hp := isP_iff.1 hn
  have few := ok.few
  have := nextP_ok ok bits hn h2
  show (if n < 2 then n else goP d bits 2999 (nextP d bits n)) = _
  rw [if_neg (by omega)]
  exact goP_fuel ok bits this.1 (by omega) (by omega)
noncomputable def dgValueB (d : Dg) (n : Int) (bits : List Int) : Int := if (dgB d && isP d n && decide ((bits.length : Int) = d.vars) && arD bits) = true then valP d bits n else -1

set_option maxRecDepth 100000 in
set_option maxHeartbeats 2000000 in
theorem l8Value_any (d : Dg) (n0 : Int) (bits : List Int) (A : Option Addr) (c : Nat) (A2 : Option Addr) (n2 c2 : Nat) (w : World) (h1 : Mem.rd w w.heap.size [.slice A d.forks.length c] d.forks) (h2 : Mem.rd w w.heap.size [.slice A2 n2 c2] bits) (ok : d.Ok) (hp : isP d n0 = true) (hb : (bits.length : Int) = d.vars) :
    Calls Try.prog 59 #[.agg #[.int .i64 d.vars, .slice A d.forks.length c], .int .i64 n0, .slice A2 n2 c2] w (GivesInt w (valP d bits n0)) := by
  have l2 := rd_len h2
  have few := ok.few
  have h2' := (rd_ints.1 h2).2
  have BX := Lib.hid (ci_box (w := w) (v1 := .int .i64 d.vars) (v2 := .slice A d.forks.length c) (t := 29))
  have VN := Lib.hid (fun n (hn : isP d n = true) (h2 : 2 ≤ n) => valP_next ok bits hn h2)
  have VE := Lib.hid (fun n (h : n < 2) => valP_end (d := d) (bits := bits) h)
  have NX := Lib.hid (fun n (hn : isP d n = true) (h2 : 2 ≤ n) => nextP_ok ok bits hn h2)
  have FT := Lib.hid (fun n (hn : isP d n = true) (h2 : 2 ≤ n) => ok.fit h2 (isP_iff.1 hn).2)
  have NE := Lib.hid (show ∀ n, nextP d bits n = if ix bits (fkA d n).v.toNat = 1 then (fkA d n).hi else (fkA d n).lo from fun _ => rfl)
  have PI := Lib.hid (fun n (hn : isP d n = true) => isP_iff.1 hn)
  generalize hV : valP d bits n0 = V at *
  have HV0 := Lib.hid hV
  have HP0 := Lib.hid hp
  have n00 : 0 ≤ n0 := (isP_iff.1 hp).1
  clear hV hp ok
  have HB := Lib.hid hb
  have L2 := Lib.hid l2
  clear hb l2
  go_enter Try.func59, Try.ntmps59
  go_wp2_with fail
  go_loopg [1] n0.toNat (fun r i wr => ∃ n : Int, (r : Int) = n ∧ i = .int .i64 n ∧ Hid (isP d n = true) ∧ Hid (valP d bits n = V) ∧ Below (w.alloc (.cells #[.int .i64 d.vars, .slice A d.forks.length c] 29)).heap.size (w.alloc (.cells #[.int .i64 d.vars, .slice A d.forks.length c] 29)) wr)
  case atStart => exact ⟨n0, by omega, rfl, HP0, HV0, Below.refl _ _⟩
  case round =>
    obtain ⟨n, hr, rfl, HP, HV, hb⟩ := hrel
    obtain ⟨B, x0, x1⟩ := BX.out _ hb
    by_cases g2 : 2 ≤ n
    · obtain ⟨k, rfl⟩ : ∃ k : Nat, n = 2 + k := ⟨(n - 2).toNat, by omega⟩
      have hk : k < d.forks.length := by have := PI.out _ HP.out; omega
      obtain ⟨ad, rfl, hbl, d0, d1, d2⟩ := fk_at (Mem.rd_below h1 B) hk
      have hbl' : (ad.add (k * 3)).block < wr.heap.size := by rw [add_block]; have := B.size; omega
      have w1 : IntKind.i64.wrap (2 + (k : Int) - 2) = (k : Int) := by rw [show 2 + (k : Int) - 2 = k by omega]; exact IntWalk.i64_in _ (by omega)
      have ef : fkA d (2 + (k : Int)) = el d.forks k := by unfold fkA; rw [show (2 + (k : Int) - 2).toNat = k by omega]
      have F := FT.out _ HP.out g2
      have HNX := Lib.hid (NX.out _ HP.out g2)
      have HVN := Lib.hid ((VN.out _ HP.out g2).symm.trans HV.out)
      have HNE := Lib.hid (NE.out (2 + (k : Int)))
      rw [ef] at F HNE
      have f0 := F.v0
      have f1 := F.v1
      have f2 := F.l0
      have f3 := F.h0
      generalize nextP d bits (2 + (k : Int)) = NP at *
      generalize el d.forks k = G at *
      obtain ⟨ga, gb, gc⟩ := G
      dsimp only at *
      clear F ef
      obtain ⟨q, rfl⟩ : ∃ q : Nat, ga = q := ⟨ga.toNat, by omega⟩
      have hq : q < n2 := by have := HB.out; have := L2.out; omega
      obtain ⟨ad2, rfl, hbl2, e0⟩ := (h2'.below B).int hq
      rw [show ((q : Int)).toNat = q by omega] at HNE
      have hbl2' : (ad2.add q).block < wr.heap.size := by rw [add_block]; have := B.size; omega
      have qn : (q : Int) < n2 := by omega
      have g3 : (1 : Int) < 2 + k := by omega
      have kn : (k : Int) < d.forks.length := by omega
      by_cases g4 : ix bits q = 1
      · have HN1 : Hid (NP = gc) := Lib.hid (by rw [HNE.out, if_pos g4])
        have g5 : (ix bits q == 1) = true := by simp [g4]
        generalize ix bits q = bb at *
        clear g4
        go_wp2
        go_roundg NP.toNat
        case measure => have := HNX.out.2; have := PI.out _ HNX.out.1; omega
        case rel =>
          have := PI.out _ HNX.out.1
          exact ⟨NP, by omega, by rw [HN1.out], Lib.hid HNX.out.1, HVN, hb.alloc hb.size _⟩
      · have HN1 : Hid (NP = gb) := Lib.hid (by rw [HNE.out, if_neg g4])
        have g5 : (ix bits q == 1) = false := by simp [g4]
        generalize ix bits q = bb at *
        clear g4
        go_wp2
        go_roundg NP.toNat
        case measure => have := HNX.out.2; have := PI.out _ HNX.out.1; omega
        case rel =>
          have := PI.out _ HNX.out.1
          exact ⟨NP, by omega, by rw [HN1.out], Lib.hid HNX.out.1, HVN, hb.alloc hb.size _⟩
    · have HE : Hid (V = n) := Lib.hid (by rw [← HV.out, VE.out n (by omega)])
      have g3 : ¬ (1 : Int) < n := by omega
      go_wp2
      go_ret
      exact ⟨congrArg (fun z => Ending.returned (.int .i64 z)) HE.out.symm, B⟩

set_option maxRecDepth 100000 in
set_option maxHeartbeats 2000000 in
theorem dgValue_spec (d : Dg) (n : Int) (bits : List Int) (A : Option Addr) (n1 c : Nat) (A2 : Option Addr) (n2 c2 : Nat) (w : World) (h1 : Mem.rd w w.heap.size [.slice A n1 c] d.forks) (h2 : Mem.rd w w.heap.size [.slice A2 n2 c2] bits) :
    Calls Try.prog 22 #[.agg #[.int .i64 d.vars, .slice A n1 c], .int .i64 n, .slice A2 n2 c2] w (GivesInt w (dgValueB d n bits)) := by
  obtain rfl : d.forks.length = n1 := rd_len h1
  have l2 := rd_len h2
  have m2 := rd_max h2
  unfold maxLen at m2
  have BX := Lib.hid (ci_box (w := w) (v1 := .int .i64 d.vars) (v2 := .slice A d.forks.length c) (t := 29))
  have CK := Lib.hid (fun W (B : Below w.heap.size w W) => dgValid_spec d A d.forks.length c W (Mem.rd_on h1 B))
  cases k1 : dgB d
  · rw [k1] at CK
    have HR := Lib.hid (show dgValueB d n bits = -1 from if_neg (by rw [k1]; simp))
    generalize dgValueB d n bits = R at *
    obtain ⟨v, fs⟩ := d
    dsimp only at *
    clear h1 h2 k1
    go_enter Try.func22, Try.ntmps22
    go_wp2_with fail
    refine (CK.out _ (below_alloc _ _)).mono ?_
    rintro e w1 ⟨rfl, b1⟩
    obtain ⟨B1, x0, x1⟩ := BX.out _ b1
    go_wp2
    go_ret
    exact ⟨(congrArg (fun z => Ending.returned (.int .i64 z)) HR.out).symm, B1⟩
  · rw [k1] at CK
    have ok := dgB_iff.1 k1
    have few := ok.few
    have LP := Lib.hid (fun W => l8Place_any d A c n W (by omega))
    cases q1 : isP d n
    · rw [q1] at LP
      have HR := Lib.hid (show dgValueB d n bits = -1 from if_neg (by rw [k1, q1]; simp))
      generalize dgValueB d n bits = R at *
      obtain ⟨v, fs⟩ := d
      dsimp only at *
      clear h1 h2 k1 q1 ok
      go_enter Try.func22, Try.ntmps22
      go_wp2_with fail
      refine (CK.out _ (below_alloc _ _)).mono ?_
      rintro e w1 ⟨rfl, b1⟩
      obtain ⟨B1, x0, x1⟩ := BX.out _ b1
      go_wp2_with fail
      refine (LP.out _).mono ?_
      rintro e w2 ⟨rfl, c2⟩
      have b2 := b1.trans (c2.mono b1.size)
      obtain ⟨B2, x0, x1⟩ := BX.out _ b2
      go_wp2
      go_ret
      exact ⟨(congrArg (fun z => Ending.returned (.int .i64 z)) HR.out).symm, B2⟩
    · rw [q1] at LP
      by_cases q2 : (bits.length : Int) = d.vars
      · have LA := Lib.hid (fun W (B : Below w.heap.size w W) => l6Are_D A2 n2 c2 bits W (Mem.rd_on h2 B))
        have g2 : ((n2 : Int) != d.vars) = false := by simp; omega
        cases q3 : arD bits
        · rw [q3] at LA
          have HR := Lib.hid (show dgValueB d n bits = -1 from if_neg (by rw [q3]; simp))
          generalize dgValueB d n bits = R at *
          obtain ⟨v, fs⟩ := d
          dsimp only at *
          clear h1 h2 k1 q1 ok q3
          go_enter Try.func22, Try.ntmps22
          go_wp2_with fail
          refine (CK.out _ (below_alloc _ _)).mono ?_
          rintro e w1 ⟨rfl, b1⟩
          obtain ⟨B1, x0, x1⟩ := BX.out _ b1
          go_wp2_with fail
          refine (LP.out _).mono ?_
          rintro e w2 ⟨rfl, c2⟩
          have b2 := b1.trans (c2.mono b1.size)
          obtain ⟨B2, x0, x1⟩ := BX.out _ b2
          go_wp2_with fail
          refine (LA.out _ B2).mono ?_
          rintro e w3 ⟨rfl, c3⟩
          have b3 := b2.trans (c3.mono b2.size)
          obtain ⟨B3, x0, x1⟩ := BX.out _ b3
          go_wp2
          go_ret
          exact ⟨(congrArg (fun z => Ending.returned (.int .i64 z)) HR.out).symm, B3⟩
        · rw [q3] at LA
          have LV := Lib.hid (fun W (B : Below w.heap.size w W) => l8Value_any d n bits A c A2 n2 c2 W (Mem.rd_on h1 B) (Mem.rd_on h2 B) ok q1 q2)
          have HR := Lib.hid (show dgValueB d n bits = valP d bits n from if_pos (by rw [k1, q1, q3, decide_eq_true q2]; rfl))
          generalize dgValueB d n bits = R at *
          obtain ⟨v, fs⟩ := d
          dsimp only at *
          clear h1 h2 k1 q1 ok q3 q2 l2
          go_enter Try.func22, Try.ntmps22
          go_wp2_with fail
          refine (CK.out _ (below_alloc _ _)).mono ?_
          rintro e w1 ⟨rfl, b1⟩
          obtain ⟨B1, x0, x1⟩ := BX.out _ b1
          go_wp2_with fail
          refine (LP.out _).mono ?_
          rintro e w2 ⟨rfl, c2⟩
          have b2 := b1.trans (c2.mono b1.size)
          obtain ⟨B2, x0, x1⟩ := BX.out _ b2
          go_wp2_with fail
          refine (LA.out _ B2).mono ?_
          rintro e w3 ⟨rfl, c3⟩
          have b3 := b2.trans (c3.mono b2.size)
          obtain ⟨B3, x0, x1⟩ := BX.out _ b3
          go_wp2_with fail
          refine (LV.out _ B3).mono ?_
          rintro e w4 ⟨rfl, c4⟩
          have b4 := b3.trans (c4.mono b3.size)
          obtain ⟨B4, x0, x1⟩ := BX.out _ b4
          go_wp2
          go_ret
          exact ⟨(congrArg (fun z => Ending.returned (.int .i64 z)) HR.out).symm, B4⟩
      · have g2 : ((n2 : Int) != d.vars) = true := by simp; omega
        have HR := Lib.hid (show dgValueB d n bits = -1 from if_neg (by rw [decide_eq_false q2]; simp))
        generalize dgValueB d n bits = R at *
        obtain ⟨v, fs⟩ := d
        dsimp only at *
        clear h1 h2 k1 q1 ok q2 l2
        go_enter Try.func22, Try.ntmps22
        go_wp2_with fail
        refine (CK.out _ (below_alloc _ _)).mono ?_
        rintro e w1 ⟨rfl, b1⟩
        obtain ⟨B1, x0, x1⟩ := BX.out _ b1
        go_wp2_with fail
        refine (LP.out _).mono ?_
        rintro e w2 ⟨rfl, c2⟩
        have b2 := b1.trans (c2.mono b1.size)
        obtain ⟨B2, x0, x1⟩ := BX.out _ b2
        go_wp2
        go_ret
        exact ⟨(congrArg (fun z => Ending.returned (.int .i64 z)) HR.out).symm, B2⟩

set_option maxRecDepth 100000 in
set_option maxHeartbeats 2000000 in
theorem dgValue_impl (d : Dg) (n : Int) (bits : List Int) (A : Option Addr) (n1 c : Nat) (A2 : Option Addr) (n2 c2 : Nat) (w : World) (h1 : Mem.rd w w.heap.size [.slice A n1 c] d.forks) (h2 : Mem.rd w w.heap.size [.slice A2 n2 c2] bits) :
    Calls Try.prog 24 #[.agg #[.int .i64 d.vars, .slice A n1 c], .int .i64 n, .slice A2 n2 c2] w (GivesInt w (dgValueB d n bits)) := by
  obtain rfl : d.forks.length = n1 := rd_len h1
  have l2 := rd_len h2
  have m2 := rd_max h2
  unfold maxLen at m2
  have BX := Lib.hid (ci_box (w := w) (v1 := .int .i64 d.vars) (v2 := .slice A d.forks.length c) (t := 29))
  have HP := Lib.hid (fun W (B : Below w.heap.size w W) => hasPlaces_any d [n] A d.forks.length c (some ⟨W.heap.size, 0, none⟩) 1 1 (W.alloc (.cells #[.int .i64 n] 3)) (Mem.rd_on_alloc (Mem.rd_on h1 B) _) (rd_newD1 W n))
  have eP : (dgB d && areP d [n]) = (dgB d && isP d n) := by simp [areP]
  rw [eP] at HP
  cases k1 : (dgB d && isP d n)
  · rw [k1] at HP
    have HR := Lib.hid (show dgValueB d n bits = -1 from if_neg (by rw [k1]; simp))
    generalize dgValueB d n bits = R at *
    obtain ⟨v, fs⟩ := d
    dsimp only at *
    clear h1 h2 k1 eP
    have MK0 := HP.out (w.alloc (.cells #[.int .i64 v, .slice A fs.length c] 29)) (below_alloc _ _)
    simp only [World.size_alloc] at MK0
    go_enter Try.func24, Try.ntmps24
    go_wp2_with fail
    refine MK0.mono ?_
    rintro e w1 ⟨rfl, b1'⟩
    have b1 := below_call b1'
    obtain ⟨B1, x0, x1⟩ := BX.out _ b1
    go_wp2
    go_ret
    exact ⟨(congrArg (fun z => Ending.returned (.int .i64 z)) HR.out).symm, B1⟩
  · rw [k1] at HP
    have k2 := k1
    rw [Bool.and_eq_true] at k2
    have ok := dgB_iff.1 k2.1
    have few := ok.few
    by_cases q2 : (bits.length : Int) = d.vars
    · have LA := Lib.hid (fun W (B : Below w.heap.size w W) => areBits_D A2 n2 c2 bits W (Mem.rd_on h2 B))
      have g2 : ((n2 : Int) != d.vars) = false := by simp; omega
      cases q3 : arD bits
      · rw [q3] at LA
        have HR := Lib.hid (show dgValueB d n bits = -1 from if_neg (by rw [q3]; simp))
        generalize dgValueB d n bits = R at *
        obtain ⟨v, fs⟩ := d
        dsimp only at *
        clear h1 h2 k1 k2 eP ok q3
        have MK0 := HP.out (w.alloc (.cells #[.int .i64 v, .slice A fs.length c] 29)) (below_alloc _ _)
        simp only [World.size_alloc] at MK0
        go_enter Try.func24, Try.ntmps24
        go_wp2_with fail
        refine MK0.mono ?_
        rintro e w1 ⟨rfl, b1'⟩
        have b1 := below_call b1'
        obtain ⟨B1, x0, x1⟩ := BX.out _ b1
        go_wp2_with fail
        refine (LA.out _ B1).mono ?_
        rintro e w3 ⟨rfl, c3⟩
        have b3 := b1.trans (c3.mono b1.size)
        obtain ⟨B3, x0, x1⟩ := BX.out _ b3
        go_wp2
        go_ret
        exact ⟨(congrArg (fun z => Ending.returned (.int .i64 z)) HR.out).symm, B3⟩
      · rw [q3] at LA
        have hp := k2.2
        have h2' := (rd_ints.1 h2).2
        have VN := Lib.hid (fun n (hn : isP d n = true) (h2 : 2 ≤ n) => valP_next ok bits hn h2)
        have VE := Lib.hid (fun n (h : n < 2) => valP_end (d := d) (bits := bits) h)
        have NX := Lib.hid (fun n (hn : isP d n = true) (h2 : 2 ≤ n) => nextP_ok ok bits hn h2)
        have FT := Lib.hid (fun n (hn : isP d n = true) (h2 : 2 ≤ n) => ok.fit h2 (isP_iff.1 hn).2)
        have NE := Lib.hid (show ∀ n, nextP d bits n = if ix bits (fkA d n).v.toNat = 1 then (fkA d n).hi else (fkA d n).lo from fun _ => rfl)
        have PI := Lib.hid (fun n (hn : isP d n = true) => isP_iff.1 hn)
        have FO := Lib.hid (fun n W (B : Below w.heap.size w W) (h2 : 2 ≤ n) (hn : isP d n = true) => fork_any d A d.forks.length c n W (Mem.rd_on h1 B) (by omega) h2 (isP_iff.1 hn).2)
        have HR := Lib.hid (show dgValueB d n bits = valP d bits n from if_pos (by rw [k1, q3, decide_eq_true q2]; rfl))
        generalize dgValueB d n bits = R at *
        have n00 : 0 ≤ n := (isP_iff.1 hp).1
        have HP0 := Lib.hid hp
        have HB := Lib.hid q2
        have L2 := Lib.hid l2
        clear k1 k2 eP ok q3 hp q2 l2 h1
        have MK0 := HP.out (w.alloc (.cells #[.int .i64 d.vars, .slice A d.forks.length c] 29)) (below_alloc _ _)
        simp only [World.size_alloc] at MK0
        go_enter Try.func24, Try.ntmps24
        go_wp2_with fail
        refine MK0.mono ?_
        rintro e w1 ⟨rfl, b1'⟩
        have b1 := below_call b1'
        obtain ⟨B1, x0, x1⟩ := BX.out _ b1
        go_wp2_with fail
        refine (LA.out _ B1).mono ?_
        rintro e w3 ⟨rfl, c3⟩
        have b3 := b1.trans (c3.mono b1.size)
        obtain ⟨B3, x0, x1⟩ := BX.out _ b3
        go_wp2_with fail
        go_loopg [1] n.toNat (fun r i wr => ∃ m : Int, (r : Int) = m ∧ i = .int .i64 m ∧ Hid (isP d m = true) ∧ Hid (valP d bits m = R) ∧ Below (w.alloc (.cells #[.int .i64 d.vars, .slice A d.forks.length c] 29)).heap.size (w.alloc (.cells #[.int .i64 d.vars, .slice A d.forks.length c] 29)) wr)
        case atStart => exact ⟨n, by omega, rfl, HP0, Lib.hid HR.out.symm, b3⟩
        case round =>
          clear x0 x1 b1 b3 B1 B3 b1' c3
          obtain ⟨m, hr, rfl, HPm, HVm, hb⟩ := hrel
          obtain ⟨B, x0, x1⟩ := BX.out _ hb
          by_cases g2 : 2 ≤ m
          · have FK := Lib.hid (FO.out m wr B g2 HPm.out)
            have F := FT.out _ HPm.out g2
            have HNX := Lib.hid (NX.out _ HPm.out g2)
            have HVN := Lib.hid ((VN.out _ HPm.out g2).symm.trans HVm.out)
            have HNE := Lib.hid (NE.out m)
            have f0 := F.v0
            have f1 := F.v1
            generalize nextP d bits m = NP at *
            generalize fkA d m = G at *
            obtain ⟨ga, gb, gc⟩ := G
            dsimp only [Fk.u] at *
            clear F
            obtain ⟨q, rfl⟩ : ∃ q : Nat, ga = q := ⟨ga.toNat, by omega⟩
            have hq : q < n2 := by have := HB.out; have := L2.out; omega
            rw [show ((q : Int)).toNat = q by omega] at HNE
            have qn : (q : Int) < n2 := by omega
            go_wp2_with fail
            refine FK.out.mono ?_
            rintro e w4 ⟨rfl, c4⟩
            have b4 := hb.trans (c4.mono hb.size)
            obtain ⟨B4, x0, x1⟩ := BX.out _ b4
            obtain ⟨ad2, hA2, hbl2, e0⟩ := (h2'.below B4).int hq
            subst hA2
            have hbl2' : (ad2.add q).block < w4.heap.size := by rw [add_block]; have := B4.size; omega
            have TO := Lib.hid (fun W => to_any ⟨q, gb, gc⟩ (ix bits q) W)
            rw [← HNE.out] at TO
            dsimp only [Fk.u] at TO
            generalize ix bits q = bb at *
            go_wp2
            have SZ4 : w4.heap.size < (w4.alloc (.cells #[.int .i64 q, .int .i64 gb, .int .i64 gc] 52)).heap.size := by simp
            go_region_held3 (fun w' => w'.cell? ⟨w4.heap.size, 0, none⟩ = some (.int .i64 q) ∧ w'.cell? ⟨w4.heap.size, 1, none⟩ = some (.int .i64 gb) ∧ w'.cell? ⟨w4.heap.size, 2, none⟩ = some (.int .i64 gc) ∧ w'.cell? (ad2.add q) = some (.int .i64 bb)) (go_keep)
              (first
                | (go_at_call 62; refine (TO.out _).mono ?_; rintro e w5 ⟨rfl, c5⟩
                   have kb5 := (ci_blk w4 #[.int .i64 q, .int .i64 gb, .int .i64 gc] 52).below (⟨c5.os, c5.tape, c5.output, c5.size, c5.block⟩ : Below (w4.alloc (.cells #[.int .i64 q, .int .i64 gb, .int .i64 gc] 52)).heap.size (w4.alloc (.cells #[.int .i64 q, .int .i64 gb, .int .i64 gc] 52)) w5) SZ4
                   have y0 := kb5.cell 0
                   have y1 := kb5.cell 1
                   have y2 := kb5.cell 2
                   have b45 : Below w4.heap.size w4 w5 := below_call (⟨c5.os, c5.tape, c5.output, c5.size, c5.block⟩ : Below (w4.alloc (.cells #[.int .i64 q, .int .i64 gb, .int .i64 gc] 52)).heap.size (w4.alloc (.cells #[.int .i64 q, .int .i64 gb, .int .i64 gc] 52)) w5)
                   have e5 := cell_below b45 (p := ad2.add q) hbl2' e0
                   simp only [List.getElem?_cons_zero, List.getElem?_cons_succ] at y0 y1 y2))
            all_goals
              go_wp2
              go_roundg NP.toNat
              case measure => have := HNX.out.2; have := PI.out _ HNX.out.1; omega
              case rel =>
                have := PI.out _ HNX.out.1
                exact ⟨NP, by omega, rfl, Lib.hid HNX.out.1, HVN, b4.trans (b45.mono b4.size)⟩
          · have HE : Hid (R = m) := Lib.hid (by rw [← HVm.out, VE.out m (by omega)])
            go_wp2
            go_ret
            exact ⟨congrArg (fun z => Ending.returned (.int .i64 z)) HE.out.symm, B⟩
    · have g2 : ((n2 : Int) != d.vars) = true := by simp; omega
      have HR := Lib.hid (show dgValueB d n bits = -1 from if_neg (by rw [decide_eq_false q2]; simp))
      generalize dgValueB d n bits = R at *
      obtain ⟨v, fs⟩ := d
      dsimp only at *
      clear h1 h2 k1 k2 eP ok q2 l2
      have MK0 := HP.out (w.alloc (.cells #[.int .i64 v, .slice A fs.length c] 29)) (below_alloc _ _)
      simp only [World.size_alloc] at MK0
      go_enter Try.func24, Try.ntmps24
      go_wp2_with fail
      refine MK0.mono ?_
      rintro e w1 ⟨rfl, b1'⟩
      have b1 := below_call b1'
      obtain ⟨B1, x0, x1⟩ := BX.out _ b1
      go_wp2
      go_ret
      exact ⟨(congrArg (fun z => Ending.returned (.int .i64 z)) HR.out).symm, B1⟩
end Go.Proofs.Ytfkdggiigomgkaa
