/- Diagrams: DiagramValue, in the model and in the program. -/
import Derived.Test.YtnhjcokmajejcaaDoorDgT
import Derived.Test.YtnhjcokmajejcaaDoorDgK
namespace Go.Proofs.YtnhjcokmajejcaaDoor
open Go.RowKit
set_option maxRecDepth 100000

def arD (l : List Int) : Bool := l.all fun x => decide (x = 0) || decide (x = 1)
theorem arD_at {l : List Int} (h : arD l = true) {k : Nat} (hk : k < l.length) : ix l k = 0 ∨ ix l k = 1 := by
  rw [ix_lt hk]
  have := List.all_eq_true.1 h _ (List.getElem_mem hk)
  simpa using this
theorem rd_newD1 (W : World) (a : Int) : Mem.rd (W.alloc (.cells #[.int .i64 a] 3)) (W.alloc (.cells #[.int .i64 a] 3)).heap.size [.slice (some ⟨W.heap.size, 0, none⟩) 1 1] [a] :=
  rd_ints.2 ⟨by unfold maxLen; omega, Rd.of_own (World.ownsRow_lit (base := 0) (e := 3) (size := 1) W #[.int .i64 a] 1 (Nat.zero_le _) (by unfold maxLen; omega) rfl)⟩
theorem rd_newD2 (W : World) (a b : Int) : Mem.rd (W.alloc (.cells #[.int .i64 a, .int .i64 b] 3)) (W.alloc (.cells #[.int .i64 a, .int .i64 b] 3)).heap.size [.slice (some ⟨W.heap.size, 0, none⟩) 2 2] [a, b] :=
  rd_ints.2 ⟨by unfold maxLen; omega, Rd.of_own (World.ownsRow_lit (base := 0) (e := 3) (size := 1) W #[.int .i64 a, .int .i64 b] 2 (Nat.zero_le _) (by unfold maxLen; omega) rfl)⟩

/-- Where one goes from a fork, by its bit. -/
def nextP (d : Dg) (bits : List Int) (n : Int) : Int := if ix bits (fkA d n).v.toNat = 1 then (fkA d n).hi else (fkA d n).lo
def goP (d : Dg) (bits : List Int) : Nat → Int → Int
  | 0, n => n
  | k + 1, n => if n < 2 then n else goP d bits k (nextP d bits n)
theorem nextP_ok {d : Dg} (ok : d.Ok) (bits : List Int) {n : Int} (hn : isP d n = true) (h2 : 2 ≤ n) : isP d (nextP d bits n) = true ∧ nextP d bits n < n := by
  have hp := isP_iff.1 hn
  have F := ok.fit h2 hp.2
  have := F.l1
  have := F.h1
  unfold nextP
  split
  · exact ⟨F.high (by omega), by omega⟩
  · exact ⟨F.low (by omega), by omega⟩
theorem goP_fuel {d : Dg} (ok : d.Ok) (bits : List Int) : ∀ {k m : Nat} {n : Int}, isP d n = true → n < k + 2 → n < m + 2 → goP d bits k n = goP d bits m n
  | 0, 0, n, _, _, _ => rfl
  | 0, m + 1, n, _, hk, _ => by unfold goP; rw [if_pos (by omega)]
  | k + 1, 0, n, _, _, hm => by unfold goP; rw [if_pos (by omega)]
  | k + 1, m + 1, n, hn, hk, hm => by
    unfold goP
    by_cases h2 : n < 2
    · rw [if_pos h2, if_pos h2]
    · rw [if_neg h2, if_neg h2]
      have := nextP_ok ok bits hn (by omega)
      exact goP_fuel ok bits this.1 (by omega) (by omega)
def valP (d : Dg) (bits : List Int) (n : Int) : Int := goP d bits 3000 n
theorem valP_end {d : Dg} {bits : List Int} {n : Int} (h : n < 2) : valP d bits n = n := if_pos h
theorem valP_next {d : Dg} (ok : d.Ok) (bits : List Int) {n : Int} (hn : isP d n = true) (h2 : 2 ≤ n) : valP d bits n = valP d bits (nextP d bits n) := by
  have hp := isP_iff.1 hn
  have few := ok.few
  have := nextP_ok ok bits hn h2
  show (if n < 2 then n else goP d bits 2999 (nextP d bits n)) = _
  rw [if_neg (by omega)]
  exact goP_fuel ok bits this.1 (by omega) (by omega)
noncomputable def dgValueB (d : Dg) (n : Int) (bits : List Int) : Int := if (dgB d && isP d n && decide ((bits.length : Int) = d.vars) && arD bits) = true then valP d bits n else -1

set_option maxRecDepth 100000 in
set_option maxHeartbeats 2000000 in
theorem l8Value_any (d : Dg) (n0 : Int) (bits : List Int) (A : Option Addr) (c : Nat) (A2 : Option Addr) (n2 c2 : Nat) (w : World) (h1 : Mem.rd w w.heap.size [.slice A d.forks.length c] d.forks) (h2 : Mem.rd w w.heap.size [.slice A2 n2 c2] bits) (ok : d.Ok) (hp : isP d n0 = true) (hb : (bits.length : Int) = d.vars) :
    Calls Tryd.prog 78 #[.agg #[.int .i64 d.vars, .slice A d.forks.length c], .int .i64 n0, .slice A2 n2 c2] w (GivesInt w (valP d bits n0)) := by
  have l2 := rd_len h2
  have few := ok.few
  have h2' := (rd_ints.1 h2).2
  have BX := Lib.hid (ci_box (w := w) (v1 := .int .i64 d.vars) (v2 := .slice A d.forks.length c) (t := 35))
  have VN := Lib.hid (fun n (hn : isP d n = true) (h2 : 2 ≤ n) => valP_next ok bits hn h2)
  have VE := Lib.hid (fun n (h : n < 2) => valP_end (d := d) (bits := bits) h)
  have NX := Lib.hid (fun n (hn : isP d n = true) (h2 : 2 ≤ n) => nextP_ok ok bits hn h2)
  have FT := Lib.hid (fun n (hn : isP d n = true) (h2 : 2 ≤ n) => ok.fit h2 (isP_iff.1 hn).2)
  have NE := Lib.hid (show ∀ n, nextP d bits n = if ix bits (fkA d n).v.toNat = 1 then (fkA d n).hi else (fkA d n).lo from fun _ => rfl)
  have PI := Lib.hid (fun n (hn : isP d n = true) => isP_iff.1 hn)
  generalize hV : valP d bits n0 = V at *
  have HV0 := Lib.hid hV
  have HP0 := Lib.hid hp
  have n00 : 0 ≤ n0 := (isP_iff.1 hp).1
  clear hV hp ok
  have HB := Lib.hid hb
  have L2 := Lib.hid l2
  clear hb l2
  go_enter Tryd.func78, Tryd.ntmps78
  go_wp2_with fail
  go_loopg [1] n0.toNat (fun r i wr => ∃ n : Int, (r : Int) = n ∧ i = .int .i64 n ∧ Hid (isP d n = true) ∧ Hid (valP d bits n = V) ∧ Below (w.alloc (.cells #[.int .i64 d.vars, .slice A d.forks.length c] 35)).heap.size (w.alloc (.cells #[.int .i64 d.vars, .slice A d.forks.length c] 35)) wr)
  case atStart => exact ⟨n0, by omega, rfl, HP0, HV0, Below.refl _ _⟩
  case round =>
    obtain ⟨n, hr, rfl, HP, HV, hb⟩ := hrel
    obtain ⟨B, x0, x1⟩ := BX.out _ hb
    by_cases g2 : 2 ≤ n
    · obtain ⟨k, rfl⟩ : ∃ k : Nat, n = 2 + k := ⟨(n - 2).toNat, by omega⟩
      have hk : k < d.forks.length := by have := PI.out _ HP.out; omega
      obtain ⟨ad, rfl, hbl, d0, d1, d2⟩ := fk_at (Mem.rd_below h1 B) hk
      have hbl' : (ad.add (k * 3)).block < wr.heap.size := by rw [add_block]; have := B.size; omega
      have w1 : IntKind.i64.wrap (2 + (k : Int) - 2) = (k : Int) := by rw [show 2 + (k : Int) - 2 = k by omega]; exact IntWalk.i64_in _ (by omega)
      have ef : fkA d (2 + (k : Int)) = el d.forks k := by unfold fkA; rw [show (2 + (k : Int) - 2).toNat = k by omega]
      have F := FT.out _ HP.out g2
      have HNX := Lib.hid (NX.out _ HP.out g2)
      have HVN := Lib.hid ((VN.out _ HP.out g2).symm.trans HV.out)
      have HNE := Lib.hid (NE.out (2 + (k : Int)))
      rw [ef] at F HNE
      have f0 := F.v0
      have f1 := F.v1
      have f2 := F.l0
      have f3 := F.h0
      generalize nextP d bits (2 + (k : Int)) = NP at *
      generalize el d.forks k = G at *
      obtain ⟨ga, gb, gc⟩ := G
      dsimp only at *
      clear F ef
      obtain ⟨q, rfl⟩ : ∃ q : Nat, ga = q := ⟨ga.toNat, by omega⟩
      have hq : q < n2 := by have := HB.out; have := L2.out; omega
      obtain ⟨ad2, rfl, hbl2, e0⟩ := (h2'.below B).int hq
      rw [show ((q : Int)).toNat = q by omega] at HNE
      have hbl2' : (ad2.add q).block < wr.heap.size := by rw [add_block]; have := B.size; omega
      have qn : (q : Int) < n2 := by omega
      have g3 : (1 : Int) < 2 + k := by omega
      have kn : (k : Int) < d.forks.length := by omega
      by_cases g4 : ix bits q = 1
      · have HN1 : Hid (NP = gc) := Lib.hid (by rw [HNE.out, if_pos g4])
        have g5 : (ix bits q == 1) = true := by simp [g4]
        generalize ix bits q = bb at *
        clear g4
        go_wp2
        go_roundg NP.toNat
        case measure => have := HNX.out.2; have := PI.out _ HNX.out.1; omega
        case rel =>
          have := PI.out _ HNX.out.1
          exact ⟨NP, by omega, by rw [HN1.out], Lib.hid HNX.out.1, HVN, hb.alloc hb.size _⟩
      · have HN1 : Hid (NP = gb) := Lib.hid (by rw [HNE.out, if_neg g4])
        have g5 : (ix bits q == 1) = false := by simp [g4]
        generalize ix bits q = bb at *
        clear g4
        go_wp2
        go_roundg NP.toNat
        case measure => have := HNX.out.2; have := PI.out _ HNX.out.1; omega
        case rel =>
          have := PI.out _ HNX.out.1
          exact ⟨NP, by omega, by rw [HN1.out], Lib.hid HNX.out.1, HVN, hb.alloc hb.size _⟩
    · have HE : Hid (V = n) := Lib.hid (by rw [← HV.out, VE.out n (by omega)])
      have g3 : ¬ (1 : Int) < n := by omega
      go_wp2
      go_ret
      exact ⟨congrArg (fun z => Ending.returned (.int .i64 z)) HE.out.symm, B⟩

end Go.Proofs.YtnhjcokmajejcaaDoor
