/- Bits that came in: of the program. -/
import Derived.Test.YtffkdmaedojcjaaBitT
namespace Go.Proofs.Ytffkdmaedojcjaa
open Go.RowKit

theorem two_cells {w : World} {g : Nat} {t : TypeId} {a b : Value} (h : Blk w g t [a, b]) : w.cell? ⟨g, 0, none⟩ = some a ∧ w.cell? ⟨g, 1, none⟩ = some b ∧ w.frozen? ⟨g, 0, none⟩ = false ∧ w.frozen? ⟨g, 1, none⟩ = false :=
  ⟨h.cell 0, h.cell 1, h.frozen 0, h.frozen 1⟩
/-- Whether numbers are bits, at most twelve. -/
def rowOk (l : List Int) : Bool := decide (l.length ≤ 12) && areB l

theorem numN_succ {l : List Int} {k b : Nat} (h : ix l k = b) : numN l (k + 1) = numN l k * 2 ^ 1 + b := by
  show numN l k * 2 + (ix l k).toNat = _
  rw [h]; simp

set_option maxRecDepth 100000 in
set_option maxHeartbeats 2000000 in
theorem areBits_row (A : Option Addr) (n c : Nat) (l : List Int) (w : World) (h : Mem.rd w w.heap.size [.slice A n c] l) :
    Calls Try.prog 17 #[.slice A n c] w (GivesBool w (allTo (bitAt l) n)) := by
  have hm := rd_max h
  unfold maxLen at hm
  have h' := (rd_ints.1 h).2
  go_enter Try.func17, Try.ntmps17
  go_wp2
  go_loopg [7] n (fun m i wr => ∃ k : Nat, k + m = n ∧ i = .int .i64 k ∧ Hid (∀ j, j < k → ix l j = 0 ∨ ix l j = 1) ∧ Below w.heap.size w wr)
  case atStart => exact ⟨0, by omega, rfl, Lib.hid (fun j hj => absurd hj (by omega)), Below.refl _ _⟩
  case round =>
    obtain ⟨k, hk, rfl, ha, hb⟩ := hrel
    by_cases hlt : k < n
    · obtain ⟨ad, rfl, hbl, d0⟩ := (h'.below hb).int hlt
      have kn : (k : Int) < n := by omega
      have HF : Hid (ix l k ≠ 0 → ix l k ≠ 1 → allTo (bitAt l) n = false) := Lib.hid (fun z0 z1 => allTo_false hlt (by
        cases hz : bitAt l k
        · rfl
        · have := bit_iff.1 hz
          omega))
      have HS : Hid (ix l k = 0 ∨ ix l k = 1 → ∀ j, j < k + 1 → ix l j = 0 ∨ ix l j = 1) := Lib.hid (fun hz j hj => by
        by_cases e : j = k
        · subst e; exact hz
        · exact ha.out j (by omega))
      generalize ix l k = x at *
      by_cases z0 : x = 0
      · subst z0
        go_wp2
        go_roundg (n - (k + 1))
        case measure => omega
        case rel => exact ⟨k + 1, by omega, by go_num, Lib.hid (HS.out (by simp)), hb⟩
      · by_cases z1 : x = 1
        · subst z1
          go_wp2
          go_roundg (n - (k + 1))
          case measure => omega
          case rel => exact ⟨k + 1, by omega, by go_num, Lib.hid (HS.out (by simp)), hb⟩
        · have n0 : (x != 0) = true := by simp [z0]
          have n1 : (x != 1) = true := by simp [z1]
          go_wp2
          go_ret
          exact ⟨(congrArg (fun b => Ending.returned (.bool b)) (HF.out z0 z1)).symm, hb⟩
    · obtain rfl : k = n := by omega
      have E : Hid (allTo (bitAt l) k = true) := Lib.hid (allTo_true.2 fun j hj => bit_iff.2 (ha.out j hj))
      go_wp2
      go_ret
      exact ⟨(congrArg (fun b => Ending.returned (.bool b)) E.out).symm, hb⟩

set_option maxRecDepth 100000 in
set_option maxHeartbeats 2000000 in
theorem rowOf_no (l : List Int) (A : Option Addr) (n c : Nat) (w : World) (h : Mem.rd w w.heap.size [.slice A n c] l) (hr : rowOk l = false) :
    Calls Try.prog 16 #[.slice A n c] w (GivesV w (.tuple #[.agg #[.int .u64 0, .int .i64 0], .bool false])) := by
  have L := rd_len h
  have hm := rd_max h
  unfold maxLen at hm
  by_cases q : 12 < n
  · clear hr
    go_enter Try.func16, Try.ntmps16
    go_wp2_with fail
    refine bodyPost_ret (v := .tuple #[.agg #[.int .u64 0, .int .i64 0], .bool false]) (by simp [results, Try.results16, go_sem]) rfl ⟨rfl, ?_⟩
    exact below_alloc _ _
  · have ha : allTo (bitAt l) n = false := by
      unfold rowOk areB at hr
      rw [L, decide_eq_true (show n ≤ 12 by omega)] at hr
      simpa using hr
    have AC : Hid (∀ W, Below w.heap.size w W → Calls Try.prog 17 #[.slice A n c] W (GivesBool W false)) := Lib.hid (fun W B => by
      have := areBits_row A n c l W (Mem.rd_on h B)
      rw [ha] at this
      exact this)
    clear hr ha
    go_enter Try.func16, Try.ntmps16
    go_wp2_with fail
    refine (AC.out _ (below_alloc _ _)).mono ?_
    rintro e w2 ⟨rfl, b2⟩
    have Z2 := (Blk.new w #[.int .u64 0, .int .i64 0] 35).below b2 (by simp)
    obtain ⟨z0, z1, f0, f1⟩ := two_cells Z2
    have B2 := Lib.hid (below_call b2)
    go_wp2_with fail
    refine bodyPost_ret (v := .tuple #[.agg #[.int .u64 0, .int .i64 0], .bool false]) (by simp [results, Try.results16, go_sem, z0, z1]) rfl ⟨rfl, ?_⟩
    exact ((B2.out).setCell (Nat.le_refl _) _).setCell (Nat.le_refl _) _
set_option maxRecDepth 100000 in
set_option maxHeartbeats 2000000 in
theorem rowOf_yes (l : List Int) (A : Option Addr) (n c : Nat) (w : World) (h : Mem.rd w w.heap.size [.slice A n c] l) (hr : rowOk l = true) :
    Calls Try.prog 16 #[.slice A n c] w (GivesV w (.tuple #[.agg #[.int .u64 (numN l n), .int .i64 n], .bool true])) := by
  have L := rd_len h
  have hm := rd_max h
  unfold maxLen at hm
  have h' := (rd_ints.1 h).2
  have q : ¬ 12 < n := by
    unfold rowOk at hr
    rw [L] at hr
    simp at hr
    omega
  · have ha : allTo (bitAt l) n = true := by
      unfold rowOk areB at hr
      rw [L] at hr
      simp only [Bool.and_eq_true] at hr
      exact hr.2
    have HA := Lib.hid ha
    have AC : Hid (∀ W, Below w.heap.size w W → Calls Try.prog 17 #[.slice A n c] W (GivesBool W true)) := Lib.hid (fun W B => by
      have := areBits_row A n c l W (Mem.rd_on h B)
      rw [ha] at this
      exact this)
    clear hr ha
    go_enter Try.func16, Try.ntmps16
    go_wp2_with fail
    refine (AC.out _ (below_alloc _ _)).mono ?_
    rintro e w2 ⟨rfl, b2⟩
    have Z2 := (Blk.new w #[.int .u64 0, .int .i64 0] 35).below b2 (by simp)
    have B2 := below_call b2
    have lt2 : w.heap.size < w2.heap.size := Z2.lt
    have Z0 : Hid (Blk (w2.alloc (.cells #[.int .u64 0, .int .i64 0] 35)) w.heap.size 35 [.int .u64 0, .int .i64 0]) := Lib.hid (Z2.alloc _)
    have Y0 : Hid (Blk (w2.alloc (.cells #[.int .u64 0, .int .i64 0] 35)) w2.heap.size 35 [.int .u64 (numN l 0), .int .i64 (0 : Nat)]) := Lib.hid (Blk.new w2 #[.int .u64 0, .int .i64 0] 35)
    have B0 : Hid (Below w.heap.size w (w2.alloc (.cells #[.int .u64 0, .int .i64 0] 35))) := Lib.hid (B2.trans ((below_alloc _ _).mono (by omega)))
    clear Z2 B2 b2
    go_wp2
    generalize w2.alloc (.cells #[.int .u64 0, .int .i64 0] 35) = W0 at Z0 Y0 B0 ⊢
    generalize w2.heap.size = q2 at Y0 lt2 ⊢
    go_loopg [18] n (fun m i wr => ∃ k : Nat, k + m = n ∧ i = .int .i64 k ∧ Hid (allTo (bitAt l) k = true) ∧ Hid (Blk wr q2 35 [.int .u64 (numN l k), .int .i64 k]) ∧ Hid (Blk wr w.heap.size 35 [.int .u64 0, .int .i64 0]) ∧ Hid (Below w.heap.size w wr))
    case atStart => exact ⟨0, by omega, rfl, Lib.hid rfl, Y0, Z0, B0⟩
    case round =>
      clear Y0 Z0 B0
      obtain ⟨k, hk, rfl, ha, hY, hZ, hb⟩ := hrel
      by_cases hlt : k < n
      · have kn : (k : Int) < n := by omega
        obtain ⟨ad, rfl, hbl, d0⟩ := (h'.below hb.out).int hlt
        have hz := allTo_true.1 HA.out k hlt
        · have hf : Hid (allTo (bitAt l) (k + 1) = true) := Lib.hid (by show (allTo (bitAt l) k && bitAt l k) = true; rw [ha.out, hz]; rfl)
          have hN := numN_lt ha.out
          have hN2 : 2 ^ k ≤ 2 ^ 11 := Nat.pow_le_pow_right (by omega) (by omega)
          have hN3 : numN l k < 4096 := by omega
          obtain ⟨p0, p1, r0, r1⟩ := two_cells hY.out
          rcases bit_iff.1 hz with e | e
          all_goals
            rw [e] at d0
            first
              | have WC : Hid (∀ W, Calls Try.prog 12 #[.agg #[.int .u64 (numN l k), .int .i64 k], .int .i64 0, .int .i64 1] W (GivesV W (rwV (numN l (k + 1)) (k + 1)))) := Lib.hid (fun W => by rw [numN_succ (b := 0) e]; exact with_any (numN l k) k 0 1 W hN3 (by decide) (by omega) (by omega))
              | have WC : Hid (∀ W, Calls Try.prog 12 #[.agg #[.int .u64 (numN l k), .int .i64 k], .int .i64 1, .int .i64 1] W (GivesV W (rwV (numN l (k + 1)) (k + 1)))) := Lib.hid (fun W => by rw [numN_succ (b := 1) e]; exact with_any (numN l k) k 1 1 W hN3 (by decide) (by omega) (by omega))
            clear e
            obtain ⟨NX, hNX⟩ : ∃ x, x = numN l (k + 1) := ⟨_, rfl⟩
            have HNX := Lib.hid hNX
            rw [← hNX] at WC
            clear hNX
            unfold rwV at WC
            go_wp2_with (first
              | (go_at_call 12; refine (WC.out _).mono ?_; rintro e w5 ⟨rfl, b5⟩
                 have Y5 := Lib.hid (hY.out.below b5 hY.out.lt)
                 have Z5 := Lib.hid (hZ.out.below b5 hZ.out.lt)
                 have B5 := Lib.hid (hb.out.trans (b5.mono hb.out.size))
                 obtain ⟨s0, s1, t0, t1⟩ := two_cells Y5.out))
            go_roundg (n - (k + 1))
            case measure => omega
            case rel =>
              refine ⟨k + 1, by omega, by go_num, hf, Lib.hid ?_, Lib.hid ((setCell_heap _ _ _ (by show w.heap.size ≠ q2; omega)).trans ((setCell_heap _ _ _ (by show w.heap.size ≠ q2; omega)).trans Z5.out)), Lib.hid (((B5.out).setCell (by show w.heap.size ≤ q2; omega) _).setCell (by show w.heap.size ≤ q2; omega) _)⟩
              rw [← HNX.out]
              exact (Y5.out.set 0 _).set 1 _
      · obtain rfl : k = n := by omega
        obtain ⟨z0, z1, f0, f1⟩ := two_cells hZ.out
        obtain ⟨s0, s1, t0, t1⟩ := two_cells hY.out
        go_wp2_with fail
        refine bodyPost_ret (v := .tuple #[.agg #[.int .u64 (numN l k), .int .i64 k], .bool true]) (by simp [results, Try.results16, go_sem, z0, z1]) rfl ⟨rfl, ?_⟩
        exact ((hb.out).setCell (Nat.le_refl _) _).setCell (Nat.le_refl _) _

theorem bitsValue_impl (l : List Int) (A : Option Addr) (n c : Nat) (w : World) (h : Mem.rd w w.heap.size [.slice A n c] l) :
    Calls Try.prog 8 #[.slice A n c] w (GivesInt w (bitsValB l)) := by
  have L := rd_len h
  obtain ⟨F, hF⟩ : ∃ F, F = bitsValB l := ⟨_, rfl⟩
  rw [← hF]
  change F = if rowOk l then _ else _ at hF
  cases hr : rowOk l
  · have E : Hid (F = -1) := Lib.hid (by rw [hF, hr]; rfl)
    have RC := Lib.hid (rowOf_no l A n c w h hr)
    clear hF hr
    go_enter Try.func8, Try.ntmps8
    go_wp2_with fail
    refine (RC.out).mono ?_
    rintro e w2 ⟨rfl, b2⟩
    go_wp2
    go_ret
    exact ⟨congrArg (fun z => Ending.returned (.int .i64 z)) E.out.symm, b2.alloc b2.size _⟩
  · have hn : numN l n < 4096 := by
      unfold rowOk areB at hr
      simp only [Bool.and_eq_true, decide_eq_true_eq] at hr
      rw [L] at hr
      have := numN_lt hr.2
      have : 2 ^ n ≤ 2 ^ 12 := Nat.pow_le_pow_right (by omega) hr.1
      omega
    have E : Hid (F = (numN l n : Nat)) := Lib.hid (by rw [hF, hr, L]; rfl)
    have wv : IntKind.i64.wrap ((numN l n : Nat) : Int) = (numN l n : Nat) := IntWalk.i64_in _ (by omega)
    have RC := Lib.hid (rowOf_yes l A n c w h hr)
    clear hF hr hn
    generalize numN l n = N at *
    go_enter Try.func8, Try.ntmps8
    go_wp2_with fail
    refine (RC.out).mono ?_
    rintro e w2 ⟨rfl, b2⟩
    go_wp2
    go_ret
    exact ⟨congrArg (fun z => Ending.returned (.int .i64 z)) E.out.symm, b2.alloc b2.size _⟩
end Go.Proofs.Ytffkdmaedojcjaa
