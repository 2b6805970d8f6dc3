/- Orders of variables, in the program: OrderValid, OrderBack. -/
import Derived.Test.YtnpdeliaefjmlaaOr
import Derived.Test.YtnpdeliaefjmlaaGen
namespace Go.Proofs.Ytnpdeliaefjmlaa
open Go.RowKit
set_option maxRecDepth 100000

/-- Which numbers have come. -/
def hasC (l : List Int) (k : Nat) : List Value := (List.range 12).map fun (v : Nat) => .bool (decide ((v : Int) ∈ l.take k))
theorem hasC_len (l : List Int) (k : Nat) : (hasC l k).length = 12 := by simp [hasC]
theorem hasC_at (l : List Int) (k : Nat) {v : Nat} (h : v < 12) : (hasC l k)[v]? = some (.bool (decide ((v : Int) ∈ l.take k))) := by
  unfold hasC
  rw [List.getElem?_map, List.getElem?_range h]; rfl
theorem hasC_zero (l : List Int) : hasC l 0 = [.bool false, .bool false, .bool false, .bool false, .bool false, .bool false, .bool false, .bool false, .bool false, .bool false, .bool false, .bool false] := by
  simp [hasC, List.range_succ]
theorem hasC_set {l : List Int} {k : Nat} (hk : k < l.length) {x : Nat} (e : ix l k = x) : (hasC l k).set x (.bool true) = hasC l (k + 1) := by
  refine List.ext_getElem? fun i => ?_
  rw [List.getElem?_set]
  by_cases hi : i < 12
  · by_cases q : x = i
    · subst q
      rw [if_pos rfl, if_pos (by rw [hasC_len]; exact hi), hasC_at l _ hi, decide_eq_true (mem_takeI.2 ⟨k, by omega, hk, e⟩)]
    · rw [if_neg q, hasC_at l _ hi, hasC_at l _ hi]
      have : ((i : Int) ∈ l.take k) ↔ ((i : Int) ∈ l.take (k + 1)) := by
        constructor
        · intro hm
          obtain ⟨j, h1, h2, h3⟩ := mem_takeI.1 hm
          exact mem_takeI.2 ⟨j, by omega, h2, h3⟩
        · intro hm
          obtain ⟨j, h1, h2, h3⟩ := mem_takeI.1 hm
          refine mem_takeI.2 ⟨j, ?_, h2, h3⟩
          have : j ≠ k := fun z => by subst z; omega
          omega
      rw [decide_eq_decide.2 this]
  · rw [List.getElem?_eq_none (l := hasC l (k + 1)) (by rw [hasC_len]; omega), List.getElem?_eq_none (l := hasC l k) (by rw [hasC_len]; omega)]
    by_cases q : x = i
    · rw [if_pos q, if_neg (by rw [hasC_len]; omega)]
    · rw [if_neg q]
theorem arr12 : Try.prog.underlying 104 = some (.array 12 4) := by kernel_rfl
/-- The address of a bool in an array of twelve. -/
theorem run_has_index (b v : Nat) (h : v < 12) (W : World) : (Instr.indexAt 104 (.pointer (some ⟨b, 0, none⟩)) (.int .i64 (v : Int))).run Try.prog W = .ok (.pointer (some ⟨b, v, none⟩)) W := by
  have e : Try.prog.arrayLen 104 = 12 := by kernel_rfl
  have e2 : Try.prog.elem 104 = 4 := by kernel_rfl
  have e3 : Try.prog.cellsOf 4 = 1 := by kernel_rfl
  rw [run_indexAt_array W 104 ⟨b, 0, none⟩ .i64 v (by rw [e, e2]; exact arr12), e, e2, if_pos (by omega)]
  have ha : (⟨b, 0, none⟩ : Addr).add v = ⟨b, v, none⟩ := by unfold Addr.add; split <;> simp_all
  simp [ha]

set_option maxRecDepth 100000 in
set_option maxHeartbeats 2000000 in
theorem orderValid_impl (l : List Int) (vars : Int) (A : Option Addr) (n c : Nat) (w : World) (h : Mem.rd w w.heap.size [.slice A n c] l) :
    Calls Try.prog 37 #[.slice A n c, .int .i64 vars] w (GivesBool w (ordB l vars)) := by
  have hl := rd_len h
  have hm := rd_max h
  unfold maxLen at hm
  have h' := (rd_ints.1 h).2
  by_cases g1 : (n : Int) = vars
  · by_cases g2 : vars ≤ 12
    · have g1' : ((n : Int) != vars) = false := by simp [g1]
      have g2' : ¬ vars > 12 := by omega
      have HN := Lib.hid (fun k (hk : k < n) q => ordB_no (l := l) (vars := vars) (k := k) (by omega) q)
      have HY := Lib.hid (fun q => ordB_yes (l := l) (vars := vars) (by omega) g2 q)
      have HI := Lib.hid (fun (k : Nat) (hk : k < l.length) (x : Nat) (e : ix l k = x) => hasC_set (l := l) (k := k) hk e)
      have L1 := Lib.hid hl
      have G1 := Lib.hid g1
      have HIX := fun b v h W => run_has_index b v h W
      generalize ordB l vars = R at *
      clear h hl
      go_enter Try.func37, Try.ntmps37
      go_wp2
      have K0 : Blk (w.alloc (.cells #[.bool false, .bool false, .bool false, .bool false, .bool false, .bool false, .bool false, .bool false, .bool false, .bool false, .bool false, .bool false] 104)) w.heap.size 104 (hasC l 0) := by
        rw [hasC_zero]; exact ci_blk w _ _
      go_loopg [18] n (fun m i wr => ∃ k : Nat, k + m = n ∧ i = .int .i64 k ∧ Hid (∀ j, j < k → 0 ≤ ix l j ∧ ix l j < vars ∧ ¬ ix l j ∈ l.take j) ∧ Blk wr w.heap.size 104 (hasC l k) ∧ Below w.heap.size w wr)
      case atStart => exact ⟨0, by omega, rfl, Lib.hid (fun j hj => absurd hj (by omega)), K0, below_alloc _ _⟩
      case round =>
        clear K0
        obtain ⟨k, hk, rfl, ha, hK, hb⟩ := hrel
        by_cases hlt : k < n
        · obtain ⟨ad, rfl, hbl, d0⟩ := (h'.below hb).int hlt
          have kn : (k : Int) < n := by omega
          have HNk := Lib.hid (HN.out k hlt)
          have HIk := Lib.hid (HI.out k (by rw [L1.out]; exact hlt))
          have HS : Hid (0 ≤ ix l k → ix l k < vars → ¬ ix l k ∈ l.take k → ∀ j, j < k + 1 → 0 ≤ ix l j ∧ ix l j < vars ∧ ¬ ix l j ∈ l.take j) := Lib.hid (fun z0 z1 z2 j hj => by
            by_cases e : j = k
            · subst e; exact ⟨z0, z1, z2⟩
            · exact ha.out j (by omega))
          have HD : Hid (decide (ix l k ∈ l.take k) = true ∨ decide (ix l k ∈ l.take k) = false) := Lib.hid (by cases decide (ix l k ∈ l.take k) <;> simp)
          generalize hx : ix l k = x at *
          clear hx
          by_cases z0 : x < 0
          · have HF := Lib.hid (HNk.out (.inl z0))
            go_wp2
            go_ret
            exact ⟨(congrArg (fun b => Ending.returned (.bool b)) HF.out).symm, hb⟩
          · by_cases z1 : vars ≤ x
            · have HF := Lib.hid (HNk.out (.inr (.inl z1)))
              go_wp2
              go_ret
              exact ⟨(congrArg (fun b => Ending.returned (.bool b)) HF.out).symm, hb⟩
            · obtain ⟨v, rfl⟩ : ∃ v : Nat, x = v := ⟨x.toNat, by omega⟩
              have hv : v < 12 := by omega
              have hi := HIX w.heap.size v hv
              have z := hK.cell v
              rw [hasC_at l k hv] at z
              have zf := hK.frozen v
              have lg := hK.lt
              rcases HD.out with q | q
              · rw [q] at z
                have HF := Lib.hid (HNk.out (.inr (.inr (of_decide_eq_true q))))
                clear q
                go_wp2
                go_ret
                exact ⟨(congrArg (fun b => Ending.returned (.bool b)) HF.out).symm, hb⟩
              · rw [q] at z
                have hs := Lib.hid (HS.out (by omega) (by omega) (of_decide_eq_false q))
                have hk2 := Lib.hid (hK.set v (.bool true))
                rw [HIk.out v rfl] at hk2
                clear q
                go_wp2
                go_roundg (n - (k + 1))
                case measure => omega
                case rel => exact ⟨k + 1, by omega, by go_num, hs, hk2.out, hb.setCell (p := ⟨w.heap.size, v, none⟩) (Nat.le_refl _) _⟩
        · obtain rfl : k = n := by omega
          have HF := Lib.hid (HY.out (fun j hj => ha.out j (by rw [← L1.out]; exact hj)))
          go_wp2
          go_ret
          exact ⟨(congrArg (fun b => Ending.returned (.bool b)) HF.out).symm, hb⟩
    · rw [ordB_far g2]
      have g1' : ((n : Int) != vars) = false := by simp [g1]
      have g2' : vars > 12 := by omega
      clear h hl
      go_enter Try.func37, Try.ntmps37
      go_wp2
      go_ret
      exact ⟨rfl, Below.refl _ _⟩
  · rw [ordB_len (by rw [hl]; exact g1)]
    have g1' : ((n : Int) != vars) = true := by simp [g1]
    clear h hl
    go_enter Try.func37, Try.ntmps37
    go_wp2
    go_ret
    exact ⟨rfl, Below.refl _ _⟩

set_option maxHeartbeats 2000000 in
theorem orderBack_impl (l : List Int) (A : Option Addr) (n c : Nat) (w : World) (h : Mem.rd w w.heap.size [.slice A n c] l) :
    Calls Try.prog 39 #[.slice A n c] w (GivesL w (backB l)) := by
  obtain rfl : l.length = n := rd_len h
  have hm := rd_max h
  unfold maxLen at hm
  have h' := (rd_ints.1 h).2
  have OV := Lib.hid (orderValid_impl l l.length A l.length c w h)
  cases q : ordB l l.length
  · rw [q] at OV
    rw [show backB l = [] from if_neg (by rw [q]; simp)]
    clear h q
    go_enter Try.func39, Try.ntmps39
    go_wp2_with fail
    refine (OV.out).mono ?_
    rintro e w1 ⟨rfl, b1⟩
    go_wp2
    go_ret
    exact ⟨none, 0, 0, [], rfl, own_none _, List.nodup_nil, (fun b hb => by cases hb), b1⟩
  · rw [q] at OV
    rw [show backB l = backTo l l.length from if_pos q]
    have n12 : l.length ≤ 12 := by have := (ordB_iff.1 q).2.1; omega
    have HI := Lib.hid (fun (k : Nat) (hk : k < l.length) => ord_in q hk)
    have HS := Lib.hid (fun (k : Nat) (hk : k < l.length) (x : Nat) (e : ix l k = x) => backAt_set q hk e)
    have HA := Lib.hid (backAt_all q)
    have C0 : Hid ((madeCells (Value.int .i64 0).cells (l.length * 1)).toList = ints (backAt l 0)) := Lib.hid (by rw [Nat.mul_one, backAt_zero]; exact (toList_madeCells_one _ _).trans (by simp [ints]))
    have HB := Lib.hid (backTo_len l l.length)
    have HLN := Lib.hid (fun k => backAt_len l k)
    refine Calls.mono (R := GivesInts w (backTo l l.length)) ?_ (fun e w' h => givesL_of h (by rw [backTo_len]; unfold maxLen; omega))
    clear h q
    go_enter Try.func39, Try.ntmps39
    go_wp2_with fail
    refine (OV.out).mono ?_
    rintro e w1 ⟨rfl, b1⟩
    go_wp2_with (first | (at_make; refine wpList_make_full _ rfl _ _ 26 rfl w1.heap.size 3 intRow _ 1 Try.underlying26 int_row.1 int_row.2.1 int_row.2.2.1 _ _ _ _ l.length rfl rfl rfl rfl (by rw [int_row.2.2.2]; omega) (by unfold maxLen; omega) (Nat.le_refl _) ?_; intro w2 hown hg))
    have hbw := (Below.refl w1.heap.size w1).grown hg (Nat.le_refl _) (by simp)
    have hblk := (Blk.of_own hown).1
    rw [C0.out] at hblk
    have b2 := b1.trans (hbw.mono b1.size)
    have S1 := b1.size
    generalize w1.heap.size = g at *
    clear hown hg hbw b1
    go_loopg [16] l.length (fun m i wr => ∃ k : Nat, k + m = l.length ∧ i = .int .i64 k ∧ Blk wr g 3 (ints (backAt l k)) ∧ Below w.heap.size w wr)
    case atStart => exact ⟨0, by omega, rfl, hblk, b2⟩
    case round =>
      clear hblk b2
      obtain ⟨k, hk, rfl, hK, hb⟩ := hrel
      by_cases hlt : k < l.length
      · obtain ⟨ad, rfl, hbl, d0⟩ := (h'.below hb).int hlt
        have kn : (k : Int) < l.length := by omega
        have HIk := HI.out k hlt
        have HSk := Lib.hid (HS.out k hlt)
        generalize ix l k = x at *
        obtain ⟨v, rfl⟩ : ∃ v : Nat, x = v := ⟨x.toNat, by omega⟩
        have hv : v < l.length := by omega
        have vn : (v : Int) < l.length := by omega
        have hk2 := Lib.hid (hK.set v (.int .i64 k))
        have zf := hK.frozen v
        have hvv : v < (ints (backAt l k)).length := by rw [len_ints, HLN.out]; exact hv
        have z : wr.cell? ⟨g, v, none⟩ = some ((ints (backAt l k))[v]) := by rw [hK.cell v, List.getElem?_eq_getElem hvv]
        have lg := hK.lt
        have e2 : Hid ((ints (backAt l k)).set v (.int .i64 k) = ints (backAt l (k + 1))) := Lib.hid (by rw [← HSk.out v rfl]; unfold ints; rw [List.map_set])
        rw [e2.out] at hk2
        clear HIk
        go_wp2
        go_roundg (l.length - (k + 1))
        case measure => omega
        case rel => exact ⟨k + 1, by omega, by go_num, hk2.out, hb.setCell (p := ⟨g, v, none⟩) S1 _⟩
      · obtain rfl : k = l.length := by omega
        rw [HA.out] at hK
        have o := hK.own S1 (n := l.length) (size := 1) (by unfold maxLen; omega) (by rw [len_ints, HB.out]; omega)
        go_wp2
        go_ret
        exact ⟨_, rfl, by rw [HB.out]; exact o, hb⟩
end Go.Proofs.Ytnpdeliaefjmlaa
