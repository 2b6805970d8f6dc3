/- Orders of variables, in the program: OrderValid, OrderBack. -/
import Derived.Test.YtnhjcokmajejcaaDoorOr
import Derived.Test.YtnhjcokmajejcaaDoorGen
namespace Go.Proofs.YtnhjcokmajejcaaDoor
open Go.RowKit
set_option maxRecDepth 100000

/-- Which numbers have come. -/
def hasC (l : List Int) (k : Nat) : List Value := (List.range 12).map fun (v : Nat) => .bool (decide ((v : Int) ∈ l.take k))
theorem hasC_len (l : List Int) (k : Nat) : (hasC l k).length = 12 := by simp [hasC]
theorem hasC_at (l : List Int) (k : Nat) {v : Nat} (h : v < 12) : (hasC l k)[v]? = some (.bool (decide ((v : Int) ∈ l.take k))) := by
  unfold hasC
  rw [List.getElem?_map, List.getElem?_range h]; rfl
theorem hasC_zero (l : List Int) : hasC l 0 = [.bool false, .bool false, .bool false, .bool false, .bool false, .bool false, .bool false, .bool false, .bool false, .bool false, .bool false, .bool false] := by
  simp [hasC, List.range_succ]
theorem hasC_set {l : List Int} {k : Nat} (hk : k < l.length) {x : Nat} (e : ix l k = x) : (hasC l k).set x (.bool true) = hasC l (k + 1) := by
  refine List.ext_getElem? fun i => ?_
  rw [List.getElem?_set]
  by_cases hi : i < 12
  · by_cases q : x = i
    · subst q
      rw [if_pos rfl, if_pos (by rw [hasC_len]; exact hi), hasC_at l _ hi, decide_eq_true (mem_takeI.2 ⟨k, by omega, hk, e⟩)]
    · rw [if_neg q, hasC_at l _ hi, hasC_at l _ hi]
      have : ((i : Int) ∈ l.take k) ↔ ((i : Int) ∈ l.take (k + 1)) := by
        constructor
        · intro hm
          obtain ⟨j, h1, h2, h3⟩ := mem_takeI.1 hm
          exact mem_takeI.2 ⟨j, by omega, h2, h3⟩
        · intro hm
          obtain ⟨j, h1, h2, h3⟩ := mem_takeI.1 hm
          refine mem_takeI.2 ⟨j, ?_, h2, h3⟩
          have : j ≠ k := fun z => by subst z; omega
          omega
      rw [decide_eq_decide.2 this]
  · rw [List.getElem?_eq_none (l := hasC l (k + 1)) (by rw [hasC_len]; omega), List.getElem?_eq_none (l := hasC l k) (by rw [hasC_len]; omega)]
    by_cases q : x = i
    · rw [if_pos q, if_neg (by rw [hasC_len]; omega)]
    · rw [if_neg q]
theorem arr12 : Tryd.prog.underlying 115 = some (.array 12 4) := by kernel_rfl
/-- The address of a bool in an array of twelve. -/
theorem run_has_index (b v : Nat) (h : v < 12) (W : World) : (Instr.indexAt 115 (.pointer (some ⟨b, 0, none⟩)) (.int .i64 (v : Int))).run Tryd.prog W = .ok (.pointer (some ⟨b, v, none⟩)) W := by
  have e : Tryd.prog.arrayLen 115 = 12 := by kernel_rfl
  have e2 : Tryd.prog.elem 115 = 4 := by kernel_rfl
  have e3 : Tryd.prog.cellsOf 4 = 1 := by kernel_rfl
  rw [run_indexAt_array W 115 ⟨b, 0, none⟩ .i64 v (by rw [e, e2]; exact arr12), e, e2, if_pos (by omega)]
  have ha : (⟨b, 0, none⟩ : Addr).add v = ⟨b, v, none⟩ := by unfold Addr.add; split <;> simp_all
  simp [ha]

set_option maxRecDepth 100000 in
set_option maxHeartbeats 2000000 in
theorem orderValid_impl (l : List Int) (vars : Int) (A : Option Addr) (n c : Nat) (w : World) (h : Mem.rd w w.heap.size [.slice A n c] l) :
    Calls Tryd.prog 52 #[.slice A n c, .int .i64 vars] w (GivesBool w (ordB l vars)) := by
  have hl := rd_len h
  have hm := rd_max h
  unfold maxLen at hm
  have h' := (rd_ints.1 h).2
  by_cases g1 : (n : Int) = vars
  · by_cases g2 : vars ≤ 12
    · have g1' : ((n : Int) != vars) = false := by simp [g1]
      have g2' : ¬ vars > 12 := by omega
      have HN := Lib.hid (fun k (hk : k < n) q => ordB_no (l := l) (vars := vars) (k := k) (by omega) q)
      have HY := Lib.hid (fun q => ordB_yes (l := l) (vars := vars) (by omega) g2 q)
      have HI := Lib.hid (fun (k : Nat) (hk : k < l.length) (x : Nat) (e : ix l k = x) => hasC_set (l := l) (k := k) hk e)
      have L1 := Lib.hid hl
      have G1 := Lib.hid g1
      have HIX := fun b v h W => run_has_index b v h W
      generalize ordB l vars = R at *
      clear h hl
      go_enter Tryd.func52, Tryd.ntmps52
      go_wp2
      have K0 : Blk (w.alloc (.cells #[.bool false, .bool false, .bool false, .bool false, .bool false, .bool false, .bool false, .bool false, .bool false, .bool false, .bool false, .bool false] 115)) w.heap.size 115 (hasC l 0) := by
        rw [hasC_zero]; exact ci_blk w _ _
      go_loopg [18] n (fun m i wr => ∃ k : Nat, k + m = n ∧ i = .int .i64 k ∧ Hid (∀ j, j < k → 0 ≤ ix l j ∧ ix l j < vars ∧ ¬ ix l j ∈ l.take j) ∧ Blk wr w.heap.size 115 (hasC l k) ∧ Below w.heap.size w wr)
      case atStart => exact ⟨0, by omega, rfl, Lib.hid (fun j hj => absurd hj (by omega)), K0, below_alloc _ _⟩
      case round =>
        clear K0
        obtain ⟨k, hk, rfl, ha, hK, hb⟩ := hrel
        by_cases hlt : k < n
        · obtain ⟨ad, rfl, hbl, d0⟩ := (h'.below hb).int hlt
          have kn : (k : Int) < n := by omega
          have HNk := Lib.hid (HN.out k hlt)
          have HIk := Lib.hid (HI.out k (by rw [L1.out]; exact hlt))
          have HS : Hid (0 ≤ ix l k → ix l k < vars → ¬ ix l k ∈ l.take k → ∀ j, j < k + 1 → 0 ≤ ix l j ∧ ix l j < vars ∧ ¬ ix l j ∈ l.take j) := Lib.hid (fun z0 z1 z2 j hj => by
            by_cases e : j = k
            · subst e; exact ⟨z0, z1, z2⟩
            · exact ha.out j (by omega))
          have HD : Hid (decide (ix l k ∈ l.take k) = true ∨ decide (ix l k ∈ l.take k) = false) := Lib.hid (by cases decide (ix l k ∈ l.take k) <;> simp)
          generalize hx : ix l k = x at *
          clear hx
          by_cases z0 : x < 0
          · have HF := Lib.hid (HNk.out (.inl z0))
            go_wp2
            go_ret
            exact ⟨(congrArg (fun b => Ending.returned (.bool b)) HF.out).symm, hb⟩
          · by_cases z1 : vars ≤ x
            · have HF := Lib.hid (HNk.out (.inr (.inl z1)))
              go_wp2
              go_ret
              exact ⟨(congrArg (fun b => Ending.returned (.bool b)) HF.out).symm, hb⟩
            · obtain ⟨v, rfl⟩ : ∃ v : Nat, x = v := ⟨x.toNat, by omega⟩
              have hv : v < 12 := by omega
              have hi := HIX w.heap.size v hv
              have z := hK.cell v
              rw [hasC_at l k hv] at z
              have zf := hK.frozen v
              have lg := hK.lt
              rcases HD.out with q | q
              · rw [q] at z
                have HF := Lib.hid (HNk.out (.inr (.inr (of_decide_eq_true q))))
                clear q
                go_wp2
                go_ret
                exact ⟨(congrArg (fun b => Ending.returned (.bool b)) HF.out).symm, hb⟩
              · rw [q] at z
                have hs := Lib.hid (HS.out (by omega) (by omega) (of_decide_eq_false q))
                have hk2 := Lib.hid (hK.set v (.bool true))
                rw [HIk.out v rfl] at hk2
                clear q
                go_wp2
                go_roundg (n - (k + 1))
                case measure => omega
                case rel => exact ⟨k + 1, by omega, by go_num, hs, hk2.out, hb.setCell (p := ⟨w.heap.size, v, none⟩) (Nat.le_refl _) _⟩
        · obtain rfl : k = n := by omega
          have HF := Lib.hid (HY.out (fun j hj => ha.out j (by rw [← L1.out]; exact hj)))
          go_wp2
          go_ret
          exact ⟨(congrArg (fun b => Ending.returned (.bool b)) HF.out).symm, hb⟩
    · rw [ordB_far g2]
      have g1' : ((n : Int) != vars) = false := by simp [g1]
      have g2' : vars > 12 := by omega
      clear h hl
      go_enter Tryd.func52, Tryd.ntmps52
      go_wp2
      go_ret
      exact ⟨rfl, Below.refl _ _⟩
  · rw [ordB_len (by rw [hl]; exact g1)]
    have g1' : ((n : Int) != vars) = true := by simp [g1]
    clear h hl
    go_enter Tryd.func52, Tryd.ntmps52
    go_wp2
    go_ret
    exact ⟨rfl, Below.refl _ _⟩

end Go.Proofs.YtnhjcokmajejcaaDoor
