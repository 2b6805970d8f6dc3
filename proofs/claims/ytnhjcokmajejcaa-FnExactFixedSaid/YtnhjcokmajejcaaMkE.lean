/- Circuits that are made: makers are made, and what they tell, in the program. -/
import Derived.Test.YtnhjcokmajejcaaMkD
import Derived.Test.YtnhjcokmajejcaaCiE
namespace Go.Proofs.Ytnhjcokmajejcaa
open Go.RowKit
set_option maxRecDepth 100000

theorem mk_lower {w : World} {base base' g : Nat} {c : Ci} {full : Bool} (h : MkAt w base g c full) (hb : base' ≤ base) : MkAt w base' g c full := by
  obtain ⟨A, cc, bm, cnt, D, kg, ho, hm, hc, hF, hg, hbm, r⟩ := h
  exact ⟨A, cc, bm, cnt, D, kg, own_lower ho hb, hm, hc, hF, Nat.le_trans hb hg, Nat.le_trans hb hbm, r⟩
theorem mk_of_heap {w w' : World} {base g : Nat} {c : Ci} {full : Bool} (h : MkAt w base g c full) (e : w'.heap = w.heap) : MkAt w' base g c full := by
  obtain ⟨A, cc, bm, cnt, D, kg, ho, hm, r⟩ := h
  exact ⟨A, cc, bm, cnt, D, blk_of_heap kg e, own_of_heap ho e, map_of_heap hm e, r⟩
theorem told_no (s : Ci) (x : Int) (base g : Nat) (w : World) (hM : MkAt w base g s true) :
    Calls Try.prog 60 #[.pointer (some ⟨g, 0, none⟩), .int .i64 x] w (fun e w' => e = .returned (.tuple #[.agg #[.int .i64 0, .slice none 0 0], .int .i64 (-1)]) ∧ Below w.heap.size w w') := by
  obtain ⟨A, cc, bm, cnt, D, kg, r⟩ := hM
  have lg := kg.lt
  have z3 := kg.cell 3
  simp only [List.getElem?_cons_zero, List.getElem?_cons_succ] at z3
  clear r kg
  go_enter Try.func60, Try.ntmps60
  go_wp2
  exact bodyPost_ret (v := .tuple #[.agg #[.int .i64 0, .slice none 0 0], .int .i64 (-1)]) (by simp [results, Try.results60, go_sem]) rfl ⟨rfl, below_alloc _ _⟩
theorem told_yes (s : Ci) (x : Int) (base g : Nat) (w : World) (hM : MkAt w base g s false) :
    Calls Try.prog 60 #[.pointer (some ⟨g, 0, none⟩), .int .i64 x] w (fun e w' => ∃ A c, e = .returned (.tuple #[.agg #[.int .i64 s.ins, .slice A s.gates.length c], .int .i64 x]) ∧ w'.ownsRow base 90 2 (.slice A s.gates.length c) s.gates.length (fl s.gates) ∧ Below w.heap.size w w') := by
  obtain ⟨A, cc, bm, cnt, D, kg, ho, r⟩ := hM
  have lg := kg.lt
  have z0 := kg.cell 0
  have z1 := kg.cell 1
  have z3 := kg.cell 3
  simp only [List.getElem?_cons_zero, List.getElem?_cons_succ] at z0 z1 z3
  obtain ⟨m, gs⟩ := s
  dsimp only at *
  have HO := Lib.hid ho
  clear r kg ho
  go_enter Try.func60, Try.ntmps60
  go_wp2
  exact bodyPost_ret (v := .tuple #[.agg #[.int .i64 m, .slice A gs.length cc], .int .i64 x]) (by simp [results, Try.results60, go_sem]) rfl ⟨A, cc, rfl, HO.out.alloc _, below_alloc _ _⟩

set_option maxRecDepth 100000 in
set_option maxHeartbeats 2000000 in
theorem makerOf_any (s : Ci) (A : Option Addr) (n c : Nat) (w : World) (h1 : Mem.rd w w.heap.size [.slice A n c] s.gates) (h : Gd s) :
    Calls Try.prog 55 #[.agg #[.int .i64 s.ins, .slice A n c]] w (fun e w' => ∃ g, e = .returned (.pointer (some ⟨g, 0, none⟩)) ∧ MkAt w' w.heap.size g s false ∧ Below w.heap.size w w') := by
  have l1 := rd_len h1
  have hfew := h.few
  have PU := Lib.hid (fun k (hk : k < s.gates.length) g W (hM : MkAt W (w.heap.size + 1) g ⟨s.ins, s.gates.take k⟩ false) (hb : w.heap.size + 1 ≤ W.heap.size) =>
    put_any ⟨s.ins, s.gates.take k⟩ false (el s.gates k).a (el s.gates k).b (w.heap.size + 1) g W hM hb ⟨h.lo, h.hi, by show (s.gates.take k).length ≤ 600; rw [List.length_take]; omega, fun j hj => by
      dsimp only at hj ⊢
      rw [List.length_take] at hj
      have e : el (s.gates.take k) j = el s.gates j := by unfold el; rw [List.getElem?_take_of_lt (by omega)]
      rw [e]; exact h.gate j (by omega)⟩ (by show (s.gates.take k).length < 600; rw [List.length_take]; omega) (h.gate k hk).1 (h.gate k hk).2.1 (h.gate k hk).2.2.1 (h.gate k hk).2.2.2)
  have HT := Lib.hid (fun k (hk : k < s.gates.length) => take_ga hk)
  obtain ⟨m, gs⟩ := s
  dsimp only at *
  have L1 := Lib.hid l1
  have BX := Lib.hid (ci_box (w := w) (v1 := .int .i64 m) (v2 := .slice A n c) (t := 49))
  have hmm := fun W => run_makeMap_n Try.underlying145 (n : Int) W
  have hn : n ≤ 600 := by omega
  clear h l1 hfew
  go_enter Try.func55, Try.ntmps55
  go_wp2
  have M0 : MkAt (((w.alloc (.cells #[.int .i64 m, .slice A n c] 49)).alloc (.map #[] 0)).alloc (.cells #[.int .i64 m, .slice none 0 0, .map (some (w.heap.size + 1)), .bool false] 147)) (w.heap.size + 1) (w.heap.size + 1 + 1) ⟨m, []⟩ false := by
    refine ⟨none, 0, w.heap.size + 1, 0, .map [], ?_, World.ownsRow_nil _ _ _ _, ?_, Nat.le_refl _, fit_nil m, by omega, by omega, by omega, by simp [bl, Value.ownBlock]⟩
    · have k := ci_blk ((w.alloc (.cells #[.int .i64 m, .slice A n c] 49)).alloc (.map #[] 0)) #[.int .i64 m, .slice none 0 0, .map (some (w.heap.size + 1)), .bool false] 147
      rw [World.size_alloc, World.size_alloc] at k
      exact k
    · have k := World.ownsMap_made (w.alloc (.cells #[.int .i64 m, .slice A n c] 49)) Try.prog 90 (plainElem (H := Unit) Try.prog 3)
      rw [World.size_alloc] at k
      exact k.alloc _
  have B0 : Below w.heap.size w (((w.alloc (.cells #[.int .i64 m, .slice A n c] 49)).alloc (.map #[] 0)).alloc (.cells #[.int .i64 m, .slice none 0 0, .map (some (w.heap.size + 1)), .bool false] 147)) := ((below_alloc w _).alloc (by simp) _).alloc (by simp; omega) _
  have SZ : w.heap.size + 1 + 1 + 1 ≤ (((w.alloc (.cells #[.int .i64 m, .slice A n c] 49)).alloc (.map #[] 0)).alloc (.cells #[.int .i64 m, .slice none 0 0, .map (some (w.heap.size + 1)), .bool false] 147)).heap.size := by simp
  have HM := Lib.hid M0
  have HB := Lib.hid B0
  have HS := Lib.hid SZ
  clear M0 B0 SZ
  go_region_law (fail)
  all_goals
    go_wp2
    go_loopg [18] n (fun r i wr => ∃ k : Nat, k + r = n ∧ i = .int .i64 k ∧ MkAt wr (w.heap.size + 1) (w.heap.size + 1 + 1) ⟨m, gs.take k⟩ false ∧ Below w.heap.size w wr ∧ w.heap.size + 1 + 1 + 1 ≤ wr.heap.size)
    case atStart => exact ⟨0, by omega, rfl, mk_of_heap HM.out rfl, ⟨HB.out.os, HB.out.tape, HB.out.output, HB.out.size, HB.out.block⟩, HS.out⟩
    case round =>
      obtain ⟨k, hk, rfl, hM, B, hs⟩ := hrel
      by_cases hlt : k < n
      · obtain ⟨ad, rfl, hbl, d0, d1⟩ := ga_at (Mem.rd_below h1 B) hlt
        have PK := Lib.hid (PU.out k (by rw [L1.out]; exact hlt) (w.heap.size + 1 + 1) (wr.alloc (.cells #[.int .i64 (el gs k).a, .int .i64 (el gs k).b] 90)) (mk_below hM (below_alloc _ _)) (by simp; omega))
        have HK := Lib.hid (HT.out k (by rw [L1.out]; exact hlt))
        have kn : (k : Int) < n := by omega
        generalize el gs k = G at *
        obtain ⟨ga, gb⟩ := G
        dsimp only at *
        clear hM
        go_wp2_with (first | (go_at_call 97; refine PK.out.mono ?_; rintro e w5 ⟨rfl, hm5, b5, _⟩))
        go_roundg (n - (k + 1))
        case measure => omega
        case rel =>
          have z5 := b5.size
          rw [World.size_alloc] at z5
          exact ⟨k + 1, by omega, by go_num, by rw [HK.out]; exact hm5, (B.alloc (by omega) _).trans (b5.mono (by omega)), by omega⟩
      · obtain rfl : k = n := by omega
        go_wp2
        go_ret
        rw [List.take_of_length_le (Nat.le_of_eq L1.out)] at hM
        exact ⟨_, rfl, mk_lower hM (by omega), B⟩
end Go.Proofs.Ytnhjcokmajejcaa
