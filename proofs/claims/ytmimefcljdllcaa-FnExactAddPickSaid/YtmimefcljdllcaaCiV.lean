/- Circuits: EdgeValue, in the model and in the program. -/
import Derived.Test.YtmimefcljdllcaaCiE
namespace Go.Proofs.Ytmimefcljdllcaa
open Go.RowKit

theorem rd_new1 (W : World) (a : Int) : Mem.rd (W.alloc (.cells #[.int .i64 a] 3)) (W.alloc (.cells #[.int .i64 a] 3)).heap.size [.slice (some ⟨W.heap.size, 0, none⟩) 1 1] [a] :=
  rd_ints.2 ⟨by unfold maxLen; omega, Rd.of_own (World.ownsRow_lit (base := 0) (e := 3) (size := 1) W #[.int .i64 a] 1 (Nat.zero_le _) (by unfold maxLen; omega) rfl)⟩
theorem rd_new2 (W : World) (a b : Int) : Mem.rd (W.alloc (.cells #[.int .i64 a, .int .i64 b] 3)) (W.alloc (.cells #[.int .i64 a, .int .i64 b] 3)).heap.size [.slice (some ⟨W.heap.size, 0, none⟩) 2 2] [a, b] :=
  rd_ints.2 ⟨by unfold maxLen; omega, Rd.of_own (World.ownsRow_lit (base := 0) (e := 3) (size := 1) W #[.int .i64 a, .int .i64 b] 2 (Nat.zero_le _) (by unfold maxLen; omega) rfl)⟩
theorem rd_new3 (W : World) (a b c : Int) : Mem.rd (W.alloc (.cells #[.int .i64 a, .int .i64 b, .int .i64 c] 3)) (W.alloc (.cells #[.int .i64 a, .int .i64 b, .int .i64 c] 3)).heap.size [.slice (some ⟨W.heap.size, 0, none⟩) 3 3] [a, b, c] :=
  rd_ints.2 ⟨by unfold maxLen; omega, Rd.of_own (World.ownsRow_lit (base := 0) (e := 3) (size := 1) W #[.int .i64 a, .int .i64 b, .int .i64 c] 3 (Nat.zero_le _) (by unfold maxLen; omega) rfl)⟩
theorem valsB_nil {s : Ci} {bits : List Int} (h : ¬ (ckB s = true ∧ (bits.length : Int) = s.ins ∧ arB bits = true)) : valsB s bits = [] := if_neg h
theorem edgeB_no {s : Ci} {bits : List Int} {e : Int} (h : ¬ (ckB s = true ∧ (bits.length : Int) = s.ins ∧ arB bits = true ∧ isE s e = true)) : edgeB s bits e = -1 := if_neg h

set_option maxHeartbeats 1000000 in
theorem edgeValue_spec (s : Ci) (bits : List Int) (x : Int) (A : Option Addr) (n c : Nat) (A2 : Option Addr) (n2 c2 : Nat) (w : World) (h1 : Mem.rd w w.heap.size [.slice A n c] s.gates) (h2 : Mem.rd w w.heap.size [.slice A2 n2 c2] bits) :
    Calls Try.prog 23 #[.agg #[.int .i64 s.ins, .slice A n c], .slice A2 n2 c2, .int .i64 x] w (GivesInt w (edgeB s bits x)) := by
  have NV := Lib.hid (fun W (B : Below w.heap.size w W) => nodeValues_spec s bits A n c A2 n2 c2 W (Mem.rd_on h1 B) (Mem.rd_on h2 B))
  have l1 := rd_len h1
  have BX := Lib.hid (ci_box (w := w) (v1 := .int .i64 s.ins) (v2 := .slice A n c) (t := 29))
  by_cases h : ckB s = true ∧ (bits.length : Int) = s.ins ∧ arB bits = true
  · have ok := ckB_iff.1 h.1
    have LE := Lib.hid (fun W => l7Edge_any s A c x W ok.lo ok.hi ok.few)
    have hv : valsB s bits = biL (valTo s.gates (false :: boL bits) s.gates.length) := if_pos h
    rw [hv] at NV
    have hl : (valTo s.gates (false :: boL bits) s.gates.length).length = 1 + bits.length + n := by rw [valTo_len, List.length_cons, boL_len, l1]; omega
    have hnn : s.nodes = ((1 + bits.length + n : Nat) : Int) := by unfold Ci.nodes; omega
    have hn6 : 1 + bits.length + n ≤ 1000 := by have := ok.few; have := ok.hi; omega
    rw [l1] at LE
    by_cases he : isE s x = true
    · have hE : edgeB s bits x = bi (ofB (valTo s.gates (false :: boL bits) s.gates.length) x) := if_pos ⟨h.1, h.2.1, h.2.2, he⟩
      rw [hE]
      rw [he] at LE
      obtain ⟨x0, x1⟩ := isE_iff.1 he
      rw [hnn] at x1
      generalize valTo s.gates (false :: boL bits) s.gates.length = V at *
      generalize 1 + bits.length + n = N at *
      have hLB : (biL V).length = N := by rw [biL_len]; exact hl
      obtain ⟨m, gs⟩ := s
      dsimp only at *
      clear h1 h2 h ok hv hE he hnn l1
      go_enter Try.func23, Try.ntmps23
      go_wp2_with fail
      refine (NV.out _ (below_alloc _ _)).mono ?_
      rintro e w1 ⟨A3, n3, c3, fp, rfl, o3, nd3, lo3, b1⟩
      obtain rfl : n3 = N := by have := rd_len (Mem.own_rd o3); omega
      obtain ⟨B1, y0, y1⟩ := BX.out _ b1
      have hn3 : ((n3 : Int) == 0) = false := by simp; omega
      have HO := Lib.hid o3
      clear o3 nd3 lo3
      go_wp2_with fail
      refine (LE.out _).mono ?_
      rintro e w2 ⟨rfl, b2⟩
      have o4 := Mem.own_below HO.out b2
      go_wp2_with fail
      refine (l7Of_any A3 n3 c3 V x _ (rd_ints.1 (Mem.own_rd o4)).2 x0 (by omega) (by omega)).mono ?_
      rintro e w3 ⟨rfl, rfl⟩
      go_wp2
      go_ret
      exact ⟨rfl, B1.trans (b2.mono B1.size)⟩
    · have hE : edgeB s bits x = -1 := edgeB_no (fun q => he q.2.2.2)
      rw [hE]
      have he' : isE s x = false := by simpa using he
      rw [he'] at LE
      generalize valTo s.gates (false :: boL bits) s.gates.length = V at *
      generalize 1 + bits.length + n = N at *
      have hLB : (biL V).length = N := by rw [biL_len]; exact hl
      obtain ⟨m, gs⟩ := s
      dsimp only at *
      clear h1 h2 h ok hv hE he hnn l1 he'
      go_enter Try.func23, Try.ntmps23
      go_wp2_with fail
      refine (NV.out _ (below_alloc _ _)).mono ?_
      rintro e w1 ⟨A3, n3, c3, fp, rfl, o3, nd3, lo3, b1⟩
      obtain ⟨B1, y0, y1⟩ := BX.out _ b1
      by_cases hz : n3 = 0
      · have hn3 : ((n3 : Int) == 0) = true := by simp [hz]
        clear o3 nd3 lo3
        go_wp2
        go_ret
        exact ⟨rfl, B1⟩
      · have hn3 : ((n3 : Int) == 0) = false := by simp [hz]
        clear o3 nd3 lo3
        go_wp2_with fail
        refine (LE.out _).mono ?_
        rintro e w2 ⟨rfl, b2⟩
        go_wp2
        go_ret
        exact ⟨rfl, B1.trans (b2.mono B1.size)⟩
  · rw [valsB_nil h] at NV
    have hE : edgeB s bits x = -1 := edgeB_no (fun q => h ⟨q.1, q.2.1, q.2.2.1⟩)
    rw [hE]
    obtain ⟨m, gs⟩ := s
    dsimp only at *
    clear h1 h2 h hE l1
    go_enter Try.func23, Try.ntmps23
    go_wp2_with fail
    refine (NV.out _ (below_alloc _ _)).mono ?_
    rintro e w1 ⟨A3, n3, c3, fp, rfl, o3, nd3, lo3, b1⟩
    obtain rfl : n3 = 0 := by have := rd_len (Mem.own_rd o3); simpa using this.symm
    obtain ⟨B1, y0, y1⟩ := BX.out _ b1
    clear o3 nd3 lo3
    go_wp2
    go_ret
    exact ⟨rfl, B1⟩

set_option maxHeartbeats 1000000 in
theorem edgeValue_impl (s : Ci) (bits : List Int) (x : Int) (A : Option Addr) (n c : Nat) (A2 : Option Addr) (n2 c2 : Nat) (w : World) (h1 : Mem.rd w w.heap.size [.slice A n c] s.gates) (h2 : Mem.rd w w.heap.size [.slice A2 n2 c2] bits) :
    Calls Try.prog 24 #[.agg #[.int .i64 s.ins, .slice A n c], .slice A2 n2 c2, .int .i64 x] w (GivesInt w (edgeB s bits x)) := by
  have NV := Lib.hid (fun W (B : Below w.heap.size w W) => nodeValues_impl s bits A n c A2 n2 c2 W (Mem.rd_on h1 B) (Mem.rd_on h2 B))
  have HE := Lib.hid (fun W (B : Below w.heap.size w W) => hasEdges_any s A n c (some ⟨W.heap.size, 0, none⟩) 1 1 [x] (W.alloc (.cells #[.int .i64 x] 3)) (Mem.rd_on_alloc (Mem.rd_on h1 B) _) (rd_new1 W x))
  have l1 := rd_len h1
  have BX := Lib.hid (ci_box (w := w) (v1 := .int .i64 s.ins) (v2 := .slice A n c) (t := 29))
  have hae : areE s [x] = isE s x := by simp [areE]
  rw [hae] at HE
  by_cases h : ckB s = true ∧ (bits.length : Int) = s.ins ∧ arB bits = true
  · have ok := ckB_iff.1 h.1
    have hv : valsB s bits = biL (valTo s.gates (false :: boL bits) s.gates.length) := if_pos h
    rw [hv] at NV
    have hl : (valTo s.gates (false :: boL bits) s.gates.length).length = 1 + bits.length + n := by rw [valTo_len, List.length_cons, boL_len, l1]; omega
    have hnn : s.nodes = ((1 + bits.length + n : Nat) : Int) := by unfold Ci.nodes; omega
    have hn6 : 1 + bits.length + n ≤ 1000 := by have := ok.few; have := ok.hi; omega
    rw [h.1] at HE
    by_cases he : isE s x = true
    · have hE : edgeB s bits x = bi (ofB (valTo s.gates (false :: boL bits) s.gates.length) x) := if_pos ⟨h.1, h.2.1, h.2.2, he⟩
      rw [hE]
      rw [he] at HE
      obtain ⟨x0, x1⟩ := isE_iff.1 he
      rw [hnn] at x1
      generalize valTo s.gates (false :: boL bits) s.gates.length = V at *
      generalize 1 + bits.length + n = N at *
      have hLB : (biL V).length = N := by rw [biL_len]; exact hl
      obtain ⟨p, d, hd, ee, _⟩ := edge_parts x0
      obtain ⟨y, hy, ey, er⟩ := along_bits (L := V) x0 hd ee
      rw [← er]
      have hp : p < N := by omega
      have eix : ix (biL V) p = y := by rw [ix_biL (by omega)]; exact ey
      obtain ⟨m, gs⟩ := s
      dsimp only at *
      have hx1 := Lib.hid x1
      have EE := Lib.hid ee
      clear h1 h2 h ok hv hE he hnn l1 hae x1 er ey ee
      go_enter Try.func24, Try.ntmps24
      go_wp2_with fail
      refine (NV.out _ (below_alloc _ _)).mono ?_
      rintro e w1 ⟨A3, n3, c3, fp, rfl, o3, nd3, lo3, b1⟩
      obtain rfl : n3 = N := by have := rd_len (Mem.own_rd o3); omega
      obtain ⟨B1, y0, y1⟩ := BX.out _ b1
      have hn3 : ((n3 : Int) == 0) = false := by simp; omega
      have HO := Lib.hid o3
      clear o3 nd3 lo3
      go_wp2_with fail
      refine (HE.out _ B1).mono ?_
      rintro e w2 ⟨rfl, b2⟩
      have b2' := below_call b2
      have o4 := Mem.own_below HO.out b2'
      go_wp2_with fail
      refine (along_any A3 n3 c3 (biL V) x p d y _ (rd_ints.1 (Mem.own_rd o4)).2 hd EE.out hp eix (by omega) (by omega)).mono ?_
      rintro e w3 ⟨rfl, rfl⟩
      go_wp2
      go_ret
      exact ⟨rfl, B1.trans (b2'.mono B1.size)⟩
    · have hE : edgeB s bits x = -1 := edgeB_no (fun q => he q.2.2.2)
      rw [hE]
      have he' : isE s x = false := by simpa using he
      rw [he'] at HE
      generalize valTo s.gates (false :: boL bits) s.gates.length = V at *
      obtain ⟨m, gs⟩ := s
      dsimp only at *
      clear h1 h2 h ok hv hE he hnn l1 he' hae
      go_enter Try.func24, Try.ntmps24
      go_wp2_with fail
      refine (NV.out _ (below_alloc _ _)).mono ?_
      rintro e w1 ⟨A3, n3, c3, fp, rfl, o3, nd3, lo3, b1⟩
      obtain ⟨B1, y0, y1⟩ := BX.out _ b1
      by_cases hz : n3 = 0
      · have hn3 : ((n3 : Int) == 0) = true := by simp [hz]
        clear o3 nd3 lo3
        go_wp2
        go_ret
        exact ⟨rfl, B1⟩
      · have hn3 : ((n3 : Int) == 0) = false := by simp [hz]
        clear o3 nd3 lo3
        go_wp2_with fail
        refine (HE.out _ B1).mono ?_
        rintro e w2 ⟨rfl, b2⟩
        go_wp2
        go_ret
        exact ⟨rfl, B1.trans ((below_call b2).mono B1.size)⟩
  · rw [valsB_nil h] at NV
    have hE : edgeB s bits x = -1 := edgeB_no (fun q => h ⟨q.1, q.2.1, q.2.2.1⟩)
    rw [hE]
    obtain ⟨m, gs⟩ := s
    dsimp only at *
    clear h1 h2 h hE l1 hae
    go_enter Try.func24, Try.ntmps24
    go_wp2_with fail
    refine (NV.out _ (below_alloc _ _)).mono ?_
    rintro e w1 ⟨A3, n3, c3, fp, rfl, o3, nd3, lo3, b1⟩
    obtain rfl : n3 = 0 := by have := rd_len (Mem.own_rd o3); simpa using this.symm
    obtain ⟨B1, y0, y1⟩ := BX.out _ b1
    clear o3 nd3 lo3
    go_wp2
    go_ret
    exact ⟨rfl, B1⟩
end Go.Proofs.Ytmimefcljdllcaa
