/- Circuits: the values of all nodes, in the model. -/
import Derived.Test.YtnhjcokmajejcaaDoorCiS
namespace Go.Proofs.YtnhjcokmajejcaaDoor
open Go.RowKit

set_option maxRecDepth 100000 in
set_option maxHeartbeats 600000 in
theorem l7Run_any (s : Ci) (A : Option Addr) (n c : Nat) (A2 : Option Addr) (n2 c2 : Nat) (bits : List Int) (w : World) (h1 : Mem.rd w w.heap.size [.slice A n c] s.gates) (h2 : Mem.rd w w.heap.size [.slice A2 n2 c2] bits) (ok : s.Ok) (hb : (bits.length : Int) = s.ins) (ha : arB bits = true) :
    Calls Tryd.prog 30 #[.agg #[.int .i64 s.ins, .slice A n c], .slice A2 n2 c2] w (GivesInts w (biL (valTo s.gates (false :: boL bits) s.gates.length))) := by
  have l1 := rd_len h1
  have l2 := rd_len h2
  have HI := ok.hi
  have HF := ok.few
  have HG := Lib.hid ok.gate
  have h2' := (rd_ints.1 h2).2
  obtain ⟨m, gs⟩ := s
  dsimp only at *
  obtain rfl : m = (n2 : Int) := by omega
  have L1 := Lib.hid l1
  have L2 := Lib.hid l2
  have hn : n ≤ 600 := by omega
  have hn2 : n2 ≤ 12 := by omega
  have EB : Hid (biL (false :: boL bits) = 0 :: bits) := Lib.hid (by show bi false :: biL (boL bits) = _; rw [biL_boL ha]; rfl)
  have LB : Hid ((false :: boL bits).length = 1 + n2) := Lib.hid (by rw [List.length_cons, boL_len, l2]; omega)
  have BX := Lib.hid (ci_box (w := w) (v1 := .int .i64 n2) (v2 := .slice A n c) (t := 29))
  clear l1 l2 HI HF ok hb ha
  go_enter Tryd.func30, Tryd.ntmps30
  go_wp2
  have hown0 := World.ownsRow_lit (base := w.heap.size + 1) (e := 3) (size := 1) (w.alloc (.cells #[.int .i64 n2, .slice A n c] 29)) #[.int .i64 0] 1 (by simp) (by unfold maxLen; omega) rfl
  rw [World.size_alloc] at hown0
  go_loopg [5, 6] n2 (fun r v i wr => ∃ k : Nat, k + r = n2 ∧ i = .int .i64 k ∧ wr.ownsRow (w.heap.size + 1) 3 1 v (1 + k) (ints (0 :: bits.take k)) ∧ Below (w.alloc (.cells #[.int .i64 n2, .slice A n c] 29)).heap.size (w.alloc (.cells #[.int .i64 n2, .slice A n c] 29)) wr)
  case atStart => exact ⟨0, by omega, rfl, hown0, below_alloc _ _⟩
  case round =>
    clear hown0
    obtain ⟨k, hk, rfl, ho, hb⟩ := hrel
    obtain ⟨B, x0, x1⟩ := BX.out _ hb
    have hs1 : w.heap.size + 1 ≤ wr.heap.size := by have := hb.size; rw [World.size_alloc] at this; exact this
    by_cases hlt : k < n2
    · obtain ⟨ad, rfl, hbl, d0⟩ := (h2'.below B).int hlt
      have kn : (k : Int) < n2 := by omega
      have HT : Hid (0 :: bits.take (k + 1) = (0 :: bits.take k) ++ [ix bits k]) := Lib.hid (by
        have hk2 : k < bits.length := by rw [L2.out]; exact hlt
        rw [List.take_succ_eq_append_getElem hk2, ix_lt hk2]; rfl)
      go_wp2_with (first | (at_builtin; refine app_int_at rfl _ _ rfl (w.heap.size + 1) _ (1 + k) (0 :: bits.take k) (ix bits k) _ rfl (ho.alloc _) rfl (World.cell?_alloc_at _ _ _ _ rfl) (by omega) (by rw [World.size_alloc]; omega) ?_; intro v' w' ho4 hb4))
      go_roundg (n2 - (k + 1))
      case measure => omega
      case rel =>
        refine ⟨k + 1, by omega, by go_num, by rw [HT.out]; exact ho4, ?_⟩
        rw [World.size_alloc] at hb ⊢
        exact (hb.alloc hs1 _).trans hb4
    · obtain rfl : k = n2 := by omega
      have HO : Hid (wr.ownsRow (w.heap.size + 1) 3 1 (_) (1 + k) (ints (biL (valTo gs (false :: boL bits) 0)))) := Lib.hid (by
        show World.ownsRow _ _ _ _ _ _ (ints (biL (false :: boL bits)))
        rw [EB.out, ← List.take_of_length_le (l := bits) (Nat.le_of_eq L2.out)]; exact ho)
      clear ho
      go_wp2
      go_loopg [5, 7] n (fun r v i wr => ∃ q : Nat, q + r = n ∧ i = .int .i64 q ∧ Hid (wr.ownsRow (w.heap.size + 1) 3 1 v (1 + k + q) (ints (biL (valTo gs (false :: boL bits) q)))) ∧ Below (w.alloc (.cells #[.int .i64 k, .slice A n c] 29)).heap.size (w.alloc (.cells #[.int .i64 k, .slice A n c] 29)) wr)
      case atStart => exact ⟨0, by omega, rfl, HO, hb⟩
      case round =>
        clear HO hb B x0 x1 hs1 hlt hk
        obtain ⟨q, hq, rfl, ho, hb⟩ := hrel
        obtain ⟨B, x0, x1⟩ := BX.out _ hb
        have hs1 : w.heap.size + 1 ≤ wr.heap.size := by have := hb.size; rw [World.size_alloc] at this; exact this
        by_cases hlt : q < n
        · obtain ⟨ad, rfl, hbl, d0, d1⟩ := ga_at (Mem.rd_below h1 B) hlt
          have ok1 := HG.out q (by rw [L1.out]; exact hlt)
          have HV : Hid (biL (valTo gs (false :: boL bits) (q + 1)) = biL (valTo gs (false :: boL bits) q) ++ [bi (ofB (valTo gs (false :: boL bits) q) (el gs q).a) * bi (ofB (valTo gs (false :: boL bits) q) (el gs q).b)]) := Lib.hid (by
            rw [← bi_and]; show biL (valTo gs (false :: boL bits) q ++ [_]) = _; unfold biL; rw [List.map_append]; rfl)
          have HLV : Hid ((valTo gs (false :: boL bits) q).length = 1 + k + q) := Lib.hid (by rw [valTo_len, LB.out])
          generalize valTo gs (false :: boL bits) q = V at *
          generalize el gs q = g at *
          obtain ⟨a, b⟩ := g
          obtain ⟨a0, a1, b0, b1⟩ := ok1
          dsimp only at *
          rcases ho.out.2 with ⟨_, hz⟩ | ⟨g, cap, cur, rfl, _, _⟩
          · omega
          have C1 := Lib.hid (fun W (hW : W.heap = wr.heap) x (x0 : 0 ≤ x) (x1 : x < 2 * ((1 + k + q : Nat) : Int)) => l7Of_any (some ⟨g, 0, none⟩) (1 + k + q) cap V x W (rd_of_heap ho.out hW) x0 x1 (by omega))
          have wz : IntKind.i64.wrap (bi (ofB V a) * bi (ofB V b)) = bi (ofB V a) * bi (ofB V b) := by
            rw [← bi_and]; exact IntWalk.i64_in _ (by have := bi_range (ofB V a && ofB V b); omega)
          have HO := Lib.hid (fun o => ho.out.alloc o)
          have kn : (q : Int) < n := by omega
          go_wp2
          have gl := ho.out.lt g rfl
          have hx1 : w.heap.size < wr.heap.size := by omega
          have hx2 : ad.block < wr.heap.size := by omega
          have KX := Lib.hid (fun o => (World.cell?_alloc_lt wr o ⟨w.heap.size, 1, none⟩ hx1).trans x1)
          have K0 := Lib.hid (fun o => (World.cell?_alloc_lt wr o (ad.add (q * 2)) (by rw [add_block]; exact hx2)).trans d0)
          have K1 := Lib.hid (fun o => (World.cell?_alloc_lt wr o ⟨(ad.add (q * 2)).block, (ad.add (q * 2)).off + 1, none⟩ (by show (ad.add (q * 2)).block < _; rw [add_block]; exact hx2)).trans d1)
          go_region_held3 (fun w' => w'.cell? ⟨w.heap.size, 1, none⟩ = some (.slice (some ad) n c) ∧ w'.cell? (ad.add (q * 2)) = some (.int .i64 a) ∧ w'.cell? ⟨(ad.add (q * 2)).block, (ad.add (q * 2)).off + 1, none⟩ = some (.int .i64 b))
            (first
              | go_keep
              | (refine ⟨?_, ?_, ?_⟩
                 · exact cell_grown hg4 (by simp; omega) (by simp [Value.ownBlock]; omega) (KX.out _)
                 · exact cell_grown hg4 (by simp [add_block]; omega) (by simp [Value.ownBlock, add_block]; omega) (K0.out _)
                 · exact cell_grown hg4 (by simp [add_block]; omega) (by simp [Value.ownBlock, add_block]; omega) (K1.out _)))
            (first
              | (go_simp; go_at_call 32; refine (C1.out wr.drew rfl _ (by assumption) (by omega)).mono ?_; rintro e w3 ⟨rfl, rfl⟩)
              | (refine step_app_int (by rfl) _ _ (by rfl) (w.heap.size + 1) _ (1 + k + q) _ (bi (ofB V a) * bi (ofB V b)) _ (by rfl) (own_of_heap (HO.out _) rfl) (by rfl) (by first | exact World.cell?_alloc_at _ _ _ _ (by simp) | (simp [go_sem]; done)) (by omega) (by simp; omega) ?_; intro v' w4 ho4 hg4 hk4))
          all_goals
            go_wp2
            go_roundg (n - (q + 1))
            case measure => omega
            case rel =>
              refine ⟨q + 1, by omega, by go_num, Lib.hid (by rw [HV.out]; exact ho4), ?_⟩
              rw [World.size_alloc] at hb ⊢
              exact ((hb.alloc hs1 _).drew).grown hg4 (by simp; omega) (fun b hb => by simp [Value.ownBlock] at hb; omega)
        · obtain rfl : q = n := by omega
          have HR := ho
          go_wp2
          go_ret
          refine ⟨_, rfl, ?_, B⟩
          rw [biL_len, valTo_len, LB.out, L1.out]
          exact own_lower HR.out (by omega)
end Go.Proofs.YtnhjcokmajejcaaDoor
