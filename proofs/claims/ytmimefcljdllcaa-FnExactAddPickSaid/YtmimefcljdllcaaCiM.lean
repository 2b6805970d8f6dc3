/- Circuits: NodeValues, in the program. -/
import Derived.Test.YtmimefcljdllcaaCiN
namespace Go.Proofs.Ytmimefcljdllcaa
open Go.RowKit

def colsOf (bits : List Int) : List (Nat → Bool) := bits.map fun x => fun _ => decide (x = 1)
theorem colsOf_len (bits : List Int) : (colsOf bits).length = bits.length := by simp [colsOf]
theorem rowOf_cols (bits : List Int) (j : Nat) : rowOfC (colsOf bits) j = false :: boL bits := by unfold rowOfC colsOf boL; rw [List.map_map]; rfl
theorem cols_succ {bits : List Int} {k d : Nat} (hk : k < bits.length) (hx : ix bits k = d) (hd : d < 2) : (colsOf (bits.take (k + 1))).map fw = (colsOf (bits.take k)).map fw ++ [fil d] := by
  rw [List.take_succ_eq_append_getElem hk]
  unfold colsOf
  rw [List.map_append, List.map_append]
  congr 1
  rw [ix_lt hk] at hx
  simp only [List.map_cons, List.map_nil, hx]
  unfold fil
  obtain rfl | rfl : d = 0 ∨ d = 1 := by omega
  · simp [fw_none]
  · simp [fw_all]

set_option maxRecDepth 100000 in
set_option maxHeartbeats 2000000 in
theorem nodeValues_main (s : Ci) (bits : List Int) (A : Option Addr) (n c : Nat) (A2 : Option Addr) (n2 c2 : Nat) (w : World) (h1 : Mem.rd w w.heap.size [.slice A n c] s.gates) (h2 : Mem.rd w w.heap.size [.slice A2 n2 c2] bits)
    (k1 : ckB s = true) (k2 : (bits.length : Int) = s.ins) (k3 : arB bits = true) :
    Calls Try.prog 18 #[.agg #[.int .i64 s.ins, .slice A n c], .slice A2 n2 c2] w (GivesL w (biL (valTo s.gates (false :: boL bits) s.gates.length))) := by
  have ok := ckB_iff.1 k1
  have CK := Lib.hid (fun W (B : Below w.heap.size w W) => ckValid_impl s A n c W (Mem.rd_on h1 B))
  have AR := Lib.hid (fun W (B : Below w.heap.size w W) => areBits_impl A2 n2 c2 bits W (Mem.rd_on h2 B))
  rw [k1] at CK
  rw [k3] at AR
  have l1 := rd_len h1
  have l2 := rd_len h2
  have HS := Lib.hid (fun W => size_any s A c W ok.lo ok.hi ok.few)
  rw [l1] at HS
  have en : s.nodes = ((1 + n2 + n : Nat) : Int) := by unfold Ci.nodes; omega
  rw [en] at HS
  have WD := Lib.hid (fun ad2 c3 W (B : Below w.heap.size w W) h => words_any s A n c (colsOf bits) ad2 n2 c3 W (Mem.rd_on h1 B) h ok (by rw [colsOf_len]; exact k2))
  have h2' := (rd_ints.1 h2).2
  have HB := Lib.hid (fun k (hk : k < n2) => arB_at k3 (k := k) (by omega))
  have hf := ok.few
  have hi := ok.hi
  obtain ⟨m, gs⟩ := s
  dsimp only at *
  obtain rfl : m = (n2 : Int) := by omega
  have L1 := Lib.hid l1
  have L2 := Lib.hid l2
  have hn : n ≤ 600 := by omega
  have hn2 : n2 ≤ 12 := by omega
  have BX := Lib.hid (ci_box (w := w) (v1 := .int .i64 n2) (v2 := .slice A n c) (t := 29))
  have ne : ((n2 : Int) != (n2 : Int)) = false := by simp
  have LW : Hid ((wsTo gs (colsOf bits) gs.length).length = 1 + n2 + n) := Lib.hid (by rw [wsTo_len, colsOf_len, l1, l2])
  have WA : Hid (∀ q, q < 1 + n2 + n → ∃ P : Nat → Bool, el (wsTo gs (colsOf bits) gs.length) q = fw P ∧ P 0 = el (valTo gs (false :: boL bits) gs.length) q) := Lib.hid (fun q hq => ⟨_, wsTo_at gs (colsOf bits) (by rw [colsOf_len, l1, l2]; exact hq), by rw [rowOf_cols]⟩)
  have LV : Hid ((valTo gs (false :: boL bits) gs.length).length = 1 + n2 + n) := Lib.hid (by rw [valTo_len, List.length_cons, boL_len, l1, l2]; omega)
  clear ok k1 k2 k3 l1 l2 hf hi en h1 h2
  go_enter Try.func18, Try.ntmps18
  go_wp2_with fail
  refine (CK.out _ (below_alloc _ _)).mono ?_
  rintro e w1 ⟨rfl, b1⟩
  obtain ⟨B1, x0, x1⟩ := BX.out _ b1
  go_wp2_with fail
  refine (AR.out _ B1).mono ?_
  rintro e w2 ⟨rfl, b2⟩
  have b12 := b1.trans (b2.mono b1.size)
  obtain ⟨B2, y0, y1⟩ := BX.out _ b12
  have z2 := b12.size
  rw [World.size_alloc] at z2
  clear x0 x1
  go_wp2_with (first | (at_make; refine make_us rfl _ _ rfl (w.heap.size + 1) .i64 .i64 _ _ 0 n2 rfl rfl rfl rfl (by omega) (by omega) z2 ?_; intro w3 ho0 hg3))
  have b13 := b12.trans ((Below.refl w2.heap.size w2).grown hg3 (Nat.le_refl _) (by simp) |>.mono b12.size)
  have hv0 : ∃ g cc, Value.slice (some ⟨w2.heap.size, 0, none⟩) 0 n2 = .slice (some ⟨g, 0, none⟩) 0 cc := ⟨_, _, rfl⟩
  go_loopg [5, 31] n2 (fun r v i wr => ∃ k : Nat, k + r = n2 ∧ i = .int .i64 k ∧ (∃ g cc, v = .slice (some ⟨g, 0, none⟩) k cc) ∧ wr.ownsRow (w.heap.size + 1) 58 1 v k (us ((colsOf (bits.take k)).map fw)) ∧ Below (w.alloc (.cells #[.int .i64 n2, .slice A n c] 29)).heap.size (w.alloc (.cells #[.int .i64 n2, .slice A n c] 29)) wr)
  case atStart => exact ⟨0, by omega, rfl, hv0, ho0, b13⟩
  case round =>
    clear ho0 b13 hv0 hg3
    obtain ⟨k, hk, rfl, ⟨g, cc, rfl⟩, ho, hb⟩ := hrel
    obtain ⟨B, x0, x1⟩ := BX.out _ hb
    have hs1 : w.heap.size + 1 ≤ wr.heap.size := by have := hb.size; rw [World.size_alloc] at this; exact this
    by_cases hlt : k < n2
    · obtain ⟨ad, rfl, hbl, d0⟩ := (h2'.below B).int hlt
      have kn : (k : Int) < n2 := by omega
      obtain ⟨d, hd, hx⟩ : ∃ d : Nat, d < 2 ∧ ix bits k = d := by
        rcases HB.out k hlt with h | h
        · exact ⟨0, by omega, h⟩
        · exact ⟨1, by omega, h⟩
      have HT := Lib.hid (cols_succ (by rw [L2.out]; exact hlt) hx hd)
      rw [hx] at d0
      have FC := Lib.hid (fun W => filled_any d W hd)
      clear hx
      generalize fil d = f at *
      go_wp2_with (first
        | (go_at_call 44; refine (FC.out _).mono ?_; rintro e w3 ⟨rfl, rfl⟩)
        | (at_builtin; refine app_us_at rfl _ _ rfl (w.heap.size + 1) _ k ((colsOf (bits.take k)).map fw) [f] _ 1 ⟨wr.heap.size, 0, none⟩ rfl (ho.alloc _) rfl rfl (by
            intro j u hu
            cases j with
            | zero => rw [add_zero', World.cell?_alloc_at _ _ _ _ rfl]; simpa [us] using hu
            | succ j => simp [us] at hu) (by omega) (by rw [World.size_alloc]; omega) ?_; intro v' w' ho4 hb4))
      go_roundg (n2 - (k + 1))
      case measure => omega
      case rel =>
        refine ⟨k + 1, by omega, by go_num, ?_, by rw [HT.out]; exact ho4, ?_⟩
        · rcases ho4.2 with ⟨_, h0⟩ | ⟨g', cap', _, e, _⟩
          · omega
          · exact ⟨g', cap', e⟩
        · rw [World.size_alloc] at hb ⊢
          exact (hb.alloc hs1 _).trans hb4
    · obtain rfl : k = n2 := by omega
      have HO : Hid (wr.ownsRow (w.heap.size + 1) 58 1 (.slice (some ⟨g, 0, none⟩) k cc) k (us ((colsOf bits).map fw))) := Lib.hid (by rwa [List.take_of_length_le (Nat.le_of_eq L2.out)] at ho)
      have LT : Hid (∀ q, q < 1 + k + n → (biL (valTo gs (false :: boL bits) gs.length)).take (q + 1) = (biL (valTo gs (false :: boL bits) gs.length)).take q ++ [bi (el (valTo gs (false :: boL bits) gs.length) q)]) := Lib.hid (fun q hq => by
        have hl : q < (biL (valTo gs (false :: boL bits) gs.length)).length := by rw [biL_len, LV.out]; exact hq
        rw [List.take_succ_eq_append_getElem hl, ← ix_lt hl, ix_biL (by rw [LV.out]; exact hq)])
      clear ho hlt hk h2' HB
      go_wp2_with fail
      refine (HS.out _).mono ?_
      rintro e w5 ⟨rfl, b5⟩
      have b5' := hb.trans (b5.mono hb.size)
      have z5 := b5'.size
      rw [World.size_alloc] at z5
      go_wp2_with (first
        | (at_make; refine wpList_make_own _ rfl _ _ 33 rfl (w.heap.size + 1) 3 intRow _ 1 Try.underlying33 int_row.1 int_row.2.1 int_row.2.2.1 _ _ _ (1 + k + n) rfl rfl rfl (by rw [int_row.2.2.2]; omega) (by unfold maxLen; omega) z5 ?_; intro w6 hown6 hg6
           have b56 : Below w5.heap.size w5 w6 := (Below.refl w5.heap.size w5).grown hg6 (Nat.le_refl _) (by simp)
           have b6 := b5'.trans (b56.mono b5'.size)
           obtain ⟨B6, q0, q1⟩ := BX.out _ b6)
        | (go_at_call 46; refine (WD.out ⟨g, 0, none⟩ cc w6 B6 (Rd.of_own (own_below HO.out (b5.trans (b56.mono b5.size))))).mono ?_; rintro e w7 ⟨vw, rfl, how, b7⟩
           rw [LW.out] at how
           obtain ⟨g7, cap7, e7⟩ : ∃ g7 cap7, vw = .slice (some ⟨g7, 0, none⟩) (1 + k + n) cap7 := by
             rcases how.2 with ⟨_, h0⟩ | ⟨g', cap', _, e, _⟩
             · omega
             · exact ⟨g', cap', e⟩
           subst e7))
      have gl7 := how.lt g7 rfl
      have b67 := b6.trans (b7.mono b6.size)
      have i7 : IL w7 (w.heap.size + 1) 3 (.slice (some ⟨w5.heap.size, 0, none⟩) 0 (1 + k + n)) 0 ((biL (valTo gs (false :: boL bits) gs.length)).take 0) [w5.heap.size] := ⟨own_below hown6 b7, rfl⟩
      have z56 : w5.heap.size < w6.heap.size := hown6.lt w5.heap.size rfl |>.2
      have HW := Lib.hid how
      have F0 : ∀ b ∈ [w5.heap.size], b < w6.heap.size ∨ w7.heap.size ≤ b := fun b hb => by simp at hb; omega
      clear how hown6 hg6 q0 q1 x0 x1 y0 y1 HO
      generalize valTo gs (false :: boL bits) gs.length = V at *
      generalize wsTo gs (colsOf bits) gs.length = ws at *
      go_loopg [8, 48] (1 + k + n) (fun r v i wt => ∃ (q : Nat) (fp : List Nat), q + r = 1 + k + n ∧ i = .int .i64 q ∧ IL wt (w.heap.size + 1) 3 v q ((biL V).take q) fp ∧ Hid (∀ b ∈ fp, b < w6.heap.size ∨ w7.heap.size ≤ b) ∧ w7.heap.size ≤ wt.heap.size ∧
        Hid (wt.ownsRow w6.heap.size 58 1 (.slice (some ⟨g7, 0, none⟩) (1 + k + n) cap7) (1 + k + n) (us ws)) ∧ Below (w.alloc (.cells #[.int .i64 k, .slice A n c] 29)).heap.size (w.alloc (.cells #[.int .i64 k, .slice A n c] 29)) wt)
      case atStart => exact ⟨0, _, by omega, rfl, i7, Lib.hid F0, Nat.le_refl _, HW, b67⟩
      case round =>
        clear i7 F0 HW b67
        obtain ⟨q, fp, hq, rfl, hI, hF, hz, hw, hb⟩ := hrel
        obtain ⟨B, x0, x1⟩ := BX.out _ hb
        have hs1 : w.heap.size + 1 ≤ wr.heap.size := by have := hb.size; rw [World.size_alloc] at this; exact this
        by_cases hlt : q < 1 + k + n
        · obtain ⟨ad, ea, hbl, d0⟩ := us_read (Rd.of_own hw.out) hlt
          injection ea with ea; subst ea
          obtain ⟨P, e1, e2⟩ := WA.out q hlt
          rw [cell_at, e1] at d0
          have HT := LT.out q hlt
          rw [← e2] at HT
          have ba : Go.bits BinOp.and IntKind.u64 ((fw P : Nat) : Int) 1 = bi (P 0) := by
            have := bits_and_u64_nat (fw P) 1 (fw_lt P) (by omega)
            rw [fw_one] at this
            refine this.trans ?_
            cases P 0 <;> rfl
          have rb := bi_range (P 0)
          have HT := Lib.hid HT
          generalize bi (P 0) = y at *
          generalize fw P = W at *
          clear e1 e2
          have kn : (q : Int) < ((1 + k + n : Nat) : Int) := by omega
          go_wp2_with (first | (at_builtin; refine app_il rfl _ _ rfl rfl (hI.below (below_alloc _ _)) rfl (World.cell?_alloc_at _ _ _ _ rfl) (by omega) (by rw [World.size_alloc]; omega) ?_; intro v' w' fp' hI' hO' hf'))
          go_roundg (1 + k + n - (q + 1))
          case measure => omega
          case rel =>
            have hsz := hO'.size
            rw [World.size_alloc] at hsz
            refine ⟨q + 1, fp', by omega, by go_num, by rw [HT.out]; exact hI', Lib.hid (fun b hb => ?_), by omega, Lib.hid (row_only (hw.out.alloc _) hO' (fun b hb hc => ?_)), ?_⟩
            · rcases hf' b hb with h | h
              · exact hF.out b h
              · rw [World.size_alloc] at h; omega
            · have := mem_bl.1 hb
              simp [Value.ownBlock] at this
              have := hF.out b hc
              omega
            · rw [World.size_alloc] at hb ⊢
              have := (hb.alloc hs1 _).trans (hO'.below (B := w.heap.size + 1) (by rw [World.size_alloc]; omega) (fun b hb => (hI.lt b hb).1))
              exact this
        · obtain rfl : q = 1 + k + n := by omega
          have E : Hid ((biL V).take (1 + k + n) = biL V) := Lib.hid (List.take_of_length_le (by rw [biL_len, LV.out]; exact Nat.le_refl _))
          rw [E.out] at hI
          obtain ⟨Av, cv, ev⟩ := row_slice hI.1
          subst ev
          go_wp2
          go_ret
          obtain ⟨o, nd⟩ := hI.out (by unfold maxLen; omega)
          exact ⟨_, _, _, fp, rfl, o, nd, fun b hb => by have := (hI.lt b hb).1; omega, B⟩
end Go.Proofs.Ytmimefcljdllcaa
