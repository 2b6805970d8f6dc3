/- The values of the inputs in 64 rows of bits; the words of a truth, in the program. -/
import Derived.Test.YtnhjcokmajejcaaDoorDoorC
import Derived.Test.YtnhjcokmajejcaaDoorOw
namespace Go.Proofs.YtnhjcokmajejcaaDoor
open Go.RowKit
set_option maxRecDepth 100000

/-- A row of words of the call's own that is not nil. -/
def GivesUS (w : World) (l : List Nat) (e : Ending) (w' : World) : Prop := ∃ g c, e = .returned (.slice (some ⟨g, 0, none⟩) l.length c) ∧ w'.ownsRow w.heap.size 64 1 (.slice (some ⟨g, 0, none⟩) l.length c) l.length (us l) ∧ Below w.heap.size w w'
theorem colsB_succ (b q : Nat) : (colsB b (q + 1)).map fw = (colsB b q).map fw ++ [fw (colB b q)] := by
  unfold colsB
  rw [List.range_succ, List.map_append, List.map_append]; rfl
theorem fil_col {b i : Nat} (h : ¬ i < 6) : fil (b / 2 ^ (i - 6) % 2) = fw (colB b i) := by
  unfold fil
  have e : ∀ j, colB b i j = b.testBit (i - 6) := fun j => if_neg h
  by_cases q : b / 2 ^ (i - 6) % 2 = 1
  · rw [if_pos q, ← fw_all]
    refine fw_congr fun j _ => ?_
    rw [e, Nat.testBit_eq_decide_div_mod_eq, decide_eq_true q]
  · rw [if_neg q, ← fw_none]
    refine fw_congr fun j _ => ?_
    rw [e, Nat.testBit_eq_decide_div_mod_eq, decide_eq_false q]
theorem one_us {W : World} {z : Nat} (o : Array Value) (t : TypeId) (ho : o = #[.int .u64 (z : Int)]) : ∀ j u, (us [z])[j]? = some u → (W.alloc (.cells o t)).cell? ((⟨W.heap.size, 0, none⟩ : Addr).add j) = some u := by
  subst ho
  intro j u hu
  cases j with
  | zero => rw [add_zero', World.cell?_alloc_at _ _ _ _ rfl]; simpa [us] using hu
  | succ j => simp [us] at hu

set_option maxHeartbeats 4000000 in
theorem columnsOf_any (b n : Nat) (hb : b < 4096) (hn : n ≤ 12) (w : World) (hT : DoorAt w) :
    Calls Tryd.prog 84 #[.int .i64 b, .int .i64 n] w (GivesUS w ((colsB b n).map fw)) := by
  have HT := Lib.hid (fun W (B : Below w.heap.size w W) => hT.on B)
  have L : Hid (((colsB b n).map fw).length = n) := Lib.hid (by rw [List.length_map, colsB_len])
  go_enter Tryd.func84, Tryd.ntmps84
  go_wp2_with (first
    | (at_make; refine make_us rfl _ _ rfl w.heap.size .i64 .i64 _ _ 0 n rfl rfl rfl rfl (Nat.zero_le _) (by omega) (Nat.le_refl _) ?_; intro w2 hown2 hg2
       have b2 := (Below.refl w.heap.size w).grown hg2 (Nat.le_refl _) (by simp)))
  go_loopg [5, 6, 10] n (fun r v i6 i wr => ∃ (q g c : Nat), q + r = n ∧ i = .int .i64 q ∧ v = .slice (some ⟨g, 0, none⟩) q c ∧ Hid (wr.ownsRow w.heap.size 64 1 (.slice (some ⟨g, 0, none⟩) q c) q (us ((colsB b q).map fw))) ∧ Below w.heap.size w wr)
  case atStart => exact ⟨0, _, _, by omega, rfl, rfl, Lib.hid hown2, b2⟩
  case round =>
    clear hown2 b2 hg2
    obtain ⟨q, g, c, hq, rfl, rfl, ho, hb'⟩ := hrel
    by_cases hlt : q < n
    · have kn : (q : Int) < n := by omega
      have CS := Lib.hid (colsB_succ b q)
      have hz := hb'.size
      by_cases h6 : q < 6
      · have c0 := (HT.out _ hb').2 q h6
        rw [tab_col b h6] at c0
        have q6 : (q : Int) < 6 := by omega
        have l0 := (HT.out _ hb').1
        generalize fw (colB b q) = z at *
        go_wp2_with (first
          | (at_builtin; refine app_us_at rfl _ _ rfl w.heap.size _ q ((colsB b q).map fw) [z] _ 1 ⟨wr.heap.size, 0, none⟩ rfl (ho.out.alloc _) rfl rfl (one_us _ _ rfl) (by omega) (by rw [World.size_alloc]; omega) ?_; intro v' w' ho4 hb4))
        obtain ⟨A', c', rfl⟩ := row_slice ho4
        go_roundg (n - (q + 1))
        case measure => omega
        case rel =>
          rcases ho4.2 with ⟨_, h0⟩ | ⟨g', cap', _, e, _⟩
          · omega
          · injection e with e1 e2 e3
            subst e1
            exact ⟨q + 1, g', c', by omega, by go_num, rfl, by rw [CS.out]; exact Lib.hid ho4, (hb'.alloc hz _).trans hb4⟩
      · have q6 : ¬ (q : Int) < 6 := by omega
        obtain ⟨m, hm⟩ : ∃ m : Nat, m = q - 6 := ⟨_, rfl⟩
        have FC0 := fil_col (b := b) h6
        rw [← hm] at FC0
        have wm : IntKind.i64.wrap ((q : Int) - 6) = (m : Int) := by rw [IntWalk.i64_in _ (by omega)]; omega
        have m64 : m ≤ 64 := by omega
        have hl : b / 2 ^ m ≤ b := Nat.div_le_self _ _
        have ha : bits BinOp.and IntKind.i64 ((b / 2 ^ m : Nat) : Int) 1 = ((b / 2 ^ m % 2 : Nat) : Int) := by
          have := bits_and_i64_nat (b / 2 ^ m) 1 (by omega) (by omega)
          rw [Nat.and_one_is_mod] at this
          exact this
        have hp : (b : Int) / 2 ^ m = ((b / 2 ^ m : Nat) : Int) := by simp
        have FC := Lib.hid (fun W => filled_any (b / 2 ^ m % 2) W (by omega))
        rw [FC0] at FC
        clear FC0 hm hl
        generalize b / 2 ^ m % 2 = y at *
        generalize b / 2 ^ m = y2 at *
        generalize fw (colB b q) = z at *
        go_wp2_with (first
          | (go_at_call 85; refine (FC.out _).mono ?_; rintro e w3 ⟨rfl, rfl⟩)
          | (at_builtin; refine app_us_at rfl _ _ rfl w.heap.size _ q ((colsB b q).map fw) [z] _ 1 ⟨wr.heap.size, 0, none⟩ rfl (ho.out.alloc _) rfl rfl (one_us _ _ rfl) (by omega) (by rw [World.size_alloc]; omega) ?_; intro v' w' ho4 hb4))
        obtain ⟨A', c', rfl⟩ := row_slice ho4
        go_roundg (n - (q + 1))
        case measure => omega
        case rel =>
          rcases ho4.2 with ⟨_, h0⟩ | ⟨g', cap', _, e, _⟩
          · omega
          · injection e with e1 e2 e3
            subst e1
            exact ⟨q + 1, g', c', by omega, by go_num, rfl, by rw [CS.out]; exact Lib.hid ho4, (hb'.alloc hz _).trans hb4⟩
    · obtain rfl : q = n := by omega
      go_wp2
      go_ret
      unfold GivesUS
      rw [L.out]
      exact ⟨g, c, rfl, ho.out, hb'⟩
end Go.Proofs.YtnhjcokmajejcaaDoor
