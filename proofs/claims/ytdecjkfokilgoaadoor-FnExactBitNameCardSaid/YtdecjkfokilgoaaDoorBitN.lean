/- How a bit is named: of the program. -/
import Derived.Test.YtdecjkfokilgoaaDoorBitW
import Derived.Test.YtdecjkfokilgoaaDoorDoorN
import Derived.Test.YtdecjkfokilgoaaDoorShelf
import Derived.Lib.AppendIntMem
import Derived.Lib.ItoaLen
import Derived.Lib.Slices
import Derived.Laws.IdiomStrings
import Derived.OwnWalk
namespace Go.Proofs.YtdecjkfokilgoaaDoor
open Go.RowKit

theorem str_ne (F : ByteArray) : (F != F) = false := by
  unfold bne
  have : (F == F) = true := by
    first
      | exact beq_self_eq_true F
      | (show (F.data == F.data) = true; simp)
  rw [this]; rfl
/-- The first number below n that is so; n if there is none. -/
def fstK (f : Nat → Bool) : Nat → Nat
  | 0 => 0
  | n + 1 => if fstK f n < n then fstK f n else if f n then n else n + 1
theorem fstK_none {f : Nat → Bool} : ∀ {n : Nat}, (∀ j, j < n → f j = false) → fstK f n = n
  | 0, _ => rfl
  | n + 1, h => by
    unfold fstK
    rw [fstK_none fun j hj => h j (by omega), if_neg (by omega), h n (by omega)]; rfl
theorem fstK_at {f : Nat → Bool} {k : Nat} (hk : f k = true) (h : ∀ j, j < k → f j = false) : ∀ {n : Nat}, k < n → fstK f n = k
  | 0, hn => by omega
  | n + 1, hn => by
    unfold fstK
    by_cases e : k < n
    · rw [fstK_at hk h e, if_pos e]
    · obtain rfl : k = n := by omega
      rw [fstK_none h, if_neg (by omega), hk]; rfl
/-- The name of the bit e of the variable v. -/
def nmB (v e : Nat) : ByteArray := ⟨(118 :: (Lib.itoa v ++ 46 :: Lib.itoa e)).toArray⟩
def bnK (l : List Vr) (b : Int) : Nat := fstK (fun j => decide (b < widTo l (j + 1))) l.length
def bitNameB (s : Sy) (b : Int) : ByteArray :=
  if sysB s && (decide (0 ≤ b) && decide (bnK s.vars b < s.vars.length)) then nmB (bnK s.vars b) ((wdv (el s.vars (bnK s.vars b)) : Int) - 1 - (b - widTo s.vars (bnK s.vars b))).toNat else ⟨#[]⟩
theorem bitName_no {s : Sy} {b : Int} (h : sysB s = false ∨ b < 0 ∨ ∀ j, j < s.vars.length → (widTo s.vars (j + 1) : Int) ≤ b) : bitNameB s b = ⟨#[]⟩ := by
  unfold bitNameB
  rcases h with h | h | h
  · rw [h]; rfl
  · rw [decide_eq_false (show ¬ 0 ≤ b by omega)]; simp
  · have : bnK s.vars b = s.vars.length := fstK_none fun j hj => decide_eq_false (by have := h j hj; omega)
    rw [this, decide_eq_false (Nat.lt_irrefl _)]; simp
theorem bitName_at {s : Sy} {b : Int} {k : Nat} (hs : sysB s = true) (h0 : 0 ≤ b) (hk : k < s.vars.length) (h1 : ∀ j, j < k → (widTo s.vars (j + 1) : Int) ≤ b) (h2 : b < widTo s.vars (k + 1)) :
    bitNameB s b = nmB k ((wdv (el s.vars k) : Int) - 1 - (b - widTo s.vars k)).toNat := by
  have : bnK s.vars b = k := fstK_at (decide_eq_true h2) (fun j hj => decide_eq_false (by have := h1 j hj; omega)) hk
  unfold bitNameB
  rw [this, hs, decide_eq_true h0, decide_eq_true hk]; rfl
/-- The call gives a text. -/
def GivesS (w : World) (b : ByteArray) (e : Ending) (w' : World) : Prop := e = .returned (.string b) ∧ Below w.heap.size w w'
theorem byte_info : (Tryd.prog.info? 5).map (fun i => (i.zero, i.size, i.bytes)) = some (some (.int .u8 0), 1, 1) := by kernel_rfl

set_option maxHeartbeats 6400000 in
set_option maxRecDepth 100000 in
theorem nameOfBit_any (a b : Nat) (ha : a ≤ 9) (hb : b ≤ 9) (w : World) (hT : DoorAt w) :
    Calls Tryd.prog 18 #[.int .i64 a, .int .i64 b] w (GivesS w (nmB a b)) := by
  obtain ⟨i0, hi, hz0, hz1, hz2⟩ := info_parts byte_info
  have la := Lib.itoa_length_le a (by omega) (by omega)
  have lb := Lib.itoa_length_le b (by omega) (by omega)
  have O0 := World.ownsRow_lit (base := w.heap.size) (e := 5) (size := 1) w #[.int .u8 118] 1 (Nat.le_refl _) (by unfold maxLen; omega) rfl
  have hT0 : Lib.TabBelow Tryd.prog w.heap.size (w.alloc (.cells #[.int .u8 118] 5)) "internal/strconv.uint64pow10" .u64 Lib.pow10Tab := Lib.TabBelow.on hT (below_alloc w _)
  go_enter Tryd.func18, Tryd.ntmps18
  go_wp2_with (go_at_call 31; refine (Tryd.strconv_AppendInt_10 w.heap.size 1 a (by omega) (by omega) _ _ _ O0 (by simp) (by omega) hT0).mono ?_; rintro e w1 ⟨v1, rfl, hown1, hnx1', -⟩; refine Hid.out ?_)
  refine Lib.hid ?_
  have hnx1 : Below w.heap.size w w1 := (below_alloc w _).trans hnx1'
  clear hnx1' O0 hT0
  go_wp2_with (at_builtin; refine wpList_append_own _ rfl _ _ 55 rfl w.heap.size 5 i0 (.int .u8 0) 1 1 Tryd.underlying55 hi hz0 hz1 hz2 rfl (by decide) _ _ _ rfl (hown1.alloc _) ⟨w1.heap.size, 0, none⟩ 1 1 [Value.int .u8 46] rfl rfl (by intro j u' hj; match j, hj with | 0, hj => simp at hj; subst hj; simp [Addr.add]) (by intro u' hu'; simp at hu'; subst hu'; rfl) (by unfold maxLen; omega) (by omega) (by have := hnx1.size; simp; omega) ?_)
  intro v2 w2 hown2 hgrow _
  have hnx2 : Below w.heap.size w w2 := (hnx1.alloc (by have := hnx1.size; omega) _).grown hgrow (by have := hnx1.size; simp; omega) (fun k hk => (hown1.lt k hk).1)
  have hT2 : Lib.TabBelow Tryd.prog w.heap.size w2 "internal/strconv.uint64pow10" .u64 Lib.pow10Tab := Lib.TabBelow.on hT hnx2
  go_wp2_with (go_at_call 31; refine (Tryd.strconv_AppendInt_10 w.heap.size _ b (by omega) (by omega) v2 _ w2 hown2 (by have := hnx2.size; omega) (by omega) hT2).mono ?_; rintro e w3 ⟨v3, rfl, hown3, hnx3, -⟩; refine Hid.out ?_)
  refine Lib.hid ?_
  have eL : (Value.int .u8 118 :: (Lib.byteCells (Lib.itoa a) ++ [Value.int .u8 46])) ++ Lib.byteCells (Lib.itoa b) = Lib.byteCells (118 :: (Lib.itoa a ++ 46 :: Lib.itoa b)) := by simp [Lib.byteCells]
  have eN : 1 + (Lib.itoa a).length + 1 + (Lib.itoa b).length = (118 :: (Lib.itoa a ++ 46 :: Lib.itoa b)).length := by simp; omega
  rw [eL, eN] at hown3
  have hpos : 0 < (118 :: (Lib.itoa a ++ 46 :: Lib.itoa b)).length := by rw [List.length_cons]; omega
  obtain ⟨l, hl⟩ : ∃ l, l = 118 :: (Lib.itoa a ++ 46 :: Lib.itoa b) := ⟨_, rfl⟩
  rw [← hl] at hown3 hpos
  have HL := Lib.hid hl
  clear hl
  rcases hown3.2 with ⟨-, h0⟩ | ⟨g, cap, cur, rfl, -, -, -, -, -, -⟩
  · omega
  · have hcv := run_convert_bytes_back (P := Tryd.prog) w3 55 9 5 ⟨g, 0, none⟩ cap l Tryd.underlying55 Tryd.underlying5 Tryd.underlying9 (fun j hj => hown3.cells (g := g) rfl j _ (by simp [Lib.byteCells, hj]))
    go_wp2
    go_ret
    have hl := HL.out
    subst hl
    exact ⟨rfl, hnx2.trans hnx3⟩

set_option maxHeartbeats 4000000 in
set_option maxRecDepth 100000 in
theorem bitName_impl (s : Sy) (b : Int) (A1 : Option Addr) (n1 c1 : Nat) (A2 : Option Addr) (n2 c2 : Nat) (w : World) (h1 : Mem.rd w w.heap.size [.slice A1 n1 c1] s.vars) (h2 : Mem.rd w w.heap.size [.slice A2 n2 c2] s.rules) (hbB : b < 9223372036854775808) (hT : DoorAt w) :
    Calls Tryd.prog 7 #[.agg #[.slice A1 n1 c1, .slice A2 n2 c2], .int .i64 b] w (GivesS w (bitNameB s b)) := by
  have L1 := rd_len h1
  have HBB := Lib.hid hbB
  clear hbB
  have BX := Lib.hid (sy_box (w := w) (v1 := .slice A1 n1 c1) (v2 := .slice A2 n2 c2))
  have SV := Lib.hid (fun o => sysValid_impl s A1 n1 c1 A2 n2 c2 (w.alloc o) (Mem.rd_on_alloc h1 o) (Mem.rd_on_alloc h2 o))
  obtain ⟨F, hF⟩ : ∃ F, F = bitNameB s b := ⟨_, rfl⟩
  rw [← hF]
  cases hz : sysB s
  · have E : Hid (F = ⟨#[]⟩) := Lib.hid (hF.trans (bitName_no (.inl hz)))
    have HZ := Lib.hid hz; clear hz hF
    go_enter Tryd.func7, Tryd.ntmps7
    go_wp2_with fail
    refine (SV.out _).mono ?_
    rintro e w2 ⟨rfl, b2⟩
    rw [HZ.out]
    go_wp2
    go_ret
    exact ⟨congrArg (fun x => Ending.returned (.string x)) E.out.symm, below_call b2⟩
  · have ok := sysOk_of hz
    have h5 : n1 ≤ 5 := by have := ok.hi; omega
    by_cases q0 : b < 0
    · have E : Hid (F = ⟨#[]⟩) := Lib.hid (hF.trans (bitName_no (.inr (.inl q0))))
      have HZ := Lib.hid hz; clear hz hF ok
      go_enter Tryd.func7, Tryd.ntmps7
      go_wp2_with fail
      refine (SV.out _).mono ?_
      rintro e w2 ⟨rfl, b2⟩
      rw [HZ.out]
      go_wp2
      go_ret
      exact ⟨congrArg (fun x => Ending.returned (.string x)) E.out.symm, below_call b2⟩
    · have HNo := Lib.hid (fun (h : ∀ j, j < n1 → (widTo s.vars (j + 1) : Int) ≤ b) => hF.trans (bitName_no (.inr (.inr fun j hj => h j (by omega)))))
      have HAt := Lib.hid (fun k (hk : k < n1) h1 h2 => hF.trans (bitName_at (k := k) hz (by omega) (by omega) h1 h2))
      have HV := Lib.hid (fun k (hk : k < n1) => ok.vars k (by omega))
      have NC := Lib.hid (fun a e ha he W (B : Below w.heap.size w W) => nameOfBit_any a e ha he W (DoorAt.on hT B))
      have WD := Lib.hid (fun k => wdt_le ((el s.vars k).high - (el s.vars k).low + 1))
      have WL := Lib.hid (fun k (hk : k ≤ n1) => wid_le ok (k := k) (by omega))
      have HZ := Lib.hid hz; clear hz hF ok L1
      go_enter Tryd.func7, Tryd.ntmps7
      go_wp2_with fail
      refine (SV.out _).mono ?_
      rintro e w2 ⟨rfl, b2⟩
      rw [HZ.out]
      obtain ⟨B2, x0, x1⟩ := BX.out _ b2
      go_wp2
      go_loopg [1, 5, 6, 7, 18] n1 (fun m t i5 i6 i7 i wr => ∃ k : Nat, k + m = n1 ∧ i = .int .i64 k ∧ t = .int .i64 (b - (widTo s.vars k : Nat)) ∧ Hid (∀ j, j < k → (widTo s.vars (j + 1) : Int) ≤ b) ∧ Hid ((widTo s.vars k : Int) ≤ b) ∧ Below w.heap.size w wr)
      case atStart => exact ⟨0, by omega, rfl, by show Value.int .i64 b = .int .i64 (b - ((0 : Nat) : Int)); simp, Lib.hid (fun j hj => absurd hj (by omega)), Lib.hid (by show ((0 : Nat) : Int) ≤ b; omega), B2⟩
      case round =>
        clear x0 x1
        obtain ⟨k, hk, rfl, rfl, hlo, hb0, hb⟩ := hrel
        by_cases hlt : k < n1
        · have kn : (k : Int) < n1 := by omega
          obtain ⟨ad, rfl, _, c0, c1', c2'⟩ := vr_at (Mem.rd_below h1 hb) hlt
          have HS := Lib.hid (fun W => width_any (el s.vars k) W (HV.out k hlt))
          have wd5 := WD.out k
          change wdv (el s.vars k) ≤ 5 at wd5
          have HP : Hid (widTo s.vars (k + 1) = widTo s.vars k + wdv (el s.vars k)) := Lib.hid rfl
          have b1 := WL.out (k + 1) (by omega)
          have b0 := hb0.out
          by_cases q : b - (widTo s.vars k : Nat) < (wdv (el s.vars k) : Nat)
          · obtain ⟨ev, hev⟩ : ∃ ev : Nat, (ev : Int) = (wdv (el s.vars k) : Nat) - 1 - (b - (widTo s.vars k : Nat)) := ⟨((wdv (el s.vars k) : Int) - 1 - (b - (widTo s.vars k : Nat))).toNat, by omega⟩
            have E : Hid (F = nmB k ev) := Lib.hid (by
              rw [HAt.out k hlt hlo.out (by rw [HP.out]; omega), ← hev, Int.toNat_natCast])
            have w1 : IntKind.i64.wrap (((wdv (el s.vars k) : Nat) : Int) - 1) = ((wdv (el s.vars k) : Nat) : Int) - 1 := IntWalk.i64_in _ (by omega)
            have w2' : IntKind.i64.wrap (((wdv (el s.vars k) : Nat) : Int) - 1 - (b - (widTo s.vars k : Nat))) = (ev : Int) := by rw [← hev]; exact IntWalk.i64_in _ (by omega)
            have NK := Lib.hid (fun W B => NC.out k ev (by omega) (by omega) W B)
            clear hev wd5 b1 b0
            generalize el s.vars k = v at *
            obtain ⟨a, b', c⟩ := v
            unfold Vr.v at HS
            dsimp only at HS c0 c1' c2'
            go_wp2_with (first
              | (go_at_call 17; refine (HS.out _).mono ?_; rintro e w3 ⟨rfl, b3⟩
                 have B3 := hb.trans ((below_call b3).mono hb.size))
              | fail)
            refine (NK.out _ B3).mono ?_
            rintro e w4 ⟨rfl, b4⟩
            go_wp2
            go_ret
            exact ⟨congrArg (fun x => Ending.returned (.string x)) E.out.symm, B3.trans (b4.mono B3.size)⟩
          · have w3' : IntKind.i64.wrap (b - (widTo s.vars k : Nat) - (wdv (el s.vars k) : Nat)) = b - (widTo s.vars (k + 1) : Nat) := by
              have hbB := HBB.out
              rw [HP.out, IntWalk.i64_in _ (by omega)]
              omega
            have HLN : Hid ((widTo s.vars (k + 1) : Int) ≤ b) := Lib.hid (by rw [HP.out]; omega)
            have HLO : Hid (∀ j, j < k + 1 → (widTo s.vars (j + 1) : Int) ≤ b) := Lib.hid (fun j hj => by
              by_cases e : j < k
              · exact hlo.out j e
              · obtain rfl : j = k := by omega
                exact HLN.out)
            obtain ⟨NX, hNX⟩ : ∃ x, x = widTo s.vars (k + 1) := ⟨_, rfl⟩
            have HNX := Lib.hid hNX
            rw [← hNX] at w3'
            clear wd5 b1 b0 hNX
            generalize el s.vars k = v at *
            obtain ⟨a, b', c⟩ := v
            unfold Vr.v at HS
            dsimp only at HS c0 c1' c2'
            go_wp2_with (first
              | (go_at_call 17; refine (HS.out _).mono ?_; rintro e w3 ⟨rfl, b3⟩
                 have B3 := hb.trans ((below_call b3).mono hb.size)))
            go_roundg (n1 - (k + 1))
            case measure => omega
            case rel => exact ⟨k + 1, by omega, by go_num, by rw [HNX.out], HLO, HLN, B3⟩
        · obtain rfl : k = n1 := by omega
          have E := Lib.hid (HNo.out hlo.out)
          go_wp2
          go_ret
          exact ⟨congrArg (fun x => Ending.returned (.string x)) E.out.symm, hb⟩
end Go.Proofs.YtdecjkfokilgoaaDoor
