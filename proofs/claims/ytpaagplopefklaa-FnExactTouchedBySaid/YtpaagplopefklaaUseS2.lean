/- The model's UsedBy, whole. -/
import Derived.Test.YtpaagplopefklaaUseS
namespace Go.Proofs.Ytpaagplopefklaa
open Go.RowKit

/-- 'append' of an int: where the new row lies, and what alone has changed. -/
theorem app_int2 {ops : Array Oper} {rest : List Oper} {o : Oper} {a : Act} {Q : Exit → Act → World → Prop} {W : World} (hgd : o.guard = none) (s x : Operand)
    (ho : o.op = .call { callee := .builtin .append, args := #[s, x], argTypes := #[35, 35] }) (base : Nat) (v : Value) (k : Nat) (l : List Int) (z : Int) (ad : Addr)
    (hs : a.eval s = v) (hown : W.ownsRow base 3 1 v k (ints l)) (hx : a.eval x = .slice (some ad) 1 1) (had : W.cell? ad = some (.int .i64 z)) (hk : k < 1000000000000) (hb : base ≤ W.heap.size)
    (h : ∀ v' w', w'.ownsRow base 3 1 v' (k + 1) (ints (l ++ [z])) → W.grownBy w' v.ownBlock → (v'.ownBlock = v.ownBlock ∨ v'.ownBlock = some W.heap.size) → wpList Try.prog ops Q rest (a.put o.dst v') w') :
    wpList Try.prog ops Q (o :: rest) a W := by
  have hcell : ∀ (j : Nat) (u : Value), [Value.int .i64 z][j]? = some u → W.cell? (ad.add j) = some u := by
    intro j u hu
    cases j with
    | zero => rw [add_zero', had]; simpa using hu
    | succ j => simp at hu
  obtain ⟨v', w', hr, h1, h2, _, h3⟩ := run_append_own_at (P := Try.prog) W base 35 o.type 3 intRow (.int .i64 0) 1 8 Try.underlying35 int_row.1 int_row.2.1 int_row.2.2.1 int_row.2.2.2 rfl (by decide) v k _ hown ad 1 1 [.int .i64 z] rfl hcell (by intro u hu; simp at hu; subst hu; rfl) (by unfold maxLen; omega) (by omega) hb
  refine wpList_plain hgd fun K hK' => ?_
  unfold Oper.wp execOp
  simp only [ho, resolve, invoke, builtin, Sem.run_bind, Sem.run_pure, Result.andThen_ok, List.map_toArray, List.map_cons, List.map_nil, hs, hx, hr]
  exact hK' _ _ (h v' w' (by simpa [ints] using h1) h2 h3)

def anyTo (l : List Tm) (nd : List Bool) (v k : Nat) : Bool := (List.range k).any fun i => bx nd i && ((tx l i).op == 1 && ((tx l i).n == (v : Int)))
theorem anyTo_succ (l : List Tm) (nd : List Bool) (v k : Nat) : anyTo l nd v (k + 1) = (anyTo l nd v k || (bx nd k && ((tx l k).op == 1 && ((tx l k).n == (v : Int))))) := by
  unfold anyTo; rw [List.range_succ, List.any_append]; simp
theorem uses_any {l : List Tm} {vars : Int} (h : validB l vars = true) (v : Nat) : usesV l v = anyTo l (needTo l l.length) v l.length := by
  rw [Bool.eq_iff_iff, uses_iff h]
  unfold anyTo
  rw [List.any_eq_true]
  constructor
  · rintro ⟨j, h1, h2, h3, h4⟩
    exact ⟨j, List.mem_range.2 h1, by simp [h2, h3, h4]⟩
  · rintro ⟨j, h1, h2⟩
    simp at h2
    exact ⟨j, List.mem_range.1 h1, h2.1, h2.2.1, h2.2.2⟩

set_option maxRecDepth 100000 in
set_option maxHeartbeats 4000000 in
theorem usedBy_spec (A : Option Addr) (n c : Nat) (l : List Tm) (vars : Int) (w : World) (h : Rd w w.heap.size 4 A n (tms l)) (hn : n ≤ maxLen) :
    Calls Try.prog 63 #[.slice A n c, .int .i64 vars] w (GivesInts w (usedL l vars)) := by
  have hl := Lib.hid h.tlen
  have hown0 := World.ownsRow_lit (base := w.heap.size) (e := 3) (size := 1) w #[] 0 (Nat.le_refl _) (by unfold maxLen; omega) rfl
  have HO0 := Lib.hid hown0; clear hown0
  cases g : validB l vars
  · have e : usedL l vars = [] := by unfold usedL; rw [g]; rfl
    rw [e]
    have G := Lib.hid g
    clear e g
    go_enter Try.func63, Try.ntmps63
    go_wp2_with fail
    refine (valid_spec A n c l vars _ ((h.alloc (Nat.le_refl _) _).more (by simp)) hn).mono ?_
    rintro e w1 ⟨rfl, b1⟩
    rw [G.out]
    go_wp2
    go_ret
    exact ⟨_, rfl, own_below HO0.out b1, below_call b1⟩
  · obtain ⟨s1, s2, s3, s4⟩ := valid_small g
    have hs1 : 1 ≤ n := by have := hl.out; omega
    have hs2 : n ≤ 40 := by have := hl.out; omega
    obtain ⟨vn, rfl⟩ := Int.eq_ofNat_of_zero_le s3
    have hvn : vn ≤ 5 := by omega
    have e : usedL l vn = usedTo l vn := by unfold usedL; rw [g]; rfl
    rw [e]
    have G := Lib.hid g
    clear e g
    go_enter Try.func63, Try.ntmps63
    go_wp2_with fail
    refine (valid_spec A n c l vn _ ((h.alloc (Nat.le_refl _) _).more (by simp)) hn).mono ?_
    rintro e w1 ⟨rfl, b1⟩
    rw [G.out]
    have HO1 := Lib.hid (own_below HO0.out b1)
    have B1 := below_call b1
    have hgt : w.heap.size < w1.heap.size := by have := b1.size; simp at this; omega
    go_wp2_with fail
    refine (l1Needed_any A n c l vn _ ((h.below B1).more B1.size) G.out).mono ?_
    rintro e w2 ⟨v2, rfl, o2, b2⟩
    have B2 := B1.trans (b2.mono B1.size)
    have HO2 := Lib.hid (own_below HO1.out b2)
    rcases o2.2 with ⟨_, h0⟩ | ⟨gN, cap, cur, rfl, hgw, _⟩
    · omega
    have o2 := own_base o2 B1.size
    have hnd : Hid (needTo l n = needTo l l.length) := by show needTo l n = _; rw [hl.out]
    have hne0 : gN ≠ w.heap.size := by omega
    go_wp2
    go_loopg [5, 7] vn (fun m v i wr => ∃ j : Nat, j + m = vn ∧ i = .int .i64 j ∧ wr.ownsRow w.heap.size 3 1 v (usedTo l j).length (ints (usedTo l j)) ∧ v.ownBlock ≠ some gN ∧ wr.ownsRow w.heap.size 4 1 (.slice (some ⟨gN, 0, none⟩) n cap) n (bls (needTo l n)) ∧ Below w.heap.size w wr)
    case atStart => exact ⟨0, by omega, rfl, HO2.out, by simp [Value.ownBlock]; omega, o2, B2⟩
    case round =>
      clear o2 B2
      obtain ⟨j, hj, rfl, hu, hne, oN, hb⟩ := hrel
      have HJ := Lib.hid hj
      have hul : (usedTo l j).length ≤ 40 ∨ vn ≤ j := by
        by_cases e : vn ≤ j
        · exact .inr e
        · refine .inl ?_
          unfold usedTo; rw [List.length_map]
          have := List.length_filter_le (usesV l) (List.range j)
          rw [List.length_range] at this; omega
      have HU := Lib.hid hu
      have HN := Lib.hid hne
      clear hu hne
      by_cases hlt : j < vn
      · have hul : (usedTo l j).length ≤ 40 := by omega
        go_wp2
        obtain ⟨w5, rfl⟩ : ∃ w5 : World, w5 = wr := ⟨_, rfl⟩
        go_loopg [8, 9] n (fun m b i wr => ∃ k : Nat, k + m = n ∧ i = .int .i64 k ∧ b = .bool (anyTo l (needTo l n) j k) ∧ w5 = wr)
        case atStart => exact ⟨0, by omega, rfl, rfl, rfl⟩
        case round =>
          obtain ⟨k, hk, rfl, rfl, rfl⟩ := hrel
          have hA := anyTo_succ l (needTo l n) j k
          by_cases hlt2 : k < n
          · have c0 : w5.cell? ⟨gN, k, none⟩ = some (.bool (bx (needTo l n) k)) := by rw [oN.cellAt k (by omega), bls_at (by rw [need_len, hl.out]; omega)]
            obtain ⟨ad, rfl, _, h0, h1, _, _⟩ := (h.below hb).tm hlt2
            have HA := Lib.hid hA; clear hA
            cases q1 : anyTo l (needTo l n) j k <;> cases q2 : bx (needTo l n) k <;> cases q3 : (tx l k).op == 1 <;> cases q4 : (tx l k).n == (j : Int)
            all_goals
              rw [q2] at c0
              have HQ := Lib.hid (And.intro q1 q2)
              clear q1 q2
              go_wp2
              go_roundg (n - (k + 1))
              case measure => omega
              case rel => exact ⟨k + 1, by omega, by go_num, by rw [HA.out, HQ.out.1, HQ.out.2, q3, q4]; rfl, rfl⟩
          · obtain rfl : k = n := by omega
            have hE : usesV l j = anyTo l (needTo l k) j k := by rw [uses_any G.out j, hl.out]
            have HS := Lib.hid (usedTo_succ l j)
            clear hA
            cases q : anyTo l (needTo l k) j k
            · have HE := Lib.hid (hE.trans q); clear hE q
              go_wp2
              go_roundg (vn - (j + 1))
              case measure => have := HJ.out; omega
              case rel => exact ⟨j + 1, by have := HJ.out; omega, by go_num, by rw [HS.out, HE.out]; simpa using HU.out, HN.out, oN, hb⟩
            · have HE := Lib.hid (hE.trans q); clear hE q
              go_wp2_with (first | (at_builtin; refine app_int2 rfl _ _ rfl w.heap.size _ (usedTo l j).length (usedTo l j) j _ rfl (HU.out.alloc _) rfl (World.cell?_alloc_at _ _ _ _ rfl) (by omega) (by have := hb.size; simp; omega) ?_; intro v' w6 ho6 hg6 he6))
              go_roundg (vn - (j + 1))
              case measure => have := HJ.out; omega
              case rel =>
                have hgN := (oN.lt gN rfl).2
                refine ⟨j + 1, by have := HJ.out; omega, by go_num, by rw [HS.out, HE.out]; simpa using ho6, ?_, (oN.alloc _).kept hg6 (.inr (fun e => HN.out e.symm)), ?_⟩
                · rcases he6 with e | e <;> rw [e]
                  · exact HN.out
                  · intro e'; injection e' with e'; simp at e'; omega
                · exact (hb.alloc hb.size _).grown hg6 (by have := hb.size; simp; omega) (fun x hx => (HU.out.lt x hx).1)
      · obtain rfl : j = vn := by omega
        go_wp2
        go_ret
        exact ⟨_, rfl, HU.out, hb⟩
end Go.Proofs.Ytpaagplopefklaa
