/- The clause of some literals, in the program. -/
import Derived.Test.YthlkbkomecnbaaaKoP
import Derived.Test.YthlkbkomecnbaaaKcI
import Derived.Test.YthlkbkomecnbaaaShelf
import Derived.Lib.OwnBridge
namespace Go.Proofs.Ythlkbkomecnbaaa
open Go.RowKit
set_option maxRecDepth 100000

theorem atomOf_w (x : Int) (w : World) : Calls Try.prog 50 #[.int .i64 x] w fun e w' => e = .returned (.int .i64 (atW x)) ∧ w = w' := by
  unfold atW
  by_cases g0 : x ≤ wrap64 (-x)
  · have hx : max x (wrap64 (-x)) = wrap64 (-x) := by omega
    rw [hx]
    go_enter Try.func50, Try.ntmps50
    go_wp2
    go_ret
    exact ⟨by simp, rfl⟩
  · have hx : max x (wrap64 (-x)) = x := by omega
    rw [hx]
    go_enter Try.func50, Try.ntmps50
    go_wp2
    go_ret
    exact ⟨by simp, rfl⟩
def cfA (x y : Int) : Int := Lib.compareInt (atW x) (atW y)
theorem byAtoms_any (x y : Int) (w : World) : Calls Try.prog 57 #[.int .i64 x, .int .i64 y] w fun e w' => e = .returned (.int .i64 (cfA x y)) ∧ w = w' := by
  have A1 := Lib.hid (fun W => atomOf_w x W)
  have A2 := Lib.hid (fun W => atomOf_w y W)
  unfold cfA
  generalize atW x = p at *
  generalize atW y = q at *
  have C1 := Lib.hid (fun W => Try.cmp_Compare_int p q W)
  generalize Lib.compareInt p q = r at *
  go_enter Try.func57, Try.ntmps57
  go_wp2_with fail
  refine (A1.out _).mono ?_
  rintro e w1 ⟨rfl, rfl⟩
  go_wp2_with fail
  refine (A2.out _).mono ?_
  rintro e w1 ⟨rfl, rfl⟩
  go_wp2_with fail
  refine (C1.out _).mono ?_
  rintro e w1 ⟨rfl, rfl⟩
  go_wp2
  go_ret
  exact ⟨rfl, rfl⟩
theorem ltA (x y : Int) : ltOf cfA x y = decide (atW x < atW y) := by
  unfold ltOf cfA Lib.compareInt
  by_cases h1 : atW x < atW y
  · simp [h1]
  · by_cases h2 : atW y < atW x <;> simp [h1, h2]
theorem swoA : Sort.SWO (ltOf cfA) where
  irrefl x := by rw [ltA]; simp
  trans x y z h1 h2 := by rw [ltA] at *; simp at *; omega
  ntrans x y z h1 h2 := by rw [ltA] at *; simp at *; omega
theorem grow_belowK (w : World) (os : Array Obj) : Below w.heap.size w (Go.Sort.grow w os) :=
  ⟨rfl, rfl, rfl, by simp [Go.Sort.grow], fun k hk => by simp [Go.Sort.grow, Array.getElem?_append_left hk]⟩

/-- A row of literals sorted by atoms, in place. -/
theorem sortA_own (B : Nat) (t : TypeId) (A : Option Addr) (n c : Nat) (l : List Int) (w : World) (h : w.ownsRow B t 1 (.slice A n c) n (ints l)) (hB : B ≤ w.heap.size) (hn : n ≤ 4000000000) :
    Calls Try.prog 56 #[.slice A n c, .func (.func 57) #[] #[]] w (fun e w' => e = .returned (.tuple #[]) ∧ ∃ S : List Int, S.length = n ∧ (∀ x, x ∈ S ↔ x ∈ l) ∧ (∀ i j, i < j → j < S.length → atW (S.toArray[i]!) ≤ atW (S.toArray[j]!)) ∧ w'.ownsRow B t 1 (.slice A n c) n (ints S) ∧ Below B w w') := by
  have hl : l.length = n := by have := h.1; rw [len_ints] at this; omega
  by_cases hv : Value.slice A n c = .slice none 0 0
  · injection hv with e1 e2 e3
    subst e1; subst e2; subst e3
    obtain rfl : l = [] := List.length_eq_zero_iff.1 hl
    refine (Try.slices_SortFunc_none (α := Int) none 0 _ w).mono ?_
    rintro e w' ⟨rfl, rfl⟩
    exact ⟨rfl, [], rfl, fun x => Iff.rfl, fun i j _ hj => absurd hj (by simp), h, Below.refl _ _⟩
  · obtain ⟨g, cap, e, hb, hlt, hnc, hm, hl2, hH⟩ := Lib.holds_of_ownsRow (enc := Value.int .i64) (zs := l) h hv
    injection e with e1 _ e3
    subst e1; subst e3
    have eg : ∀ args w, (callFunc 57 args).run Try.prog w = .ok (.enter 57 args) w := enters_of Try.func57 (by kernel_rfl) rfl
    have hcmp : CmpReads Try.prog 57 #[] (Value.int .i64) cfA g 0 l.toArray.size w := fun _ _ _ _ x y => (byAtoms_any x y _).mono fun _ _ h => ⟨h.1, 0, h.2.symm⟩
    have hS := Try.slices_SortFunc (Value.int .i64) (fun _ => rfl) cfA swoA 57 #[] g 0 c l.toArray w eg hcmp.lays hH hlt (by simp; omega)
    have hsz : l.toArray.size = n := by simpa using hl
    rw [hsz] at hS
    refine hS.mono ?_
    rintro e w' ⟨rfl, d', q, os, hp, hs, rfl⟩
    have hd : d'.size = n := by rw [hp.1, hsz]
    have hd2 : d'.toList.length = n := by simpa using hd
    have o1 := Lib.ownsRow_putRow (enc := Value.int .i64) (zs := l) (ys := d'.toList) (q := q) (k := n) h hd2 (Nat.le_refl _)
    rw [List.take_of_length_le (by omega), Array.toArray_toList] at o1
    have b1 := Lib.below_putRow (enc := Value.int .i64) (q := q) (d := d') (Below.refl B w) hb
    have hperm : d'.toList.Perm l := by
      have := hp.2.2
      rw [show d'.extract 0 n = d' by rw [← hd]; simp, show l.toArray.extract 0 n = l.toArray by rw [← hsz]; simp] at this
      simpa using this
    refine ⟨rfl, d'.toList, hd2, fun x => hperm.mem_iff, fun i j hij hj => ?_, own_below o1 (grow_belowK _ os), b1.trans ((grow_belowK _ os).mono (Nat.le_trans hB b1.size))⟩
    have := hs i j (Nat.zero_le _) hij (by rw [hd2] at hj; exact hj)
    rw [ltA] at this
    rw [Array.toArray_toList]
    simpa using this

theorem compactA_own (B : Nat) (t : TypeId) (A : Option Addr) (n c : Nat) (l : List Int) (w : World) (h : w.ownsRow B t 1 (.slice A n c) n (ints l)) (hn : n ≤ 4000000000) :
    Calls Try.prog 58 #[.slice A n c] w (fun e w' => e = .returned (.slice A (Lib.compact l).length c) ∧ w'.ownsRow B t 1 (.slice A (Lib.compact l).length c) (Lib.compact l).length (ints (Lib.compact l)) ∧ Below B w w') := by
  have hl : l.length = n := by have := h.1; rw [len_ints] at this; omega
  by_cases hv : Value.slice A n c = .slice none 0 0
  · injection hv with e1 e2 e3
    subst e1; subst e2; subst e3
    obtain rfl : l = [] := List.length_eq_zero_iff.1 hl
    refine (Try.slices_Compact_int_empty none 0 w).mono ?_
    rintro e w' ⟨rfl, rfl⟩
    exact ⟨rfl, h, Below.refl _ _⟩
  · obtain ⟨g, cap, e, hb, hlt, hnc, hm, hl2, hH⟩ := Lib.holds_of_ownsRow (enc := Value.int .i64) (zs := l) h hv
    injection e with e1 _ e3
    subst e1; subst e3
    have hS := Try.slices_Compact_int g 0 c l w hH (by omega) (by omega)
    rw [hl] at hS
    refine hS.mono ?_
    rintro e w' ⟨rfl, q, rfl⟩
    have hcl := Lib.compact_length_le l
    have o1 := Lib.ownsRow_putRow (enc := Value.int .i64) (zs := l) (ys := Lib.compact l ++ List.replicate (n - (Lib.compact l).length) 0) (q := q) (k := (Lib.compact l).length) h (by simp; omega) (by omega)
    rw [List.take_left' rfl] at o1
    exact ⟨rfl, o1, Lib.below_putRow (enc := Value.int .i64) (q := q) (Below.refl B w) hb⟩

theorem ints_get {l : List Int} {j : Nat} (hj : j < l.length) : (ints l)[j]? = some (.int .i64 (ix l j)) := by
  unfold ints
  rw [List.getElem?_map, List.getElem?_eq_getElem hj, ix_lt hj]
  rfl
/-- A copy of numbers. -/
theorem clone_any (A : Option Addr) (n c : Nat) (l : List Int) (w : World) (h : Mem.rd w w.heap.size [.slice A n c] l) (hn : n ≤ 1048576) :
    Calls Try.prog 55 #[.slice A n c] w (GivesInts w l) := by
  have hl := rd_len h
  have r := (rd_ints.1 h).2
  cases A with
  | none =>
    have h0 : n = 0 := by
      rcases Nat.eq_zero_or_pos n with e | e
      · exact e
      · obtain ⟨ad, e', _⟩ := r.2 e
        cases e'
    subst h0
    obtain rfl : l = [] := List.length_eq_zero_iff.1 hl
    refine (Try.slices_Clone_int_nil 0 c w).mono ?_
    rintro e w' ⟨rfl, rfl⟩
    exact ⟨_, rfl, ⟨rfl, .inl ⟨rfl, rfl⟩⟩, Below.refl _ _⟩
  | some ad =>
    by_cases h0 : n = 0
    · subst h0
      obtain rfl : l = [] := List.length_eq_zero_iff.1 hl
      refine (Try.slices_Clone_int_zero ad c w).mono ?_
      rintro e w' ⟨v, rfl, o, _, b⟩
      exact ⟨_, rfl, o, b⟩
    · obtain ⟨ad', e', hb, hc⟩ := r.2 (by omega)
      injection e' with e'
      subst e'
      obtain ⟨b, off, sp⟩ := ad
      have hs : sp = none := by
        have h1 := hc 0 (.int .i64 (ix l 0)) (ints_get (by omega))
        cases sp with
        | none => rfl
        | some s =>
          exfalso
          unfold Addr.add World.cell? at h1
          simp at h1
          split at h1 <;> simp at h1
      subst hs
      refine (Try.slices_Clone_int b off n c l w (by omega) (by omega) (fun j hj => ?_)).mono ?_
      · have h1 := hc j (.int .i64 (l.getD j 0)) (by rw [ints_get hj]; simp [ix, List.getD])
        unfold Addr.add at h1
        split at h1
        · rename_i q; subst q; simpa using h1
        · exact h1
      · rintro e w' ⟨v, rfl, o, _, b⟩
        rw [List.take_of_length_le (by omega)] at o
        have o : w'.ownsRow w.heap.size 3 1 v n (ints l) := o
        rw [← hl] at o
        exact ⟨_, rfl, o, b⟩

set_option maxHeartbeats 2000000 in
theorem clauseOf_impl (l : List Int) (a : Int) (A : Option Addr) (n c : Nat) (w : World) (h : Mem.rd w w.heap.size [.slice A n c] l) (hs : l.length ≤ 1048576) :
    Calls Try.prog 21 #[.slice A n c, .int .i64 a] w (GivesLB w (clauseB l a) (clauseOkB l a)) := by
  have hl := rd_len h
  have CL := Lib.hid (clone_any A n c l w h (by omega))
  have HL := Lib.hid hl
  have hn : n ≤ 1048576 := by omega
  clear hl h hs
  go_enter Try.func21, Try.ntmps21
  go_wp2_with fail
  refine CL.out.mono ?_
  rintro e w1 ⟨v, rfl, o1, b1⟩
  rw [HL.out] at o1
  obtain ⟨A1, c1, rfl, hc1, r1⟩ := own_form o1
  have SO := Lib.hid (sortA_own w.heap.size 3 A1 n c1 l w1 o1 b1.size (by omega))
  clear o1 r1
  go_wp2_with fail
  refine SO.out.mono ?_
  rintro e w2 ⟨rfl, S, hS, hm, hso, o2, b2⟩
  have b12 := b1.trans b2
  have CO := Lib.hid (compactA_own w.heap.size 3 A1 n c1 S w2 o2 (by omega))
  have CS := clause_sorted (a := a) hm hso
  have hcl := Lib.compact_length_le S
  have HLE : Hid ((Lib.compact S).length ≤ 1048576) := Lib.hid (by omega)
  obtain ⟨F, hF⟩ : ∃ F, F = Lib.compact S := ⟨_, rfl⟩
  rw [← hF] at CO CS HLE
  clear hF hm hso o2 hcl hS
  go_wp2_with fail
  refine CO.out.mono ?_
  rintro e w3 ⟨rfl, o3, b3⟩
  have b13 := b12.trans b3
  have m3 := HLE.out
  have CV := Lib.hid (clauseValid_impl F a A1 F.length c1 w3 (rd_ints.2 ⟨by unfold maxLen; omega, Rd.of_own o3⟩))
  go_wp2_with fail
  refine CV.out.mono ?_
  rintro e w4 ⟨rfl, b4⟩
  have o4 := own_below o3 b4
  have b14 := b13.trans (b4.mono b13.size)
  by_cases q : cvB F a = true
  · have EE := Lib.hid (CS.1 q)
    rw [q]
    clear q CS
    obtain ⟨fp, om, nd, lo⟩ := mem_ints o4 (by unfold maxLen; omega)
    have OM := Lib.hid om
    clear o3 o4 om
    go_wp2
    go_ret2
    rw [EE.out.1, EE.out.2]
    exact ⟨A1, _, c1, fp, rfl, OM.out, nd, lo, b14⟩
  · have q : cvB F a = false := by simpa using q
    have EE := Lib.hid (CS.2 q)
    rw [q]
    clear q CS o3 o4
    go_wp2
    go_ret2
    rw [EE.out.1, EE.out.2]
    exact ⟨none, 0, 0, [], rfl, own_none _, List.nodup_nil, by simp, b14⟩
end Go.Proofs.Ythlkbkomecnbaaa
