/- Runs as arguments of an exact law. -/
import Derived.Test.YtmlhnnkdecabpaaTr
import Derived.Test.YtmlhnnkdecabpaaOpenSy
import Derived.Test.YtmlhnnkdecabpaaToSy
namespace Go.Proofs.Ytmlhnnkdecabpaa
open Go.ChangeShapes Go.WideShapes Go.ChangeAt Go.RowKit Go.Deep

structure Tr where
  states : List (List Int)
  rules : List Int
def szTr (s : Tr) : Nat := szII s.states + s.rules.length
structure Tr.Fits (s : Tr) : Prop where
  states : s.states.length ≤ 1048576
  rules : s.rules.length ≤ 1048576
  state : ∀ k, k < s.states.length → (el s.states k).length ≤ 1048576
theorem Tr.fits_of {s : Tr} (h : szTr s ≤ 1048576) : s.Fits := by
  unfold szTr at h
  have h2 : szII s.states ≤ 1048576 := by omega
  exact ⟨(ii_fits h2).1, by omega, (ii_fits h2).2⟩
def GivesTr (w : World) (s : Tr) (e : Ending) (w' : World) : Prop :=
  ∃ A1 n1 c1 A2 n2 c2 f1 f2, e = .returned (.agg #[.slice A1 n1 c1, .slice A2 n2 c2]) ∧ Mem.own w' f1 [.slice A1 n1 c1] s.states ∧ Mem.own w' f2 [.slice A2 n2 c2] s.rules ∧ (f1 ++ f2).Nodup ∧ (∀ b ∈ f1 ++ f2, w.heap.size ≤ b) ∧ Below w.heap.size w w'
set_option maxHeartbeats 1000000 in
theorem szTrace_any (s : Tr) (A1 : Option Addr) (n1 c1 : Nat) (A2 : Option Addr) (n2 c2 : Nat) (left : Int) (w : World) (h1 : Mem.rd w w.heap.size [.slice A1 n1 c1] s.states) (h2 : Mem.rd w w.heap.size [.slice A2 n2 c2] s.rules)
    (g0 : 0 ≤ left) (g1 : left ≤ 1048576) : Calls Try.prog 18 #[.agg #[.slice A1 n1 c1, .slice A2 n2 c2], .int .i64 left] w (Left w left (szTr s)) := by
  have m2 := rd_max h2
  have hT : ∃ T : Nat, Hid (T = szTr s) := ⟨_, Lib.hid rfl⟩
  obtain ⟨T, HT⟩ := hT
  obtain ⟨S, hS⟩ : ∃ S : Nat, S = szII s.states := ⟨_, rfl⟩
  have HS := Lib.hid hS
  have e : Hid (T = S + n2) := Lib.hid (by rw [HT.out, HS.out]; unfold szTr; rw [rd_len h2])
  have SC := Lib.hid (fun W (B : Below w.heap.size w W) => szIntSS_any A1 n1 c1 s.states left W (Mem.rd_on h1 B) g0 g1)
  rw [← hS] at SC
  rw [← HT.out]
  clear HT hS
  by_cases s1 : left < S
  · go_enter Try.func18, Try.ntmps18
    go_wp2_with fail
    refine (SC.out _ (below_alloc _ _)).mono ?_
    rintro e' w' ⟨rfl, rfl⟩
    rw [rest_no s1]
    go_wp2
    go_ret
    exact ⟨(congrArg (fun z => Ending.returned (.int .i64 z)) (rest_no (by have := e.out; omega))).symm, below_alloc _ _⟩
  by_cases s2 : left - S < n2
  · go_enter Try.func18, Try.ntmps18
    go_wp2_with fail
    refine (SC.out _ (below_alloc _ _)).mono ?_
    rintro e' w' ⟨rfl, rfl⟩
    rw [rest_yes (by omega)]
    go_wp2_with fail
    refine (szIntS_M A2 n2 c2 (left - S) m2 (by omega) (by omega) _).mono ?_
    rintro e' w' ⟨rfl, rfl⟩
    rw [rest_no s2]
    go_wp2
    go_ret
    exact ⟨(congrArg (fun z => Ending.returned (.int .i64 z)) (rest_no (by have := e.out; omega))).symm, below_alloc _ _⟩
  · go_enter Try.func18, Try.ntmps18
    go_wp2_with fail
    refine (SC.out _ (below_alloc _ _)).mono ?_
    rintro e' w' ⟨rfl, rfl⟩
    rw [rest_yes (by omega)]
    go_wp2_with fail
    refine (szIntS_M A2 n2 c2 (left - S) m2 (by omega) (by omega) _).mono ?_
    rintro e' w' ⟨rfl, rfl⟩
    rw [rest_yes (by omega)]
    go_wp2
    go_ret
    exact ⟨congrArg (fun z => Ending.returned (.int .i64 z)) (by rw [rest_yes (by have := e.out; omega)]; have := e.out; omega), below_alloc _ _⟩

set_option maxHeartbeats 1000000 in
theorem toTrace_any (s : Tr) (A1 : Option Addr) (n1 c1 : Nat) (A2 : Option Addr) (n2 c2 : Nat) (w : World) (h1 : Mem.rd w w.heap.size [.slice A1 n1 c1] s.states) (h2 : Mem.rd w w.heap.size [.slice A2 n2 c2] s.rules) (hf : s.Fits) :
    Calls Try.prog 21 #[.agg #[.slice A1 n1 c1, .slice A2 n2 c2]] w (GivesTr w s) := by
  have i1 : n1 ≤ 1048576 := by rw [← rd_len h1]; exact hf.states
  have i2 : n2 ≤ 1048576 := by rw [← rd_len h2]; exact hf.rules
  have i4 := Lib.hid hf.state
  have i5 := Lib.hid (rd_len h1)
  clear hf
  go_enter Try.func21, Try.ntmps21
  go_wp2_with fail
  refine (toIntSS_any A1 n1 c1 s.states _ (Mem.rd_on_alloc (Mem.rd_on_alloc (Mem.rd_on_alloc h1 _) _) _) i1 (fun k hk => i4.out k (by rw [i5.out]; exact hk))).mono ?_
  rintro e w2 ⟨B1, m1, d1, f1, rfl, o1, nd1, lo1, b1⟩
  obtain ⟨hc1, hf1⟩ := bcell b1
  have hz1 := b1.size
  have L1 : Below w.heap.size w w2 := (((below_alloc w _).alloc (by simp) _).alloc (by simp; omega) _).trans (b1.mono (by simp; omega))
  have g1 : ∀ b ∈ f1, b < w2.heap.size := Mem.own_lt o1
  simp only [World.size_alloc] at lo1 hz1
  have q1 : w.heap.size + 1 + 1 < w2.heap.size := by omega
  have p1 : w.heap.size + 1 < w2.heap.size := by omega
  have q1' : w.heap.size < w2.heap.size := by omega
  go_wp2_with fail
  have L2 := L1.setCell (p := ⟨w.heap.size + 1 + 1, 0, none⟩) (by simp; omega) (.slice B1 m1 d1)
  refine (toIntS_M A2 n2 c2 s.rules _ (Mem.rd_on h2 L2) i2).mono ?_
  rintro e w3 ⟨B2, m2, d2, f2, rfl, o2, nd2, lo2, b2⟩
  obtain ⟨hc2, hf2⟩ := bcell b2
  have hz2 := b2.size
  simp only [World.size_setCell] at lo2 hz2
  have q2 : w.heap.size + 1 + 1 < w3.heap.size := by omega
  have p2 : w.heap.size + 1 < w3.heap.size := by omega
  have L3 := L2.trans (b2.mono (by simp; omega))
  have k1 := Mem.own_below (Mem.own_keep o1 (w' := w2.setCell ⟨w.heap.size + 1 + 1, 0, none⟩ (.slice B1 m1 d1)) fun b hb => setCell_heap _ _ _ (by have := lo1 b hb; show b ≠ w.heap.size + 1 + 1; omega)) b2
  go_wp2_with fail
  have keep : ∀ b, w.heap.size + 1 + 1 < b → (((w3.setCell ⟨w.heap.size + 1 + 1, 1, none⟩ (Value.slice B2 m2 d2)).setCell ⟨w.heap.size + 1, 0, none⟩ (Value.slice B1 m1 d1)).setCell ⟨w.heap.size + 1, 1, none⟩ (Value.slice B2 m2 d2)).heap[b]? = w3.heap[b]? := by
    intro b hb
    rw [setCell_heap _ _ _ (show b ≠ w.heap.size + 1 by omega), setCell_heap _ _ _ (show b ≠ w.heap.size + 1 by omega), setCell_heap _ _ _ (show b ≠ w.heap.size + 1 + 1 by omega)]
  refine bodyPost_ret (v := .agg #[.slice B1 m1 d1, .slice B2 m2 d2]) (by simp [results, Try.results21, go_sem, hc2, hc1, p1]) rfl ⟨B1, m1, d1, B2, m2, d2, f1, f2, rfl,
    Mem.own_keep k1 fun b hb => keep b (by have := lo1 b hb; omega), Mem.own_keep o2 fun b hb => keep b (by have := lo2 b hb; omega), nodup_two nd1 nd2 g1 lo2, ?_, ?_⟩
  · intro b hb
    rcases List.mem_append.1 hb with hb | hb
    · have := lo1 b hb; omega
    · have := lo2 b hb; omega
  · exact ((L3.setCell (p := ⟨w.heap.size + 1 + 1, 1, none⟩) (by simp; omega) _).setCell (by simp) _).setCell (by simp) _
theorem eqTrArg_same (s : Tr) (A1 : Option Addr) (n1 c1 : Nat) (A2 : Option Addr) (n2 c2 : Nat) (A3 : Option Addr) (n3 c3 : Nat) (A4 : Option Addr) (n4 c4 : Nat) (w : World) (h1 : Mem.rd w w.heap.size [.slice A1 n1 c1] s.states) (h2 : Mem.rd w w.heap.size [.slice A2 n2 c2] s.rules)
    (h3 : Mem.rd w w.heap.size [.slice A3 n3 c3] s.states) (h4 : Mem.rd w w.heap.size [.slice A4 n4 c4] s.rules) (hf : s.Fits) :
    Calls Try.prog 24 #[.agg #[.slice A1 n1 c1, .slice A2 n2 c2], .agg #[.slice A3 n3 c3, .slice A4 n4 c4]] w (GivesBool w true) :=
  eqTrace_same s.states s.rules A1 n1 c1 A2 n2 c2 A3 n3 c3 A4 n4 c4 w h1 h2 h3 h4 hf.state
section
variable {H : Type} {enc : TypeId × Value → H} {w : World} {base : Nat} {spare : Nat → Bool} {held : Bool}
set_option maxRecDepth 100000 in
theorem open_trace {v : Value} {d : DataW H} {p : List MemPlace} {r : Reach} {b0 : Nat} (hv : Value.okWide Try.prog w r b0 39 v) (h : DataW.Trod enc Try.prog w base spare held 39 v d p) :
    ∃ A1 n1 c1 A2 n2 c2, ∃ s : Tr, v = .agg #[.slice A1 n1 c1, .slice A2 n2 c2] ∧ Mem.rd w w.heap.size [.slice A1 n1 c1] s.states ∧ Mem.rd w w.heap.size [.slice A2 n2 c2] s.rules := by
  obtain ⟨fuel, h⟩ := h
  obtain ⟨cs, rfl, hcs⟩ := okWide_struct Try.underlying39 hv
  obtain ⟨hl, hf⟩ := one_field Try.underlying39 (by kernel_rfl) (by kernel_rfl) h
  obtain ⟨v0, _, _, e0, t0⟩ := hf 0 _ rfl
  obtain ⟨v1, _, _, e1, t1⟩ := hf 1 _ rfl
  obtain ⟨a, ha⟩ := opens_IntSS _ _ _ t0
  obtain ⟨b, hb⟩ := opens_IntS _ _ _ t1
  have e := list2 hl e0 e1
  have ha' := ha
  have hb' := hb
  obtain ⟨A1, n1, c1, f1, _⟩ := ha'
  obtain ⟨A2, n2, c2, f2, _⟩ := hb'
  injection f1 with f1 _
  injection f2 with f2 _
  subst f1; subst f2
  refine ⟨A1, n1, c1, A2, n2, c2, ⟨a, b⟩, ?_, ha, hb⟩
  have e' : cs.toList = [.slice A1 n1 c1, .slice A2 n2 c2] := e
  rw [← Array.toArray_toList (xs := cs), e']
end
end Go.Proofs.Ytmlhnnkdecabpaa
