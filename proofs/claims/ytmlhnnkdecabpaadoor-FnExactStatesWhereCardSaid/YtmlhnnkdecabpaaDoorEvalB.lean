/- impl.Eval: values kept in an array of the call's own. -/
import Derived.Test.YtmlhnnkdecabpaaDoorEvalA
namespace Go.Proofs.YtmlhnnkdecabpaaDoor
open Go.RowKit

/-- A block of any type whose first n cells are xs. -/
def Arr (w : World) (T : TypeId) (g cap n : Nat) (xs : List Value) : Prop := ∃ cur : Array Value, w.heap[g]? = some (.cells cur T (0, 0)) ∧ cur.size = cap ∧ n ≤ cap ∧ xs.length = n ∧ cur.toList.take n = xs
section
variable {w w' : World} {T : TypeId} {g cap n : Nat} {xs : List Value}
theorem Arr.lt (h : Arr w T g cap n xs) : g < w.heap.size := by
  obtain ⟨cur, h, _⟩ := h
  exact (Array.getElem?_eq_some_iff.1 h).1
theorem Arr.below {B : Nat} (h : Arr w T g cap n xs) (hb : Below B w w') (hg : g < B) : Arr w' T g cap n xs := by
  obtain ⟨cur, h1, h2⟩ := h
  exact ⟨cur, (hb.block g hg).trans h1, h2⟩
theorem Arr.alloc (h : Arr w T g cap n xs) (o : Obj) : Arr (w.alloc o) T g cap n xs := h.below (below_alloc w o) h.lt
theorem Arr.rd (h : Arr w T g cap n xs) : Rd w w.heap.size 1 (some ⟨g, 0, none⟩) n xs := by
  have hg := h.lt
  obtain ⟨cur, h1, h2, h3, h4, h5⟩ := h
  refine ⟨by omega, fun _ => ⟨_, rfl, hg, fun j u hu => ?_⟩⟩
  have hadd : (⟨g, 0, none⟩ : Addr).add j = ⟨g, j, none⟩ := by unfold Addr.add; split <;> simp_all
  rw [hadd, cell_of_row w g j cur T (0, 0) h1]
  rw [← h5, List.getElem?_take] at hu
  split at hu
  · simpa using hu
  · cases hu

/-- 'append' of one int within an array of the call's own. -/
theorem run_app_arr {P : Program} {t ty e : TypeId} {i : TypeInfo} (ht : P.underlying t = some (.slice e)) (hi : P.info? e = some i) (h1 : i.size = 1) (z : Int) {tz : TypeId} (h : Arr w T g cap n xs) (hn : n < cap) :
    ∃ w', (Builtin.append_ #[t, t] ty #[.slice (some ⟨g, 0, none⟩) n cap, .slice (some ⟨w.heap.size, 0, none⟩) 1 1]).run P (w.alloc (.cells #[.int .i64 z] tz)) = .ok (.slice (some ⟨g, 0, none⟩) (n + 1) cap) w' ∧
      Arr w' T g cap (n + 1) (xs ++ [.int .i64 z]) ∧ (w.alloc (.cells #[.int .i64 z] tz)).grownBy w' (some g) := by
  have hx := h.alloc (.cells #[.int .i64 z] tz)
  obtain ⟨cur, hg, hc, hnc, hl, ht'⟩ := hx
  have hcell : ∀ (j : Nat) (u : Value), [Value.int .i64 z][j]? = some u → (w.alloc (.cells #[.int .i64 z] tz)).cell? ((⟨w.heap.size, 0, none⟩ : Addr).add j) = some u := by
    intro j u hu
    cases j with
    | zero => rw [add_zero', World.cell?_alloc_at _ _ _ _ rfl]; simpa using hu
    | succ j => simp at hu
  have hf := run_firstCells_some (P := P) (w.alloc (.cells #[.int .i64 z] tz)) 1 1 ⟨w.heap.size, 0, none⟩ 1 1 [.int .i64 z] rfl hcell
  have hst := run_storeCells_at P g n T [.int .i64 z] 0 cur (w.alloc (.cells #[.int .i64 z] tz)) hg (by simp; omega) (by intro u hu; simp at hu; subst hu; rfl)
  simp only [Nat.add_zero] at hst
  refine ⟨(w.alloc (.cells #[.int .i64 z] tz)).setRow g (cur.toList.take n ++ [Value.int .i64 z] ++ cur.toList.drop (n + 1)).toArray, ?_, ?_, ?_⟩
  · rw [show n + [Value.int .i64 z].length = n + 1 from rfl] at hst
    simp only [Builtin.append_, sizeOf, typeInfo, Builtin.lenOf]
    simp [run_underlying ht, hi, h1, show n + 1 ≤ cap from hn, hf, Addr.add_lit]
    simp at hst
    rw [hst]; rfl
  · refine ⟨_, setRow_heap _ g cur _ T _ hg, ?_, hn, by simp [hl], ?_⟩
    · simp; omega
    · rw [← ht']
      have e : (cur.toList.take n).length = n := by simp; omega
      rw [List.toList_toArray, List.take_append_of_le_length (by simp; omega), List.take_of_length_le (by simp; omega)]
  · exact ⟨rfl, rfl, rfl, by simp, fun k _ hk => setRow_other _ g k _ (fun e => hk (by simp [e]))⟩

theorem app_arr {ops : Array Oper} {rest : List Oper} {o : Oper} {a : Act} {Q : Exit → Act → World → Prop} (hgd : o.guard = none) (s x : Operand)
    (ho : o.op = .call { callee := .builtin .append, args := #[s, x], argTypes := #[29, 29] }) (l : List Int) (z : Int)
    (hs : a.eval s = .slice (some ⟨g, 0, none⟩) n cap) (h : Arr w T g cap n (ints l)) (hx : a.eval x = .slice (some ⟨w.heap.size, 0, none⟩) 1 1) (hn : n < cap)
    (hK : ∀ w', Arr w' T g cap (n + 1) (ints (l ++ [z])) → (w.alloc (.cells #[.int .i64 z] 3)).grownBy w' (some g) → wpList Tryd.prog ops Q rest (a.put o.dst (.slice (some ⟨g, 0, none⟩) (n + 1) cap)) w') :
    wpList Tryd.prog ops Q (o :: rest) a (w.alloc (.cells #[.int .i64 z] 3)) := by
  obtain ⟨w', hr, h1, h2⟩ := run_app_arr (P := Tryd.prog) (ty := o.type) (tz := 3) Tryd.underlying29 int_row.1 int_row.2.2.1 z h hn
  refine wpList_plain hgd fun K hK' => ?_
  unfold Oper.wp execOp
  simp only [ho, resolve, invoke, builtin, Sem.run_bind, Sem.run_pure, Result.andThen_ok, List.map_toArray, List.map_cons, List.map_nil, hs, hx, hr]
  exact hK' _ _ (hK w' (by simpa [ints] using h1) h2)
end

set_option maxHeartbeats 2000000 in
theorem valueIn_any (A : Option Addr) (n c : Nat) (A' : Option Addr) (n' c' : Nat) (l : List Tm) (st ks : List Int) (w : World) (h : Rd w w.heap.size 4 A n (tms l)) (h' : Rd w w.heap.size 1 A' n' (ints st)) (hn : n ≤ 40) (hn1 : 1 ≤ n)
    (hs : NumsOk st) (hks : kindsTo l st.length n = some ks) :
    Calls Tryd.prog 83 #[.slice A n c, .slice A' n' c'] w (GivesInt w (ix (valsTo l st n) (n - 1))) := by
  have hks := Lib.hid hks
  have harr : ∀ cur : Array Value, cur.size = 40 → Arr (w.alloc (.cells cur 125)) 125 w.heap.size 40 0 (ints []) := fun cur hc => ⟨cur, heap_alloc_new w _, hc, by omega, rfl, by simp [ints]⟩
  have harr := Lib.hid harr
  go_enter Tryd.func83, Tryd.ntmps83
  go_wp2
  go_loopg [6, 12] n (fun m v i wr => ∃ k : Nat, k + m = n ∧ i = .int .i64 k ∧ v = .slice (some ⟨w.heap.size, 0, none⟩) k 40 ∧ Arr wr 125 w.heap.size 40 k (ints (valsTo l st k)) ∧ Below w.heap.size w wr)
  case atStart => exact ⟨0, by omega, rfl, rfl, harr.out _ rfl, below_alloc _ _⟩
  case round =>
    obtain ⟨k, hk, rfl, rfl, ha, hb⟩ := hrel
    by_cases hlt : k < n
    · obtain ⟨ks', hk', hne⟩ := kindsTo_some hks.out k (by omega)
      have hne := hne hlt
      have hfit := vals_fit hs hk'
      obtain ⟨ad, rfl, _, h0, h1, h2, h3⟩ := (h.below hb).tm hlt
      have R1 := fun o => ((ha.alloc o).rd)
      have R2 := fun o => (((h'.below hb).more hb.size).alloc (Nat.le_refl _) o).more (B' := (wr.alloc o).heap.size) (by simp)
      have CV := fun o => valueOf_any (some ⟨w.heap.size, 0, none⟩) A' k 40 n' c' (valsTo l st k) st ks' (wr.alloc o) (tx l k) (R1 o) (R2 o) hne hfit
      have CV := Lib.hid CV
      clear R1 R2
      have HK := Lib.hid hk'
      clear hk' hne hfit
      go_wp2_with (first
        | (go_at_call 103; refine (CV.out _).mono ?_; rintro e w2 ⟨rfl, hb2⟩; have hb3 := below_call hb2)
        | (at_builtin; refine app_arr rfl _ _ rfl (valsTo l st k) _ rfl (ha.below hb3 ha.lt) rfl (by omega) ?_; intro w3 ha3 hg3))
      go_roundg (n - (k + 1))
      case measure => omega
      case rel =>
        refine ⟨k + 1, by omega, by go_num, rfl, ha3, ?_⟩
        have s1 := hb.trans (hb3.mono hb.size)
        exact (s1.alloc s1.size _).grown hg3 (by have := s1.size; simp; omega) (by simp)
    · obtain rfl : k = n := by omega
      obtain ⟨p, rfl⟩ : ∃ p, k = p + 1 := ⟨k - 1, by omega⟩
      obtain ⟨ad, ea, _, h0⟩ := ha.rd.int (k := p) (by omega)
      injection ea with ea
      subst ea
      rw [show (⟨w.heap.size, 0, none⟩ : Addr).add p = ⟨w.heap.size, p, none⟩ by unfold Addr.add; split <;> simp_all] at h0
      go_wp2
      go_ret
      exact ⟨by simp, hb⟩

/-- The call gives this value; nothing that was there has changed. -/
def GivesV (w : World) (v : Value) (e : Ending) (w' : World) : Prop := e = .returned v ∧ Below w.heap.size w w'

end Go.Proofs.YtmlhnnkdecabpaaDoor
