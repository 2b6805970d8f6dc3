/- States put into a list in order, of the model. -/
import Derived.Test.YtfgjogmgcamfdaaGreatDoorIl
import Derived.Deep.AppendLies
import Derived.Test.YtfgjogmgcamfdaaGreatDoorBtw
namespace Go.Proofs.YtfgjogmgcamfdaaGreatDoor
open Go.RowKit

/-- A row of slices of the call's own; their numbers lie below a block. -/
def RL (w : World) (base : Nat) (e : TypeId) (v : Value) (k : Nat) (L : List (List Int)) : Prop :=
  L.length = k ∧ ∃ ecs : Nat → List Value, w.ownsRow base e 1 v k (cat ecs k) ∧ ∀ i, i < k → Mem.rd w base (ecs i) (el L i)
/-- The call gives lists of numbers to be read. -/
def GivesRL (w : World) (L : List (List Int)) (e : Ending) (w' : World) : Prop := ∃ A n c, e = .returned (.slice A n c) ∧ Mem.rd w' w'.heap.size [.slice A n c] L ∧ Below w.heap.size w w'

section
variable {w w' W : World} {base k : Nat} {e : TypeId} {v : Value} {L : List (List Int)} {l : List Int}
theorem RL.below (h : RL w base e v k L) (hb : Below w.heap.size w w') (hB : base ≤ w.heap.size) : RL w' base e v k L := by
  obtain ⟨hl, ecs, ho, he⟩ := h
  exact ⟨hl, ecs, own_below ho hb, fun i hi => Mem.rd_below (he i hi) (hb.mono hB)⟩
theorem RL.lit (w : World) (e : TypeId) {base : Nat} (hB : base ≤ w.heap.size) : RL (w.alloc (.cells #[] e)) base e (.slice (some ⟨w.heap.size, 0, none⟩) 0 0) 0 [] :=
  ⟨rfl, fun _ => [], World.ownsRow_lit (base := base) (e := e) (size := 1) w #[] 0 hB (by unfold maxLen; omega) rfl, fun i hi => absurd hi (by omega)⟩
/-- What is handed out, to be read. -/
theorem RL.out (h : RL w base e v k L) (hm : k ≤ maxLen) (hB : base ≤ w.heap.size) : ∃ A c, v = .slice A k c ∧ Mem.rd w w.heap.size [.slice A k c] L := by
  obtain ⟨hl, ecs, ho, he⟩ := h
  rcases ho.2 with ⟨rfl, h0⟩ | ⟨g, cap, cur, rfl, hb, r⟩
  · subst h0
    exact ⟨none, 0, rfl, none, 0, 0, rfl, Nat.zero_le _, hl, fun j hj => absurd hj (by omega)⟩
  · refine ⟨_, cap, rfl, _, k, cap, rfl, hm, hl, fun j hj => ⟨_, ecs j, rfl, ownsRow_lt ho, fun i u hu => ?_, Mem.rd_more (he j hj) hB⟩⟩
    have hlen : ∀ k', k' < k → (ecs k').length = 1 := fun k' hk' => Mem.rd_len (he k' hk')
    have hi : i < 1 := by rw [← hlen j hj]; exact (List.getElem?_eq_some_iff.1 hu).1
    exact ho.cells (g := g) rfl _ _ ((cat_at hlen hj hi).trans hu)
/-- 'append' of one slice whose numbers lie below. -/
theorem RL.app {P : Program} {t ty : TypeId} {i : TypeInfo} (ht : P.underlying t = some (.slice e)) (hi : P.info? e = some i) (hz : i.zero = some (.slice none 0 0)) (hs : i.size = 1) (hby : i.bytes = 24)
    (h : RL W base e v k L) {A : Option Addr} {n c : Nat} (o : Mem.rd W base [.slice A n c] l)
    {ad : Addr} (hc : W.cell? ad = some (.slice A n c)) (hk : k ≤ 1000000000) (hbase : base ≤ W.heap.size) :
    ∃ v' w', (Builtin.append_ #[t, t] ty #[v, .slice (some ad) 1 1]).run P W = .ok v' w' ∧ RL w' base e v' (k + 1) (L ++ [l]) ∧ Below base W w' := by
  obtain ⟨hl, ecs0, ho, he⟩ := h
  have hcell : ∀ (j : Nat) (u : Value), [Value.slice A n c][j]? = some u → W.cell? (ad.add j) = some u := by
    intro j u hu
    cases j with
    | zero => rw [add_zero', hc]; simpa using hu
    | succ j => simp at hu
  obtain ⟨v', w', hr, ho', hg, _, hblk⟩ := run_append_own_at (P := P) W base t ty e i (.slice none 0 0) 1 24 ht hi hz hs hby rfl (by decide) v k _ ho ad 1 1 [.slice A n c] rfl hcell (by intro u hu; simp at hu; subst hu; rfl) (by unfold maxLen; omega) (by omega) hbase
  have hbel : Below base W w' := (Below.refl base W).grown hg hbase fun b hb => (ho.lt b hb).1
  refine ⟨v', w', hr, ⟨by simp [hl], upd ecs0 k [.slice A n c], by rw [cat_upd]; exact ho', fun j hj => ?_⟩, hbel⟩
  by_cases q : j = k
  · subst q
    rw [upd_at, ← hl, el_last]
    exact Mem.rd_below o hbel
  · have hjk : j < k := by omega
    rw [upd_ne _ _ hjk, el_left (by omega)]
    exact Mem.rd_below (he j hjk) hbel
theorem app_rl {ops : Array Oper} {rest : List Oper} {o : Oper} {a : Act} {Q : Exit → Act → World → Prop} {A : Option Addr} {n c : Nat} {ad : Addr} (hgd : o.guard = none) (s x : Operand)
    (ho : o.op = .call { callee := .builtin .append, args := #[s, x], argTypes := #[85, 85] }) (hs : a.eval s = v) (h : RL W base 27 v k L) (hr : Mem.rd W base [.slice A n c] l)
    (hx : a.eval x = .slice (some ad) 1 1) (hc : W.cell? ad = some (.slice A n c)) (hk : k ≤ 1000000000) (hbase : base ≤ W.heap.size)
    (hK : ∀ A' c' w', RL w' base 27 (.slice A' (k + 1) c') (k + 1) (L ++ [l]) → Below base W w' → wpList Tryz.prog ops Q rest (a.put o.dst (.slice A' (k + 1) c')) w') : wpList Tryz.prog ops Q (o :: rest) a W := by
  obtain ⟨v', w', hrun, q1, q2⟩ := RL.app (P := Tryz.prog) (t := 85) (ty := o.type) Tryz.underlying85 inS_row.1 inS_row.2.1 inS_row.2.2.1 inS_row.2.2.2 h hr hc hk hbase
  obtain ⟨A', c', rfl⟩ := row_slice q1.2.choose_spec.1
  refine wpList_plain hgd fun K hK' => ?_
  unfold Oper.wp execOp
  simp only [ho, resolve, invoke, builtin, Sem.run_bind, Sem.run_pure, Result.andThen_ok, List.map_toArray, List.map_cons, List.map_nil, hs, hx, hrun]
  exact hK' _ _ (hK A' c' w' q1 q2)
end
end Go.Proofs.YtfgjogmgcamfdaaGreatDoor
namespace Go.Proofs.YtfgjogmgcamfdaaGreatDoor
open Go.RowKit

/-- Whether one list of numbers comes ahead of another one, from a place on. -/
def lessFrom (a b : List Int) : Nat → Nat → Bool
  | _, 0 => decide (a.length < b.length)
  | k, m + 1 => if ix a k = ix b k then lessFrom a b (k + 1) m else decide (ix a k < ix b k)
def lessB (a b : List Int) : Bool := lessFrom a b 0 (min a.length b.length)

set_option maxHeartbeats 1000000 in
theorem l2Less_any (A : Option Addr) (n c : Nat) (A' : Option Addr) (n' c' : Nat) (a b : List Int) (w : World) (h : Rd w w.heap.size 1 A n (ints a)) (h' : Rd w w.heap.size 1 A' n' (ints b)) (hn : n ≤ maxLen) (_hn' : n' ≤ maxLen) :
    Calls Tryz.prog 122 #[.slice A n c, .slice A' n' c'] w (GivesBool w (lessB a b)) := by
  have l1 := h.len
  have l2 := h'.len
  unfold maxLen at hn _hn'
  obtain ⟨m0, hm0⟩ : ∃ m, m = min n n' := ⟨_, rfl⟩
  have E0 : Hid (lessB a b = lessFrom a b 0 m0) := Lib.hid (by unfold lessB; rw [l1, l2, hm0])
  have HN : Hid (∀ k, lessFrom a b k 0 = decide (n < n')) := Lib.hid (fun k => by unfold lessFrom; rw [l1, l2])
  obtain ⟨F, hF⟩ : ∃ F, F = lessB a b := ⟨_, rfl⟩
  rw [← hF] at E0 ⊢
  clear l1 l2 hF
  go_enter Tryz.func122, Tryz.ntmps122
  go_wp2
  go_loopg [5] m0 (fun m i wr => ∃ k j : Nat, k + m = m0 ∧ k + j = m0 ∧ i = .int .i64 k ∧ Hid (F = lessFrom a b k j) ∧ Below w.heap.size w wr)
  case atStart => exact ⟨0, m0, by omega, by omega, rfl, E0, Below.refl _ _⟩
  case round =>
    obtain ⟨k, j, hk, hkj, rfl, hj, hb⟩ := hrel
    by_cases hlt : k < m0
    · have hk1 : k < n := by omega
      have hk2 : k < n' := by omega
      obtain ⟨i, rfl⟩ : ∃ i, j = i + 1 := ⟨j - 1, by omega⟩
      obtain ⟨ad, rfl, hbl, d0⟩ := (h.below hb).int hk1
      obtain ⟨ad', rfl, hbl', d1⟩ := (h'.below hb).int hk2
      clear hm0
      have hk1' : (k : Int) < n := by omega
      have hk2' : (k : Int) < n' := by omega
      by_cases q : ix a k = ix b k
      · have q' : (ix a k != ix b k) = false := by simp [q]
        have HJ : Hid (F = lessFrom a b (k + 1) i) := Lib.hid (hj.out.trans (by unfold lessFrom; rw [if_pos q]; cases i <;> rfl))
        go_wp2
        go_quiet (fail)
        go_wp2
        go_roundg (m0 - (k + 1))
        case measure => omega
        case rel => exact ⟨k + 1, i, by omega, by omega, by go_num, HJ, hb.trans ⟨rfl, rfl, rfl, Nat.le_refl _, fun _ _ => rfl⟩⟩
      · have q' : (ix a k != ix b k) = true := by simp [q]
        have HF : Hid (F = decide (ix a k < ix b k)) := Lib.hid (hj.out.trans (by unfold lessFrom; rw [if_neg q]))
        go_wp2
        go_quiet (fail)
        go_wp2
        go_quiet (fail)
        go_wp2
        go_ret
        exact ⟨(congrArg (fun b => Ending.returned (.bool b)) HF.out).symm, hb.trans ⟨rfl, rfl, rfl, Nat.le_refl _, fun _ _ => rfl⟩⟩
    · obtain rfl : j = 0 := by omega
      have HF : Hid (F = decide (n < n')) := Lib.hid (hj.out.trans (HN.out k))
      by_cases q : n < n'
      · have hnk : ¬ (k : Int) < n := by omega
        have q1 : (n : Int) < n' := by omega
        have HF : Hid (F = true) := Lib.hid (HF.out.trans (decide_eq_true q))
        clear hm0
        go_wp2
        go_ret
        exact ⟨(congrArg (fun b => Ending.returned (.bool b)) HF.out).symm, hb⟩
      · have q1 : ¬ (n : Int) < n' := by omega
        have HF : Hid (F = false) := Lib.hid (HF.out.trans (decide_eq_false q))
        by_cases q2 : (k : Int) < n
        · have q3 : ¬ (k : Int) < n' := by omega
          clear hm0
          go_wp2
          go_ret
          exact ⟨(congrArg (fun b => Ending.returned (.bool b)) HF.out).symm, hb⟩
        · clear hm0
          go_wp2
          go_ret
          exact ⟨(congrArg (fun b => Ending.returned (.bool b)) HF.out).symm, hb⟩

/-- What 'l2Put' holds behind k states: a list, and whether the state is in it. -/
def putO (L : List (List Int)) (x : List Int) : Nat → List (List Int)
  | 0 => []
  | k + 1 => putO L x k ++ (if (L.take k).any (fun a => decide (a = x) || lessB x a) = false ∧ el L k ≠ x ∧ lessB x (el L k) = true then [x, el L k] else [el L k])
/-- Whether the state is in it. -/
def putD (L : List (List Int)) (x : List Int) (k : Nat) : Bool := (L.take k).any (fun a => decide (a = x) || lessB x a)
def putL (L : List (List Int)) (x : List Int) : List (List Int) := if putD L x L.length then putO L x L.length else putO L x L.length ++ [x]
theorem putD_succ {L : List (List Int)} {x : List Int} {k : Nat} (h : k < L.length) : putD L x (k + 1) = (putD L x k || (decide (el L k = x) || lessB x (el L k))) := by
  unfold putD
  rw [take_el h, List.any_append]
  simp
theorem putO_old {L : List (List Int)} {x : List Int} {k : Nat} (h : putD L x k = true ∨ el L k = x ∨ lessB x (el L k) = false) : putO L x (k + 1) = putO L x k ++ [el L k] := by
  show putO L x k ++ _ = _
  rw [if_neg]
  rintro ⟨a, b, c⟩
  rcases h with h | h | h
  · unfold putD at h; rw [a] at h; cases h
  · exact b h
  · rw [c] at h; cases h
theorem putO_new {L : List (List Int)} {x : List Int} {k : Nat} (h1 : putD L x k = false) (h2 : el L k ≠ x) (h3 : lessB x (el L k) = true) : putO L x (k + 1) = putO L x k ++ [x] ++ [el L k] := by
  show putO L x k ++ _ = _
  rw [if_pos ⟨h1, h2, h3⟩]; simp
theorem putO_len (L : List (List Int)) (x : List Int) : ∀ k, (putO L x k).length ≤ 2 * k
  | 0 => Nat.le_refl _
  | k + 1 => by
    have := putO_len L x k
    show (putO L x k ++ _).length ≤ _
    rw [List.length_append]
    split <;> simp <;> omega
theorem putO_mem {L : List (List Int)} {x y : List Int} : ∀ {k : Nat}, k ≤ L.length → (y ∈ L.take k → y ∈ putO L x k) ∧ (y ∈ putO L x k → y = x ∨ y ∈ L.take k) ∧ (putD L x k = true → x ∈ putO L x k)
  | 0, _ => by simp [putO, putD]
  | k + 1, hk => by
    obtain ⟨a, b, c⟩ := putO_mem (L := L) (x := x) (y := y) (k := k) (by omega)
    rw [take_el (by omega), putD_succ (by omega)]
    show (_ → y ∈ putO L x k ++ _) ∧ (y ∈ putO L x k ++ _ → _) ∧ (_ → x ∈ putO L x k ++ _)
    by_cases q : (L.take k).any (fun a => decide (a = x) || lessB x a) = false ∧ el L k ≠ x ∧ lessB x (el L k) = true
    · rw [if_pos q]
      refine ⟨fun h => ?_, fun h => ?_, fun _ => by simp⟩
      · rcases List.mem_append.1 h with h | h
        · exact List.mem_append_left _ (a h)
        · simp at h; subst h; simp
      · rcases List.mem_append.1 h with h | h
        · rcases b h with h | h
          · exact .inl h
          · exact .inr (List.mem_append_left _ h)
        · simp at h
          rcases h with h | h
          · exact .inl h
          · subst h; exact .inr (by simp)
    · rw [if_neg q]
      refine ⟨fun h => ?_, fun h => ?_, fun h => ?_⟩
      · rcases List.mem_append.1 h with h | h
        · exact List.mem_append_left _ (a h)
        · simp at h; subst h; simp
      · rcases List.mem_append.1 h with h | h
        · rcases b h with h | h
          · exact .inl h
          · exact .inr (List.mem_append_left _ h)
        · simp at h; subst h; exact .inr (by simp)
      · cases hd : putD L x k
        · rw [hd] at h
          simp only [Bool.false_or, Bool.or_eq_true, decide_eq_true_eq] at h
          by_cases e : el L k = x
          · rw [e]; simp
          · rcases h with h | h
            · exact absurd h e
            · exact absurd ⟨hd, e, h⟩ q
        · exact List.mem_append_left _ (c hd)
theorem putL_mem {L : List (List Int)} {x y : List Int} : y ∈ putL L x ↔ y = x ∨ y ∈ L := by
  obtain ⟨a, b, _⟩ := putO_mem (L := L) (x := x) (y := y) (Nat.le_refl L.length)
  obtain ⟨_, _, c⟩ := putO_mem (L := L) (x := x) (y := x) (Nat.le_refl L.length)
  rw [List.take_length] at a b
  unfold putL
  cases hd : putD L x L.length
  · simp only [Bool.false_eq_true, if_false, List.mem_append, List.mem_singleton]
    constructor
    · rintro (h | h)
      · exact b h
      · exact .inl h
    · rintro (h | h)
      · exact .inr h
      · exact .inl (a h)
  · simp only [if_true]
    constructor
    · exact b
    · rintro (h | h)
      · subst h; exact c hd
      · exact a h
theorem putL_len (L : List (List Int)) (x : List Int) : (putL L x).length ≤ 2 * L.length + 1 := by
  have := putO_len L x L.length
  unfold putL
  split
  · omega
  · rw [List.length_append]; simp; omega

set_option maxRecDepth 100000 in
set_option maxHeartbeats 4000000 in
theorem l2Put_any (A : Option Addr) (n c : Nat) (A' : Option Addr) (n' c' : Nat) (L : List (List Int)) (x : List Int) (w : World) (h : Mem.rd w w.heap.size [.slice A n c] L) (h' : Mem.rd w w.heap.size [.slice A' n' c'] x) (hn : n ≤ 1000000) :
    Calls Tryz.prog 101 #[.slice A n c, .slice A' n' c'] w (GivesRL w (putL L x)) := by
  have hl := rd_len h
  have hm' := rd_max h'
  have HN := Lib.hid (fun k (hk : k < n) => (⟨putD_succ (L := L) (x := x) (k := k) (by omega), putO_old (L := L) (x := x) (k := k), putO_new (L := L) (x := x) (k := k)⟩ : _ ∧ _ ∧ _))
  have HL := Lib.hid (putO_len L x)
  obtain ⟨F, hF⟩ : ∃ F, F = putL L x := ⟨_, rfl⟩
  have E : Hid (F = if putD L x n then putO L x n else putO L x n ++ [x]) := Lib.hid (by rw [hF]; unfold putL; rw [hl])
  rw [← hF]
  have SC := Lib.hid (fun k W A1 n1 c1 (B : Below w.heap.size w W) (r : Mem.rd W W.heap.size [.slice A1 n1 c1] (el L k)) => l2Same_any A1 n1 c1 A' n' c' (el L k) x W (rd_ints.1 r).2 (rd_ints.1 (Mem.rd_on h' B)).2 (rd_max r) hm')
  have LC := Lib.hid (fun k W A1 n1 c1 (B : Below w.heap.size w W) (r : Mem.rd W W.heap.size [.slice A1 n1 c1] (el L k)) => l2Less_any A' n' c' A1 n1 c1 x (el L k) W (rd_ints.1 (Mem.rd_on h' B)).2 (rd_ints.1 r).2 hm' (rd_max r))
  clear hF hl hm'
  go_enter Tryz.func101, Tryz.ntmps101
  go_wp2
  go_loopg [5, 6, 7] n (fun m v d i wr => ∃ k j : Nat, k + m = n ∧ i = .int .i64 k ∧ d = .bool (putD L x k) ∧ Hid (RL wr w.heap.size 27 v j (putO L x k)) ∧ j ≤ 2 * k ∧ Below w.heap.size w wr)
  case atStart => exact ⟨0, 0, by omega, rfl, rfl, Lib.hid (RL.lit w _ (Nat.le_refl _)), Nat.le_refl _, below_alloc _ _⟩
  case round =>
    obtain ⟨k, j, hk, rfl, rfl, ho, hj, hb⟩ := hrel
    by_cases hlt : k < n
    · obtain ⟨ad, A1, n1, c1, rfl, hbl, d0, r1⟩ := ll_at (Mem.rd_below h hb) hlt
      obtain ⟨hD, hO, hNw⟩ := HN.out k hlt
      have HR1 := Lib.hid r1
      have SK := Lib.hid (fun W (B : Below wr.heap.size wr W) => SC.out k W A1 n1 c1 (hb.trans (B.mono hb.size)) (Mem.rd_more (Mem.rd_below r1 (B.mono hb.size)) (Nat.le_trans hb.size B.size)))
      have LK := Lib.hid (fun W (B : Below wr.heap.size wr W) => LC.out k W A1 n1 c1 (hb.trans (B.mono hb.size)) (Mem.rd_more (Mem.rd_below r1 (B.mono hb.size)) (Nat.le_trans hb.size B.size)))
      have RX := Lib.hid (fun W (B : Below w.heap.size wr W) => Mem.rd_below r1 B)
      have DX := Lib.hid (fun W (B : Below w.heap.size wr W) => cell_below B (p := ad.add k) (by rw [add_block]; exact hbl) d0)
      have XX := Lib.hid (fun W (B : Below w.heap.size wr W) => Mem.rd_below (Mem.rd_below h' hb) B)
      have SK := Lib.hid (SC.out k wr A1 n1 c1 hb (Mem.rd_more r1 hb.size))
      have LK := Lib.hid (fun W (B : Below wr.heap.size wr W) => LC.out k W A1 n1 c1 (hb.trans (B.mono hb.size)) (Mem.rd_more (Mem.rd_below r1 (B.mono hb.size)) (Nat.le_trans hb.size B.size)))
      have HB := Lib.hid hb
      have hHO := Lib.hid hO
      have hHN := Lib.hid hNw
      have hHD := Lib.hid hD
      clear hO hNw r1 hD
      cases hd : putD L x k
      · by_cases e1 : el L k = x
        · have ND : Hid (putD L x (k + 1) = true) := Lib.hid (by rw [hHD.out, decide_eq_true e1]; simp)
          have NL := Lib.hid (hHO.out (.inr (.inl e1)))
          have ed := Lib.hid (decide_eq_true e1)
          clear hd e1
          go_wp2_with fail
          refine (SK.out).mono ?_
          rintro e w3 ⟨rfl, b3⟩
          rw [ed.out]
          have d3 := DX.out w3 (b3.mono HB.out.size)
          have HZ3 := Lib.hid (Nat.le_trans HB.out.size b3.size)
          have HO3 := Lib.hid (fun o => (ho.out.below b3 HB.out.size).below (below_alloc w3 o) HZ3.out)
          have HR3 := Lib.hid (fun o => Mem.rd_alloc (RX.out w3 (b3.mono HB.out.size)) HZ3.out o)
          have HB3 := Lib.hid (fun o => (HB.out.trans (b3.mono HB.out.size)).alloc HZ3.out o)
          go_wp2_with (first
            | (at_builtin; refine app_rl rfl _ _ rfl rfl (HO3.out _) (HR3.out _) rfl (World.cell?_alloc_at _ _ _ _ (by simp)) (by omega) (by rw [World.size_alloc]; have := HZ3.out; omega) ?_; intro A5 c5 w5 q5 p5))
          go_roundg (n - (k + 1))
          case measure => omega
          case rel => exact ⟨k + 1, j + 1, by omega, by go_num, by rw [ND.out], by rw [NL.out]; exact Lib.hid q5, by omega, (HB3.out _).trans p5⟩
        · have ed := Lib.hid (decide_eq_false e1)
          cases e2 : lessB x (el L k)
          · have ND : Hid (putD L x (k + 1) = false) := Lib.hid (by rw [hHD.out, ed.out, e2, hd]; rfl)
            have NL := Lib.hid (hHO.out (.inr (.inr e2)))
            have e2 := Lib.hid e2
            clear hd e1
            go_wp2_with fail
            refine (SK.out).mono ?_
            rintro e w3 ⟨rfl, b3⟩
            rw [ed.out]
            have d3 := DX.out w3 (b3.mono HB.out.size)
            go_wp2_with fail
            refine (LK.out w3 b3).mono ?_
            rintro e w4 ⟨rfl, b4⟩
            rw [e2.out]
            have b4' := b3.trans (b4.mono b3.size)
            have d4 := DX.out w4 (b4'.mono HB.out.size)
            have HZ3 := Lib.hid (Nat.le_trans HB.out.size b4'.size)
            have HO3 := Lib.hid (fun o => (ho.out.below b4' HB.out.size).below (below_alloc w4 o) HZ3.out)
            have HR3 := Lib.hid (fun o => Mem.rd_alloc (RX.out w4 (b4'.mono HB.out.size)) HZ3.out o)
            have HB3 := Lib.hid (fun o => (HB.out.trans (b4'.mono HB.out.size)).alloc HZ3.out o)
            clear d3
            go_wp2_with (first
              | (at_builtin; refine app_rl rfl _ _ rfl rfl (HO3.out _) (HR3.out _) rfl (World.cell?_alloc_at _ _ _ _ (by simp)) (by omega) (by rw [World.size_alloc]; have := HZ3.out; omega) ?_; intro A5 c5 w5 q5 p5))
            go_roundg (n - (k + 1))
            case measure => omega
            case rel => exact ⟨k + 1, j + 1, by omega, by go_num, by rw [ND.out], by rw [NL.out]; exact Lib.hid q5, by omega, (HB3.out _).trans p5⟩
          · have ND : Hid (putD L x (k + 1) = true) := Lib.hid (by rw [hHD.out, ed.out, e2, hd]; rfl)
            have NL := Lib.hid (hHN.out hd e1 e2)
            have e2 := Lib.hid e2
            clear hd e1
            go_wp2_with fail
            refine (SK.out).mono ?_
            rintro e w3 ⟨rfl, b3⟩
            rw [ed.out]
            have d3 := DX.out w3 (b3.mono HB.out.size)
            go_wp2_with fail
            refine (LK.out w3 b3).mono ?_
            rintro e w4 ⟨rfl, b4⟩
            rw [e2.out]
            have b4' := b3.trans (b4.mono b3.size)
            have HZ3 := Lib.hid (Nat.le_trans HB.out.size b4'.size)
            have HO3 := Lib.hid (fun o => (ho.out.below b4' HB.out.size).below (below_alloc w4 o) HZ3.out)
            have HX3 := Lib.hid (fun o => Mem.rd_alloc (XX.out w4 (b4'.mono HB.out.size)) HZ3.out o)
            have HB3 := Lib.hid (fun o => (HB.out.trans (b4'.mono HB.out.size)).alloc HZ3.out o)
            clear d3
            go_wp2_with (first
              | (at_builtin; refine app_rl rfl _ _ rfl rfl (HO3.out _) (HX3.out _) rfl (World.cell?_alloc_at _ _ _ _ (by simp)) (by omega) (by rw [World.size_alloc]; have := HZ3.out; omega) ?_; intro A5 c5 w5 q5 p5
                 have hB5 := (HB3.out _).trans p5
                 have d5 := DX.out w5 (((b4'.mono HB.out.size).alloc HZ3.out _).trans p5)
                 have HZ5 := Lib.hid hB5.size
                 have HO5 := Lib.hid (fun o => q5.below (below_alloc w5 o) HZ5.out)
                 have HR5 := Lib.hid (fun o => Mem.rd_alloc (RX.out w5 (((b4'.mono HB.out.size).alloc HZ3.out _).trans p5)) HZ5.out o)
                 have HB5 := Lib.hid (fun o => hB5.alloc HZ5.out o)
                 clear q5 p5 hB5)
              | (at_builtin; refine app_rl rfl _ _ rfl rfl (HO5.out _) (HR5.out _) rfl (World.cell?_alloc_at _ _ _ _ (by simp)) (by omega) (by rw [World.size_alloc]; have := HZ5.out; omega) ?_; intro A6 c6 w6 q6 p6))
            go_roundg (n - (k + 1))
            case measure => omega
            case rel => exact ⟨k + 1, j + 1 + 1, by omega, by go_num, by rw [ND.out], by rw [NL.out]; exact Lib.hid q6, by omega, (HB5.out _).trans p6⟩
      · have ND : Hid (putD L x (k + 1) = true) := Lib.hid (by rw [hHD.out, hd]; rfl)
        have NL := Lib.hid (hHO.out (.inl hd))
        have HZ3 := Lib.hid HB.out.size
        have HO3 := Lib.hid (fun o => ho.out.below (below_alloc wr o) HZ3.out)
        have HR3 := Lib.hid (fun o => Mem.rd_alloc (RX.out wr (Below.refl _ _)) HZ3.out o)
        have HB3 := Lib.hid (fun o => HB.out.alloc HZ3.out o)
        clear hd
        go_wp2_with (first
          | (at_builtin; refine app_rl rfl _ _ rfl rfl (HO3.out _) (HR3.out _) rfl (World.cell?_alloc_at _ _ _ _ (by simp)) (by omega) (by rw [World.size_alloc]; have := HZ3.out; omega) ?_; intro A5 c5 w5 q5 p5))
        go_roundg (n - (k + 1))
        case measure => omega
        case rel => exact ⟨k + 1, j + 1, by omega, by go_num, by rw [ND.out], by rw [NL.out]; exact Lib.hid q5, by omega, (HB3.out _).trans p5⟩
    · obtain rfl : k = n := by omega
      have HB := Lib.hid hb
      cases hd : putD L x k
      · have E1 : Hid (F = putO L x k ++ [x]) := Lib.hid (E.out.trans (by rw [hd]; rfl))
        have HX := Lib.hid (fun o => Mem.rd_alloc (Mem.rd_below h' hb) hb.size o)
        have HO := Lib.hid (fun o => ho.out.below (below_alloc wr o) hb.size)
        clear hd
        go_wp2_with (first
          | (at_builtin; refine app_rl rfl _ _ rfl rfl (HO.out _) (HX.out _) rfl (World.cell?_alloc_at _ _ _ _ (by simp)) (by omega) (by rw [World.size_alloc]; have := HB.out.size; omega) ?_; intro A2 c2 w2 q1 q2))
        go_ret
        have hb2 := (HB.out.alloc HB.out.size _).trans q2
        obtain ⟨A3, c3, e3, r3⟩ := q1.out (by unfold maxLen; omega) hb2.size
        rw [← E1.out, ← e3] at r3
        exact ⟨_, _, _, rfl, r3, hb2⟩
      · have E1 : Hid (F = putO L x k) := Lib.hid (E.out.trans (by rw [hd]; rfl))
        clear hd
        obtain ⟨A3, c3, rfl, r3⟩ := ho.out.out (by unfold maxLen; omega) hb.size
        rw [← E1.out] at r3
        have R3 := Lib.hid r3
        clear r3
        go_wp2
        go_ret
        exact ⟨_, _, _, rfl, R3.out, HB.out⟩
end Go.Proofs.YtfgjogmgcamfdaaGreatDoor
