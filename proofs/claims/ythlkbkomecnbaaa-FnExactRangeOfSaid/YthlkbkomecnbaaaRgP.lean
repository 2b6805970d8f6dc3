/- Between which values terms lie. -/
import Derived.Test.YthlkbkomecnbaaaEvalC
namespace Go.Proofs.Ythlkbkomecnbaaa
open Go.RowKit

structure En where
  lo : Int
  hi : Int
def En.cs (v : En) : List Value := [.int .i64 v.lo, .int .i64 v.hi]
def En.v (v : En) : Value := .agg #[.int .i64 v.lo, .int .i64 v.hi]
def ens (l : List En) : List Value := l.flatMap En.cs
theorem len_ens (l : List En) : (ens l).length = l.length * 2 := by
  unfold ens
  induction l with
  | nil => rfl
  | cons a l ih => simp only [List.flatMap_cons, List.length_append, ih, List.length_cons]; show 2 + _ = _; omega
theorem ens_at : ∀ (l : List En) (k : Nat) (hk : k < l.length) (j : Nat) (_ : j < 2), (ens l)[k * 2 + j]? = (l[k].cs)[j]?
  | [], k, hk, _, _ => absurd hk (by simp)
  | a :: l, 0, _, j, hj => by
    unfold ens
    rw [List.flatMap_cons, List.getElem?_append_left (by show _ < 2; omega)]
    simp
  | a :: l, k + 1, hk, j, hj => by
    have ih := ens_at l k (by simpa using hk) j hj
    unfold ens at ih ⊢
    rw [List.flatMap_cons, List.getElem?_append_right (by show 2 ≤ _; omega)]
    have : (k + 1) * 2 + j - a.cs.length = k * 2 + j := by show _ - 2 = _; omega
    rw [this, ih]
    rfl
def ex (l : List En) (k : Nat) : En := l[k]?.getD ⟨0, 0⟩
theorem ex_lt {l : List En} {k : Nat} (h : k < l.length) : ex l k = l[k] := by simp [ex, List.getElem?_eq_getElem h]
theorem ex_left {l m : List En} {k : Nat} (h : k < l.length) : ex (l ++ m) k = ex l k := by unfold ex; rw [List.getElem?_append_left h]
theorem ex_last {l : List En} {x : En} : ex (l ++ [x]) l.length = x := by unfold ex; simp
theorem ens_app (l m : List En) : ens (l ++ m) = ens l ++ ens m := by unfold ens; rw [List.flatMap_append]
theorem ens_one' (t : En) : ens [t] = t.cs := by simp [ens]
theorem Rd.elen {w : World} {B n : Nat} {A : Option Addr} {l : List En} (h : Rd w B 2 A n (ens l)) : l.length = n := by have := h.1; rw [len_ens] at this; omega
theorem Rd.en {w : World} {B n : Nat} {A : Option Addr} {l : List En} (h : Rd w B 2 A n (ens l)) {k : Nat} (hk : k < n) :
    ∃ ad, A = some ad ∧ ad.block < B ∧ w.cell? (ad.add (k * 2)) = some (.int .i64 (ex l k).lo) ∧ w.cell? (ad.add (k * 2 + 1)) = some (.int .i64 (ex l k).hi) := by
  have hl := h.elen
  obtain ⟨ad, rfl, hb, hc⟩ := h.2 (by omega)
  have hk' : k < l.length := by omega
  refine ⟨ad, rfl, hb, hc _ _ ?_, hc _ _ ?_⟩
  · have := ens_at l k hk' 0 (by omega); rw [ex_lt hk']; exact this
  · have := ens_at l k hk' 1 (by omega); rw [ex_lt hk']; exact this

def mnL (q : List Int) : Nat → Int
  | 0 => ix q 0
  | k + 1 => if ix q (k + 1) < mnL q k then ix q (k + 1) else mnL q k
def mxL (q : List Int) : Nat → Int
  | 0 => ix q 0
  | k + 1 => if mxL q k < ix q (k + 1) then ix q (k + 1) else mxL q k
theorem mnL_le (q : List Int) : ∀ k, mnL q k ≤ ix q 0
  | 0 => Int.le_refl _
  | k + 1 => by have := mnL_le q k; unfold mnL; split <;> omega
theorem mxL_ge (q : List Int) : ∀ k, ix q 0 ≤ mxL q k
  | 0 => Int.le_refl _
  | k + 1 => by have := mxL_ge q k; unfold mxL; split <;> omega
def four (a b : En) : List Int := [a.lo * b.lo, a.lo * b.hi, a.hi * b.lo, a.hi * b.hi]
def doEn (op : Int) (a b : En) : En :=
  if op = 2 then ⟨hld (a.lo + b.lo), hld (a.hi + b.hi)⟩ else if op = 3 then ⟨hld (a.lo - b.hi), hld (a.hi - b.lo)⟩
  else if op = 4 then ⟨hld (mnL (four a b) 3), hld (mxL (four a b) 3)⟩
  else if op = 5 then ⟨tr (decide (a.hi < b.lo)), tr (decide (a.lo < b.hi))⟩
  else if op = 6 then ⟨tr (a.lo == a.hi && b.lo == b.hi && a.lo == b.lo), tr (decide (a.lo ≤ b.hi) && decide (b.lo ≤ a.hi))⟩
  else if op = 7 then ⟨1 - a.hi, 1 - a.lo⟩ else ⟨doOp op a.lo b.lo, doOp op a.hi b.hi⟩
def enOf (t : Tm) (E : List En) (lo hi : List Int) : En :=
  if t.op = 0 then ⟨t.n, t.n⟩ else if t.op = 1 then ⟨ix lo t.n.toNat, ix hi t.n.toNat⟩ else doEn t.op (ex E t.a.toNat) (ex E t.b.toNat)
def ensTo (l : List Tm) (lo hi : List Int) : Nat → List En
  | 0 => []
  | k + 1 => ensTo l lo hi k ++ [enOf (tx l k) (ensTo l lo hi k) lo hi]
theorem len_ensTo (l : List Tm) (lo hi : List Int) : ∀ k, (ensTo l lo hi k).length = k
  | 0 => rfl
  | k + 1 => by simp [ensTo, len_ensTo l lo hi k]

/-- Ends within MaxNumber, in order; a truth's are 0 or 1. -/
structure EnOk (k : Int) (e : En) : Prop where
  l : -9999 ≤ e.lo
  m : e.lo ≤ e.hi
  h : e.hi ≤ 9999
  t : k = 2 → (e.lo = 0 ∨ e.lo = 1) ∧ (e.hi = 0 ∨ e.hi = 1)
def FitE (ks : List Int) (E : List En) : Prop := ks.length = E.length ∧ ∀ i, i < ks.length → EnOk (ix ks i) (ex E i)
theorem FitE.nil : FitE [] [] := ⟨rfl, fun i h => absurd h (by simp)⟩
theorem FitE.snoc {ks : List Int} {E : List En} (h : FitE ks E) {k : Int} {e : En} (h1 : EnOk k e) : FitE (ks ++ [k]) (E ++ [e]) := by
  refine ⟨by simp [h.1], fun i hi => ?_⟩
  by_cases g : i < ks.length
  · rw [ix_left g, ex_left (by rw [← h.1]; exact g)]
    exact h.2 i g
  · have e' : i = ks.length := by simp at hi; omega
    subst e'
    rw [ix_last, h.1, ex_last]
    exact h1
def leB (lo hi : List Int) : Bool := (List.range lo.length).all fun i => decide (ix lo i ≤ ix hi i)
def endsB (lo hi : List Int) : Bool := decide (lo.length = hi.length) && numsB lo && numsB hi && leB lo hi
structure EndsOk (lo hi : List Int) : Prop where
  len : lo.length = hi.length
  l : NumsOk lo
  h : NumsOk hi
  le : ∀ i, i < lo.length → ix lo i ≤ ix hi i
theorem leB_at {lo hi : List Int} (h : leB lo hi = true) : ∀ i, i < lo.length → ix lo i ≤ ix hi i := by
  intro i hi'
  unfold leB at h
  rw [List.all_eq_true] at h
  exact of_decide_eq_true (h i (List.mem_range.2 hi'))
theorem leB_true {lo hi : List Int} (h : ∀ i, i < lo.length → ix lo i ≤ ix hi i) : leB lo hi = true := by
  unfold leB
  rw [List.all_eq_true]
  intro i hi'
  exact decide_eq_true (h i (List.mem_range.1 hi'))
theorem leB_false {lo hi : List Int} {i : Nat} (hi' : i < lo.length) (h : ¬ ix lo i ≤ ix hi i) : leB lo hi = false := by
  cases e : leB lo hi
  · rfl
  · exact absurd (leB_at e i hi') h
theorem ends_ok {lo hi : List Int} (h : endsB lo hi = true) : EndsOk lo hi := by
  unfold endsB at h
  simp only [Bool.and_eq_true, decide_eq_true_eq] at h
  exact ⟨h.1.1.1, nums_ok h.1.1.2, nums_ok h.1.2, leB_at h.2⟩
theorem hld_mono {a b : Int} (h : a ≤ b) : hld a ≤ hld b := by unfold hld; split <;> split <;> (try split) <;> (try split) <;> omega
theorem hld_ok {a b : Int} (h : a ≤ b) {k : Int} (hk : k ≠ 2) : EnOk k ⟨hld a, hld b⟩ := ⟨(hld_in a).1, hld_mono h, (hld_in b).2, fun e => absurd e hk⟩
theorem tr_ok {a b : Bool} (h : a = true → b = true) (k : Int) : EnOk k ⟨tr a, tr b⟩ := by
  cases a <;> cases b <;> first | exact ⟨by decide, by decide, by decide, fun _ => ⟨by simp [tr], by simp [tr]⟩⟩ | exact absurd (h rfl) (by decide)
theorem enOf_fit {t : Tm} {ks : List Int} {E : List En} {lo hi : List Int} (h : kind t ks lo.length ≠ 0) (hf : FitE ks E) (hs : EndsOk lo hi) : EnOk (kind t ks lo.length) (enOf t E lo hi) := by
  rcases kind_inv h with ⟨e, h1, h2, hk⟩ | ⟨e, h1, h2, hk⟩ | ⟨e1, e2, ⟨a0, a1, ak⟩, ⟨b0, b1, bk⟩, h7, hk⟩
  · unfold enOf; rw [if_pos e, hk]; exact ⟨h1, Int.le_refl _, h2, fun x => absurd x (by decide)⟩
  · unfold enOf; rw [if_neg (by omega), if_pos e, hk]
    have q : t.n.toNat < lo.length := by omega
    exact ⟨(hs.l _ q).1, hs.le _ q, (hs.h _ (by rw [← hs.len]; exact q)).2, fun x => absurd x (by decide)⟩
  · unfold enOf; rw [if_neg (by omega), if_neg (by omega), hk]
    have fa := hf.2 t.a.toNat (by omega)
    have fb := hf.2 t.b.toNat (by omega)
    rw [ak] at fa
    rw [bk] at fb
    unfold want at fa fb
    generalize ex E t.a.toNat = x at *
    generalize ex E t.b.toNat = y at *
    have fal := fa.l
    have fam := fa.m
    have fah := fa.h
    have fbl := fb.l
    have fbm := fb.m
    have fbh := fb.h
    unfold doEn
    by_cases g2 : t.op = 2
    · rw [if_pos g2]; exact hld_ok (by omega) (by rw [if_pos (by omega)]; decide)
    rw [if_neg g2]
    by_cases g3 : t.op = 3
    · rw [if_pos g3]; exact hld_ok (by omega) (by rw [if_pos (by omega)]; decide)
    rw [if_neg g3]
    by_cases g4 : t.op = 4
    · rw [if_pos g4]; exact hld_ok (Int.le_trans (mnL_le _ 3) (mxL_ge _ 3)) (by rw [if_pos (by omega)]; decide)
    rw [if_neg g4]
    by_cases g5 : t.op = 5
    · rw [if_pos g5]; exact tr_ok (fun z => decide_eq_true (by have := of_decide_eq_true z; omega)) _
    rw [if_neg g5]
    by_cases g6 : t.op = 6
    · rw [if_pos g6]
      refine tr_ok (fun z => ?_) _
      simp only [Bool.and_eq_true, beq_iff_eq, decide_eq_true_eq] at z ⊢
      omega
    rw [if_neg g6]
    rw [if_neg (by omega)] at fa fb
    obtain ⟨ta, tb⟩ := fa.t rfl
    obtain ⟨ua, ub⟩ := fb.t rfl
    obtain ⟨x1, x2⟩ := x
    obtain ⟨y1, y2⟩ := y
    dsimp only at *
    by_cases g7 : t.op = 7
    · rw [if_pos g7]; exact ⟨by dsimp only; omega, by dsimp only; omega, by dsimp only; omega, fun _ => ⟨by dsimp only; omega, by dsimp only; omega⟩⟩
    rw [if_neg g7]
    clear fa fb fal fah fbl fbh h7 hk
    have : t.op = 8 ∨ t.op = 9 := by omega
    rcases this with g | g <;> rw [g] <;> rcases ta with rfl | rfl <;> rcases tb with rfl | rfl <;> rcases ua with rfl | rfl <;> rcases ub with rfl | rfl <;>
      first | exact absurd fam (by decide) | exact absurd fbm (by decide) | exact ⟨by decide, by decide, by decide, fun _ => by decide⟩
theorem ens_fit {l : List Tm} {lo hi : List Int} (hs : EndsOk lo hi) : ∀ {k : Nat} {ks : List Int}, kindsTo l lo.length k = some ks → FitE ks (ensTo l lo hi k)
  | 0, ks, h => by simp [kindsTo] at h; subst h; exact FitE.nil
  | k + 1, ks, h => by
    simp only [kindsTo] at h
    cases hk : kindsTo l lo.length k with
    | none => rw [hk] at h; cases h
    | some ks' =>
      rw [hk] at h
      dsimp only at h
      split at h
      · cases h
      · rename_i hn
        injection h with h; subst h
        have ih := ens_fit hs hk
        exact ih.snoc (enOf_fit hn ih hs)

/-- The ends of an expression, and whether there are any. -/
def rgOk (l : List Tm) (lo hi : List Int) : Bool := endsB lo hi && validB l lo.length
def rgB (l : List Tm) (lo hi : List Int) : En := if rgOk l lo hi then ex (ensTo l lo hi l.length) (l.length - 1) else ⟨0, 0⟩
def rgLo (l : List Tm) (lo hi : List Int) : Int := (rgB l lo hi).lo
def rgHi (l : List Tm) (lo hi : List Int) : Int := (rgB l lo hi).hi
end Go.Proofs.Ythlkbkomecnbaaa
