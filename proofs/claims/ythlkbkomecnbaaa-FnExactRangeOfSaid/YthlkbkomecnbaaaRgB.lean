/- The ends of any term, in the program. -/
import Derived.Test.YthlkbkomecnbaaaRgF2
import Derived.Test.YthlkbkomecnbaaaRgF3
import Derived.Test.YthlkbkomecnbaaaRgG
import Derived.Test.YthlkbkomecnbaaaRgF5
import Derived.Test.YthlkbkomecnbaaaRgF7
import Derived.Test.YthlkbkomecnbaaaRgF8
import Derived.Test.YthlkbkomecnbaaaRgF9
namespace Go.Proofs.Ythlkbkomecnbaaa
open Go.RowKit
set_option maxRecDepth 100000

set_option maxHeartbeats 4000000 in
theorem endsOf_any (t : Tm) (A : Option Addr) (n c : Nat) (A2 : Option Addr) (n2 c2 : Nat) (A3 : Option Addr) (n3 c3 : Nat) (E : List En) (ks lo hi : List Int) (w : World) (h : Rd w w.heap.size 2 A n (ens E)) (h2 : Rd w w.heap.size 1 A2 n2 (ints lo)) (h3 : Rd w w.heap.size 1 A3 n3 (ints hi))
    (hk : kind t ks lo.length ≠ 0) (hf : FitE ks E) (hs : EndsOk lo hi) :
    Calls Try.prog 87 #[t.v, .slice A n c, .slice A2 n2 c2, .slice A3 n3 c3] w (GivesV w (enOf t E lo hi).v) := by
  have hl := h.elen
  have hl2 := h2.len
  have hl3 := h3.len
  have hle := hs.len
  have hks := hf.1
  rcases kind_inv hk with ⟨e, h1', h2', _⟩ | ⟨e, g1, g2, _⟩ | ⟨e1, e2, ⟨a0, a1, ak⟩, ⟨b0, b1, bk⟩, h7, _⟩
  · obtain ⟨op, tn, a, b⟩ := t
    dsimp only at e h1' h2'
    subst e
    rw [show enOf ⟨0, tn, a, b⟩ E lo hi = ⟨tn, tn⟩ from rfl]
    unfold Tm.v En.v
    clear hl hl2 hl3 hle hks hf hk h h2 h3 hs
    go_enter Try.func87, Try.ntmps87
    go_wp2
    exact bodyPost_ret (v := .agg #[.int .i64 tn, .int .i64 tn]) (by simp [results, Try.results87, go_sem]) rfl ⟨rfl, (below_alloc _ _).alloc (by simp) _⟩
  · obtain ⟨op, tn, a, b⟩ := t
    dsimp only at e g1 g2
    subst e
    obtain ⟨q, rfl⟩ := Int.eq_ofNat_of_zero_le g1
    rw [show enOf ⟨1, q, a, b⟩ E lo hi = ⟨ix lo q, ix hi q⟩ from rfl]
    unfold Tm.v En.v
    dsimp only
    obtain ⟨ad, rfl, hb, hc⟩ := h2.int (k := q) (by omega)
    obtain ⟨ad', rfl, hb', hc'⟩ := h3.int (k := q) (by omega)
    have hc := al2 (by rw [add_block]; exact hb) hc
    have hc' := al2 (by rw [add_block]; exact hb') hc'
    have hq : (q : Int) < n2 := by omega
    have hq' : (q : Int) < n3 := by omega
    generalize ix lo q = x at *
    generalize ix hi q = y at *
    clear hl hl2 hl3 hle hks hf hk h h2 h3 hs g2
    go_enter Try.func87, Try.ntmps87
    go_wp2
    go_region
    all_goals
      go_wp2
      refine bodyPost_ret (v := .agg #[.int .i64 x, .int .i64 y]) (by simp [results, Try.results87, go_sem]) rfl ⟨rfl, ?_⟩
      first | exact (below_alloc _ _).alloc (by simp) _ | exact ((below_alloc _ _).alloc (by simp) _).drew | exact below_drewN ((below_alloc _ _).alloc (by simp) _) _
  · obtain ⟨op, tn, a, b⟩ := t
    dsimp only at e1 e2 a0 a1 ak b0 b1 bk h7
    obtain ⟨p, rfl⟩ := Int.eq_ofNat_of_zero_le a0
    obtain ⟨q, rfl⟩ := Int.eq_ofNat_of_zero_le b0
    rw [Int.toNat_natCast] at ak bk
    have fa := hf.2 p (by omega)
    have fb := hf.2 q (by omega)
    rw [ak] at fa
    rw [bk] at fb
    have e : enOf ⟨op, tn, p, q⟩ E lo hi = doEn op (ex E p) (ex E q) := by unfold enOf; dsimp only; rw [if_neg (by omega), if_neg (by omega)]; rfl
    rw [e]
    unfold Tm.v
    obtain ⟨ad, rfl, hb, c1, c2'⟩ := h.en (k := p) (by omega)
    obtain ⟨ad', ea, _, c3', c4⟩ := h.en (k := q) (by omega)
    injection ea with ea; subst ea
    have E1 : ∀ m, (⟨(ad.add (m * 2)).block, (ad.add (m * 2)).off + 1, none⟩ : Addr) = ad.add (m * 2 + 1) := fun m => by rw [← add_add', add_pos (ad.add (m * 2)) (j := 1) (by decide)]
    rw [← E1 p] at c2'
    rw [← E1 q] at c4
    have hp : p < n := by omega
    have hq : q < n := by omega
    have bx : -9999 ≤ (ex E p).lo ∧ (ex E p).lo ≤ 9999 ∧ -9999 ≤ (ex E p).hi ∧ (ex E p).hi ≤ 9999 ∧ (ex E p).lo ≤ (ex E p).hi := ⟨fa.l, Int.le_trans fa.m fa.h, Int.le_trans fa.l fa.m, fa.h, fa.m⟩
    have bY : -9999 ≤ (ex E q).lo ∧ (ex E q).lo ≤ 9999 ∧ -9999 ≤ (ex E q).hi ∧ (ex E q).hi ≤ 9999 ∧ (ex E q).lo ≤ (ex E q).hi := ⟨fb.l, Int.le_trans fb.m fb.h, Int.le_trans fb.l fb.m, fb.h, fb.m⟩
    have w2 : op = 8 ∨ op = 9 → want op = 2 := fun z => by unfold want; rw [if_neg (by rcases z with z | z <;> omega)]
    obtain rfl | rfl | rfl | rfl | rfl | rfl | rfl | rfl : op = 2 ∨ op = 3 ∨ op = 4 ∨ op = 5 ∨ op = 6 ∨ op = 7 ∨ op = 8 ∨ op = 9 := by omega
    · exact endsOf_2 A2 A3 ad n c n2 c2 n3 c3 p q tn _ _ _ _ w hb c1 c2' c3' c4 hp hq bx bY
    · exact endsOf_3 A2 A3 ad n c n2 c2 n3 c3 p q tn _ _ _ _ w hb c1 c2' c3' c4 hp hq bx bY
    · exact endsOf_4 A2 A3 ad n c n2 c2 n3 c3 p q tn _ _ _ _ w hb c1 c2' c3' c4 hp hq bx bY
    · exact endsOf_5 A2 A3 ad n c n2 c2 n3 c3 p q tn _ _ _ _ w hb c1 c2' c3' c4 hp hq bx bY
    · exact endsOf_6 A2 A3 ad n c n2 c2 n3 c3 p q tn _ _ _ _ w hb c1 c2' c3' c4 hp hq bx bY
    · exact endsOf_7 A2 A3 ad n c n2 c2 n3 c3 p q tn _ _ _ _ w hb c1 c2' c3' c4 hp hq bx bY
    · exact endsOf_8 A2 A3 ad n c n2 c2 n3 c3 p q tn _ _ _ _ w hb c1 c2' c3' c4 hp hq bx bY (fa.t (w2 (.inl rfl))).1 (fa.t (w2 (.inl rfl))).2 (fb.t (w2 (.inl rfl))).1 (fb.t (w2 (.inl rfl))).2
    · exact endsOf_9 A2 A3 ad n c n2 c2 n3 c3 p q tn _ _ _ _ w hb c1 c2' c3' c4 hp hq bx bY (fa.t (w2 (.inr rfl))).1 (fa.t (w2 (.inr rfl))).2 (fb.t (w2 (.inr rfl))).1 (fb.t (w2 (.inr rfl))).2
end Go.Proofs.Ythlkbkomecnbaaa
