/- Lists of lists of numbers that a call owns: marked, and found again; runs: the exact laws' helpers for results. -/
import Derived.Test.YtmlhnnkdecabpaaSS
import Derived.Test.YtmlhnnkdecabpaaOwnW
import Derived.Test.YtmlhnnkdecabpaaSysB
namespace Go.Proofs.Ytmlhnnkdecabpaa
open Go.RowKit

/-- What marking leaves. -/
def seqII (q : Int) (L : List (List Int)) : List (List Int) := (List.range L.length).map fun k => seqFrom (q + sumTo (fun i => (el L i).length) k) (el L k).length
theorem seqII_len (q : Int) (L : List (List Int)) : (seqII q L).length = L.length := by simp [seqII]
theorem seqII_at (q : Int) {L : List (List Int)} {k : Nat} (h : k < L.length) : el (seqII q L) k = seqFrom (q + sumTo (fun i => (el L i).length) k) (el L k).length := by
  rw [el_lt (by rw [seqII_len]; exact h)]; simp [seqII]

theorem row_far {w w' : World} {base size n c g : Nat} {t : TypeId} {xs : List Value} {fq : List Nat} (h : w.ownsRow base t size (.slice (some ⟨g, 0, none⟩) n c) n xs) (ho : Only fq w w') (hd : g ∉ fq) : w'.ownsRow base t size (.slice (some ⟨g, 0, none⟩) n c) n xs := by
  refine ⟨h.1, ?_⟩
  rcases h.2 with h0 | ⟨g', cap, cur, hv, hb, hg, r⟩
  · exact .inl h0
  · injection hv with h1 _ h3
    injection h1 with h1
    injection h1 with h1 _ _
    subst h1; subst h3
    exact .inr ⟨g, c, cur, rfl, hb, (ho.block g (Array.getElem?_eq_some_iff.1 hg).1 hd).trans hg, r⟩

theorem tr_box {w : World} {v1 v2 : Value} : ∀ W, Below (w.alloc (.cells #[v1, v2] 48)).heap.size (w.alloc (.cells #[v1, v2] 48)) W →
    Below w.heap.size w W ∧ W.cell? ⟨w.heap.size, 0, none⟩ = some v1 ∧ W.cell? ⟨w.heap.size, 1, none⟩ = some v2 :=
  fun W hW => ⟨below_call hW, ((Blk.new w _ _).below hW (by simp)).cell 0, ((Blk.new w _ _).below hW (by simp)).cell 1⟩
theorem tr_box2 {w : World} {v1 v2 u1 u2 : Value} : ∀ W, Below ((w.alloc (.cells #[v1, v2] 48)).alloc (.cells #[u1, u2] 48)).heap.size ((w.alloc (.cells #[v1, v2] 48)).alloc (.cells #[u1, u2] 48)) W →
    Below w.heap.size w W ∧ W.cell? ⟨w.heap.size, 0, none⟩ = some v1 ∧ W.cell? ⟨w.heap.size, 1, none⟩ = some v2 ∧ W.cell? ⟨w.heap.size + 1, 0, none⟩ = some u1 ∧ W.cell? ⟨w.heap.size + 1, 1, none⟩ = some u2 := fun W hW => by
  have k1 := tr_box (v1 := v1) (v2 := v2) W (below_call hW)
  have k2 := (Blk.new (w.alloc (.cells #[v1, v2] 48)) #[u1, u2] 48).below hW (by simp)
  rw [World.size_alloc] at k2
  exact ⟨k1.1, k1.2.1, k1.2.2, k2.cell 0, k2.cell 1⟩

set_option maxHeartbeats 1000000 in
theorem eqTrace_same (L : List (List Int)) (l : List Int) (A1 : Option Addr) (n1 c1 : Nat) (A2 : Option Addr) (n2 c2 : Nat) (A3 : Option Addr) (n3 c3 : Nat) (A4 : Option Addr) (n4 c4 : Nat) (w : World) (h1 : Mem.rd w w.heap.size [.slice A1 n1 c1] L) (h2 : Mem.rd w w.heap.size [.slice A2 n2 c2] l)
    (h3 : Mem.rd w w.heap.size [.slice A3 n3 c3] L) (h4 : Mem.rd w w.heap.size [.slice A4 n4 c4] l) (hs : ∀ k, k < L.length → (el L k).length ≤ 1048576) :
    Calls Try.prog 24 #[.agg #[.slice A1 n1 c1, .slice A2 n2 c2], .agg #[.slice A3 n3 c3, .slice A4 n4 c4]] w (GivesBool w true) := by
  have BX := Lib.hid (tr_box2 (w := w) (v1 := .slice A1 n1 c1) (v2 := .slice A2 n2 c2) (u1 := .slice A3 n3 c3) (u2 := .slice A4 n4 c4))
  have HS := Lib.hid hs
  clear hs
  go_enter Try.func24, Try.ntmps24
  go_wp2_with fail
  refine (eqIntSS_same A1 A3 n1 c1 n3 c3 L _ (Mem.rd_on_alloc (Mem.rd_on_alloc h1 _) _) (Mem.rd_on_alloc (Mem.rd_on_alloc h3 _) _) HS.out).mono ?_
  rintro e w2 ⟨rfl, b2⟩
  obtain ⟨B2, x0, x1, x2, x3⟩ := BX.out _ b2
  go_wp2_with fail
  refine (eqIntS_M A2 A4 n2 c2 n4 c4 l _ (Mem.rd_on h2 B2) (Mem.rd_on h4 B2)).mono ?_
  rintro e w3 ⟨rfl, b3⟩
  go_wp2
  go_ret
  exact ⟨rfl, B2.trans (b3.mono B2.size)⟩

end Go.Proofs.Ytmlhnnkdecabpaa
