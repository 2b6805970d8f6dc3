/- Replay of the model. -/
import Derived.Test.YtdecjkfokilgoaaRep
import Derived.Test.YtdecjkfokilgoaaIl
import Derived.Deep.RegionHeld3
import Derived.Deep.RegionLaw
import Derived.Deep.AppendLies
namespace Go.Proofs.Ytdecjkfokilgoaa
open Go.RowKit

/-- The boxes of 'Replay': a system, a run that is nil. -/
def repW (w : World) (v1 v2 : Value) : World := (w.alloc (.cells #[v1, v2] 44)).alloc (.cells #[.slice none 0 0, .slice none 0 0] 38)
theorem repW_size (w : World) (v1 v2 : Value) : (repW w v1 v2).heap.size = w.heap.size + 2 := by unfold repW; simp
theorem rep_b {w : World} {v1 v2 : Value} {W : World} (h : Below (repW w v1 v2).heap.size (repW w v1 v2) W) : Below (w.heap.size + 2) (repW w v1 v2) W := by rw [repW_size] at h; exact h
theorem repW_below (w : World) (v1 v2 : Value) : Below w.heap.size w (repW w v1 v2) := ((Below.refl w.heap.size w).alloc (Nat.le_refl _) _).alloc (by simp) _
theorem repW_box {w : World} {v1 v2 : Value} {W : World} (hW : Below (w.heap.size + 2) (repW w v1 v2) W) :
    Below w.heap.size w W ∧ (W.cell? ⟨w.heap.size, 0, none⟩ = some v1 ∧ W.cell? ⟨w.heap.size, 1, none⟩ = some v2) ∧ Blk W (w.heap.size + 1) 38 [.slice none 0 0, .slice none 0 0] ∧ w.heap.size + 2 ≤ W.heap.size := by
  have hs : w.heap.size + 2 ≤ W.heap.size := by have := hW.size; rw [repW_size] at this; exact this
  have k0 : Blk (repW w v1 v2) w.heap.size 44 [v1, v2] := (Blk.new w _ _).alloc _
  have k1 : Blk (repW w v1 v2) (w.heap.size + 1) 38 [.slice none 0 0, .slice none 0 0] := by
    have := Blk.new (w.alloc (.cells #[v1, v2] 44)) #[.slice none 0 0, .slice none 0 0] 38
    rw [World.size_alloc] at this
    exact this
  have j0 := k0.below hW (by omega)
  exact ⟨(repW_below w v1 v2).trans (hW.mono (by omega)), ⟨j0.cell 0, j0.cell 1⟩, k1.below hW (by omega), hs⟩
theorem set_only (W : World) (g o : Nat) (u : Value) : Only [g] W (W.setCell ⟨g, o, none⟩ u) :=
  ⟨rfl, rfl, rfl, by simp [World.setCell], fun k _ hk => setCell_heap W ⟨g, o, none⟩ u (fun e => hk (by simp [e]))⟩
theorem own_none2 (w : World) : Mem.own w [] [.slice none 0 0] ([] : List (List Int)) := ⟨none, 0, 0, rfl, Nat.zero_le _, rfl, .inl ⟨rfl, rfl⟩⟩
theorem inS_one : Try.prog.info? 25 = some inSRow ∧ inSRow.zero = some (.slice none 0 0) ∧ inSRow.size = 1 ∧ inSRow.bytes = 24 := inS_row

theorem drew_below (W : World) (n : Nat) : Below W.heap.size W (W.drewN n) := ⟨rfl, rfl, rfl, Nat.le_refl _, fun _ _ => rfl⟩
theorem LL.nd {w : World} {base k : Nat} {e : TypeId} {v : Value} {L : List (List Int)} {fp : List Nat} (h : LL w base e v k L fp) : fp.Nodup := h.2.1
/-- A row of one slice, as it stands in the text. -/
theorem LL.one {W : World} {base n c : Nat} {e : TypeId} {A : Option Addr} {l : List Int} {fq : List Nat} (o : Mem.own W fq [.slice A n c] l) (nq : fq.Nodup) (lo : ∀ b ∈ fq, base ≤ b) (hb : base ≤ W.heap.size) :
    LL (W.alloc (.cells #[.slice A n c] e)) base e (.slice (some ⟨W.heap.size, 0, none⟩) 1 1) 1 [l] (W.heap.size :: fq) := by
  have ho := World.ownsRow_lit (base := base) (e := e) (size := 1) W #[.slice A n c] 1 hb (by unfold maxLen; omega) rfl
  have hlt := Mem.own_lt o
  refine ⟨rfl, List.nodup_cons.2 ⟨fun hm => by have := hlt _ hm; omega, nq⟩, fun _ => [.slice A n c], fun _ => fq, by simpa [cat] using ho, fun i hi => ?_, by simp [cat, bl, Value.ownBlock], fun b hm => ?_⟩
  · obtain rfl : i = 0 := by omega
    exact Mem.own_below o (below_alloc W _)
  · rcases List.mem_cons.1 hm with rfl | hm
    · exact hb
    · exact lo b hm
/-- What Replay hands out. -/
theorem rep_fin {w W : World} {e e' : TypeId} {vS vR a b : Value} {k k' : Nat} {L : List (List Int)} {l : List Int} {fS fR : List Nat} {z : Int} (hb : Below w.heap.size w W) (h : LL W (w.heap.size + 2) e vS k L fS) (h' : IL W (w.heap.size + 2) e' vR k' l fR) (hk : k ≤ maxLen) (hk' : k' ≤ maxLen) (hd : ∀ b ∈ fS, b ∉ fR) :
    GivesTrI w L l z (.returned (.tuple #[.agg #[vS, vR], .int .i64 z])) ((W.setCell ⟨w.heap.size + 1, 0, none⟩ a).setCell ⟨w.heap.size + 1, 1, none⟩ b) := by
  have lS := h.lt
  have lR := h'.lt
  have o2 := (set_only W (w.heap.size + 1) 0 a).trans (set_only _ (w.heap.size + 1) 1 b)
  have h2 := (h.only o2 fun b hm hm2 => by have := (lS b hm).1; simp at hm2; omega).out hk
  obtain ⟨h3, nR⟩ := (h'.only o2 fun b hm hm2 => by have := (lR b hm).1; simp at hm2; omega).out hk'
  obtain ⟨A, c, rfl⟩ := row_slice h.2.2.choose_spec.choose_spec.1
  obtain ⟨A', c', rfl⟩ := row_slice h'.1
  refine ⟨A, _, c, A', _, c', fS, fR, rfl, h2, h3, List.nodup_append.2 ⟨h.nd, nR, fun x hx y hy e => by subst e; exact hd x hx hy⟩, fun x hx => ?_, (hb.setCell (by show w.heap.size ≤ w.heap.size + 1; omega) _).setCell (by show w.heap.size ≤ w.heap.size + 1; omega) _⟩
  rcases List.mem_append.1 hx with hx | hx
  · have := (lS x hx).1; omega
  · have := (lR x hx).1; omega

end Go.Proofs.Ytdecjkfokilgoaa
