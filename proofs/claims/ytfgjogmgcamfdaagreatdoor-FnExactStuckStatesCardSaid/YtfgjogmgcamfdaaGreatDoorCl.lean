/- Whether a set is closed. -/
import Derived.Test.YtfgjogmgcamfdaaGreatDoorNnI
import Derived.Test.YtfgjogmgcamfdaaGreatDoorSet
namespace Go.Proofs.YtfgjogmgcamfdaaGreatDoor
open Go.RowKit

theorem empty_iff {R : Nat → Bool} : emptyB R = true ↔ ∀ x, x < 448 → R x = false := by
  have hw : emptyB R = true ↔ ∀ i, i < 7 → wd R i = 0 := by
    unfold emptyB
    simp only [Bool.and_eq_true, beq_iff_eq]
    constructor
    · rintro ⟨a, b, c, d, e, f, g⟩ i hi
      match i, hi with
      | 0, _ => exact a
      | 1, _ => exact b
      | 2, _ => exact c
      | 3, _ => exact d
      | 4, _ => exact e
      | 5, _ => exact f
      | 6, _ => exact g
    · intro h
      exact ⟨h 0 (by omega), h 1 (by omega), h 2 (by omega), h 3 (by omega), h 4 (by omega), h 5 (by omega), h 6 (by omega)⟩
  rw [hw]
  constructor
  · intro h x hx
    have := wd_zero (h (x / 64) (by omega)) (j := x % 64) (Nat.mod_lt _ (by omega))
    rwa [show 64 * (x / 64) + x % 64 = x by omega] at this
  · intro h i hi
    rw [← wd_none i]
    exact wd_congr fun j hj => h _ (by omega)
/-- Whether a state comes ahead of one of a list. -/
def paP (s : Sy) (l : List Int) : Nat → Bool := fun n => !emptyB (gBoth (nxP s (stL s.vars n) s.rules.length) (memP l))
theorem pa_ahe {s : Sy} {l : List Int} {z n : Nat} (h : setB s l = true) (hz : (z : Int) = sizeB s) (hz4 : z ≤ 400) : paP s l n = aheP s (memP l) z n := by
  unfold setB at h
  rw [Bool.and_eq_true] at h
  have ok := sysOk_of h.1
  apply bool_iff
  unfold paP aheP
  rw [some_iff]
  cases q : emptyB (gBoth (nxP s (stL s.vars n) s.rules.length) (memP l))
  · simp only [Bool.not_false, true_iff]
    by_cases hex : ∃ x, x < 448 ∧ gBoth (nxP s (stL s.vars n) s.rules.length) (memP l) x = true
    · obtain ⟨x, _, hx⟩ := hex
      unfold gBoth at hx
      rw [Bool.and_eq_true] at hx
      have := nxP_lt ok hx.1
      exact ⟨x, by omega, by rw [hx.1, hx.2]; rfl⟩
    · have : emptyB (gBoth (nxP s (stL s.vars n) s.rules.length) (memP l)) = true := empty_iff.2 fun x hx => by
        cases hg : gBoth (nxP s (stL s.vars n) s.rules.length) (memP l) x
        · rfl
        · exact absurd ⟨x, hx, hg⟩ hex
      rw [q] at this; cases this
  · simp only [Bool.not_true, Bool.false_eq_true, false_iff]
    rintro ⟨x, hx, hx2⟩
    rw [Bool.and_eq_true] at hx2
    have := empty_iff.1 q x (by omega)
    unfold gBoth at this
    rw [hx2.1, hx2.2] at this
    cases this

end Go.Proofs.YtfgjogmgcamfdaaGreatDoor
namespace Go.Proofs.YtfgjogmgcamfdaaGreatDoor
open Go.RowKit

def firstN (s : Sy) : Nat := (numL s (firsts s.vars)).toNat
theorem firstN_eq {s : Sy} (ok : SysOk s) : numL s (firsts s.vars) = firstN s ∧ (firstN s : Int) < sizeB s := by
  have := num_lt ok (firsts_has ok)
  unfold firstN
  omega
def oneP (n : Nat) : Nat → Bool := addP (fun _ => false) n
theorem oneP_iff {n x : Nat} : oneP n x = true ↔ x = n := by unfold oneP addP; simp
theorem wsV_zero : wsV (fun _ => false) = .agg #[.int .u64 0, .int .u64 0, .int .u64 0, .int .u64 0, .int .u64 0, .int .u64 0, .int .u64 0] := by
  unfold wsV
  rw [wd_none, wd_none, wd_none, wd_none, wd_none, wd_none, wd_none]; rfl

/-- The boxes of a system and of a set. -/
def whV (w : World) (a b : Value) (cs : Array Value) : World := (w.alloc (.cells #[a, b] 32)).alloc (.cells cs 61)
theorem whV_size (w : World) (a b : Value) (cs : Array Value) : (whV w a b cs).heap.size = w.heap.size + 2 := by unfold whV; simp
theorem whV_b {w : World} {a b : Value} {cs : Array Value} {W : World} (h : Below (whV w a b cs).heap.size (whV w a b cs) W) : Below (w.heap.size + 2) (whV w a b cs) W := by
  rw [whV_size] at h; exact h
theorem whV_d {w : World} {a b : Value} {cs : Array Value} {W : World} (h : Below (whV w a b cs).drew.heap.size (whV w a b cs).drew W) : Below (w.heap.size + 2) (whV w a b cs) W :=
  whV_b ⟨h.os, h.tape, h.output, h.size, h.block⟩
theorem whV_box {w : World} {a b : Value} {cs : Array Value} {W : World} (hW : Below (w.heap.size + 2) (whV w a b cs) W) :
    Below w.heap.size w W ∧ (W.cell? ⟨w.heap.size, 0, none⟩ = some a ∧ W.cell? ⟨w.heap.size, 1, none⟩ = some b) ∧ Blk W (w.heap.size + 1) 61 cs.toList ∧ w.heap.size + 2 ≤ W.heap.size := by
  have hs := hW.size
  rw [whV_size] at hs
  have k0 : Blk (whV w a b cs) w.heap.size 32 [a, b] := (Blk.new w _ _).alloc _
  have k2 : Blk (whV w a b cs) (w.heap.size + 1) 61 cs.toList := by
    have := Blk.new (w.alloc (.cells #[a, b] 32)) cs 61
    rw [World.size_alloc] at this
    exact this
  have j0 := k0.below hW (by omega)
  exact ⟨(((Below.refl w.heap.size w).alloc (Nat.le_refl _) _).alloc (by simp) _).trans (hW.mono (by omega)), ⟨j0.cell 0, j0.cell 1⟩, k2.below hW (by omega), by omega⟩

set_option maxRecDepth 100000 in
set_option maxHeartbeats 4000000 in
theorem firstAlone_any (s : Sy) (A1 : Option Addr) (n1 c1 : Nat) (A2 : Option Addr) (n2 c2 : Nat) (w : World) (h1 : Mem.rd w w.heap.size [.slice A1 n1 c1] s.vars) (h2 : Mem.rd w w.heap.size [.slice A2 n2 c2] s.rules)
    (hz : sysB s = true) : Calls Tryz.prog 69 #[.agg #[.slice A1 n1 c1, .slice A2 n2 c2]] w (GivesV w (wsV (oneP (firstN s)))) := by
  have ok := sysOk_of hz
  have FC := Lib.hid (fun W (B : Below w.heap.size w W) => first_impl s A1 n1 c1 A2 n2 c2 W (Mem.rd_on h1 B) (Mem.rd_on h2 B))
  have hFB : firstB s = firsts s.vars := by unfold firstB; rw [hz]; rfl
  rw [hFB] at FC
  have FL : Hid ((firsts s.vars).length = n1) := Lib.hid ((firsts_len _).trans (rd_len h1))
  have H5 := Lib.hid (show 1 ≤ n1 ∧ n1 ≤ 5 by have := rd_len h1; have := ok.lo; have := ok.hi; omega)
  have NC := Lib.hid (fun W A n c (B : Below w.heap.size w W) (h : Mem.rd W W.heap.size [.slice A n c] (firsts s.vars)) => number_any s (firsts s.vars) A1 n1 c1 A2 n2 c2 A n c W (Mem.rd_on h1 B) h ok (firsts_has ok))
  rw [(firstN_eq ok).1] at NC
  have WC := Lib.hid (fun W => with_any (fun _ => false) (firstN s) (by have := firstN_eq ok; have := sizeB_bd hz; omega) W)
  rw [wsV_zero] at WC
  change Hid (∀ W, Calls _ _ _ W (GivesV W (wsV (oneP (firstN s))))) at WC
  generalize oneP (firstN s) = Q at *
  generalize firstN s = N at *
  generalize firsts s.vars = fs at *
  clear hz hFB ok
  have BX := Lib.hid (fun W hW => whV_box (w := w) (a := .slice A1 n1 c1) (b := .slice A2 n2 c2) (cs := #[.int .u64 0, .int .u64 0, .int .u64 0, .int .u64 0, .int .u64 0, .int .u64 0, .int .u64 0]) (W := W) hW)
  obtain ⟨B0, ⟨x0, x1⟩, kZ, lx⟩ := BX.out _ (Below.refl _ _)
  have FK := Lib.hid (FC.out (whV w (.slice A1 n1 c1) (.slice A2 n2 c2) #[.int .u64 0, .int .u64 0, .int .u64 0, .int .u64 0, .int .u64 0, .int .u64 0, .int .u64 0]).drew ⟨B0.os, B0.tape, B0.output, B0.size, B0.block⟩)
  clear kZ lx B0
  unfold whV at x0 x1 FK
  unfold wsV at WC
  go_enter Tryz.func69, Tryz.ntmps69
  go_wp2
  go_region_law (first
    | (go_simp; go_at_call 104; refine (FK.out).mono ?_; rintro e w3 ⟨v3, rfl, o3, b3⟩
       rw [FL.out] at o3
       obtain ⟨A3, c3, rfl, _, _⟩ := own_form o3
       obtain ⟨f3, om3, _, _⟩ := mem_ints (l := fs) (by rw [FL.out]; exact o3) (by rw [FL.out]; have := H5.out; unfold maxLen; omega)
       rw [FL.out] at om3
       have b3 := whV_d (w := w) (a := .slice A1 n1 c1) (b := .slice A2 n2 c2) b3
       obtain ⟨B3, ⟨y0, y1⟩, kZ3, lx3⟩ := BX.out _ b3
       have NK := Lib.hid (NC.out w3 A3 n1 c3 B3 (Mem.own_rd om3))
       clear kZ3 om3 o3)
    | (go_simp; go_at_call 103; refine (NK.out).mono ?_; rintro e w4 ⟨rfl, b4⟩
       have b34 := b3.trans (b4.mono lx3)
       have lx4 := Nat.le_trans lx3 b4.size)
    | (go_simp; go_at_call 70; refine (WC.out _).mono ?_; rintro e w5 ⟨rfl, b5⟩
       obtain ⟨B5, ⟨z0, z1⟩, kZ5, lx5⟩ := BX.out _ (b34.trans (b5.mono lx4))
       obtain ⟨q0, q1, q2, q3, q4, q5, q6⟩ := seven_cells kZ5
       obtain ⟨f0, f1, f2, f3, f4, f5, f6⟩ := seven_frozen kZ5
       have HB5 := Lib.hid B5
       clear kZ5))
  all_goals
    go_wp2_with fail
    refine bodyPost_ret (v := wsV Q) (by simp [results, Tryz.results69, go_sem, q0, q1, q2, q3, q4, q5, q6, wsV]) rfl ⟨rfl, ?_⟩
    exact ((((((HB5.out.setCell (by show w.heap.size ≤ w.heap.size + 1; omega) _).setCell (by show w.heap.size ≤ w.heap.size + 1; omega) _).setCell (by show w.heap.size ≤ w.heap.size + 1; omega) _).setCell (by show w.heap.size ≤ w.heap.size + 1; omega) _).setCell (by show w.heap.size ≤ w.heap.size + 1; omega) _).setCell (by show w.heap.size ≤ w.heap.size + 1; omega) _).setCell (by show w.heap.size ≤ w.heap.size + 1; omega) _
end Go.Proofs.YtfgjogmgcamfdaaGreatDoor
namespace Go.Proofs.YtfgjogmgcamfdaaGreatDoor
open Go.RowKit

theorem has_no {l : List Int} {v : Int} (h : ∀ j, j < l.length → ix l j ≠ v) : decide (v ∈ l) = false := decide_eq_false fun hm => by
  obtain ⟨j, hj, e⟩ := List.getElem_of_mem hm
  exact h j hj (by rw [ix_lt hj]; exact e)
theorem has_yes {l : List Int} {v : Int} {j : Nat} (hj : j < l.length) (h : ix l j = v) : decide (v ∈ l) = true := decide_eq_true (by rw [← h, ix_lt hj]; exact List.getElem_mem hj)

set_option maxHeartbeats 1000000 in
theorem l2Has_any (A : Option Addr) (n c : Nat) (l : List Int) (v : Int) (w : World) (h : Rd w w.heap.size 1 A n (ints l)) (hn : n ≤ 1048576) :
    Calls Tryz.prog 92 #[.slice A n c, .int .i64 v] w (fun e w' => e = .returned (.bool (decide (v ∈ l))) ∧ w = w') := by
  have hl := h.len
  have HN := Lib.hid (fun (q : ∀ j, j < n → ix l j ≠ v) => has_no (l := l) (v := v) fun j hj => q j (by omega))
  have HY := Lib.hid (fun j (hj : j < n) (e : ix l j = v) => has_yes (l := l) (v := v) (by omega : j < l.length) e)
  obtain ⟨b, hb⟩ : ∃ b, b = decide (v ∈ l) := ⟨_, rfl⟩
  rw [← hb] at HN HY ⊢
  clear hl hb
  go_enter Tryz.func92, Tryz.ntmps92
  go_wp2
  go_loopg [5] n (fun m i wr => ∃ k : Nat, k + m = n ∧ i = .int .i64 k ∧ Hid (∀ j, j < k → ix l j ≠ v) ∧ wr = w)
  case atStart => exact ⟨0, by omega, rfl, Lib.hid (fun j hj => absurd hj (by omega)), rfl⟩
  case round =>
    obtain ⟨k, hk, rfl, hj, rfl⟩ := hrel
    by_cases hlt : k < n
    · obtain ⟨ad, rfl, hbl, d0⟩ := h.int hlt
      by_cases q : ix l k = v
      · have q' : (ix l k == v) = true := by simp [q]
        have HF := Lib.hid (HY.out k hlt q)
        go_wp2
        go_ret
        exact ⟨(congrArg (fun b => Ending.returned (.bool b)) HF.out).symm, rfl⟩
      · have q' : (ix l k == v) = false := by simp [q]
        have q'' : Hid (∀ j, j < k + 1 → ix l j ≠ v) := Lib.hid fun j hjk => by
          by_cases z : j < k
          · exact hj.out j z
          · obtain rfl : j = k := by omega
            exact q
        go_wp2
        go_roundg (n - (k + 1))
        case measure => omega
        case rel => exact ⟨k + 1, by omega, by go_num, q'', rfl⟩
    · obtain rfl : k = n := by omega
      have HF := Lib.hid (HN.out hj.out)
      go_wp2
      go_ret
      exact ⟨(congrArg (fun b => Ending.returned (.bool b)) HF.out).symm, rfl⟩
end Go.Proofs.YtfgjogmgcamfdaaGreatDoor
namespace Go.Proofs.YtfgjogmgcamfdaaGreatDoor
open Go.RowKit

theorem only_set (W : World) (g i : Nat) (u : Value) : Only [g] W (W.setCell ⟨g, i, none⟩ u) :=
  have b := (Below.refl 0 W).setCell (p := ⟨g, i, none⟩) (Nat.zero_le _) u
  ⟨b.os, b.tape, b.output, b.size, fun k _ hn => setCell_heap W _ u (by simpa using hn)⟩
theorem seven_below {B : Nat} {w W : World} {g : Nat} {P : Nat → Bool} (k : Below B w W) (hg : B ≤ g) : Below B w (((((((W.setCell ⟨g, 0, none⟩ (.int .u64 (wd P 0))).setCell ⟨g, 1, none⟩ (.int .u64 (wd P 1))).setCell ⟨g, 2, none⟩ (.int .u64 (wd P 2))).setCell ⟨g, 3, none⟩ (.int .u64 (wd P 3))).setCell ⟨g, 4, none⟩ (.int .u64 (wd P 4))).setCell ⟨g, 5, none⟩ (.int .u64 (wd P 5))).setCell ⟨g, 6, none⟩ (.int .u64 (wd P 6))) :=
  ((((((k.setCell hg _).setCell hg _).setCell hg _).setCell hg _).setCell hg _).setCell hg _).setCell hg _
theorem seven_only {W : World} {g : Nat} {P : Nat → Bool} : Only [g] W (((((((W.setCell ⟨g, 0, none⟩ (.int .u64 (wd P 0))).setCell ⟨g, 1, none⟩ (.int .u64 (wd P 1))).setCell ⟨g, 2, none⟩ (.int .u64 (wd P 2))).setCell ⟨g, 3, none⟩ (.int .u64 (wd P 3))).setCell ⟨g, 4, none⟩ (.int .u64 (wd P 4))).setCell ⟨g, 5, none⟩ (.int .u64 (wd P 5))).setCell ⟨g, 6, none⟩ (.int .u64 (wd P 6))) :=
  ((((((only_set _ g _ _).trans (only_set _ g _ _)).trans (only_set _ g _ _)).trans (only_set _ g _ _)).trans (only_set _ g _ _)).trans (only_set _ g _ _)).trans (only_set _ g _ _)
theorem seven_ws {W : World} {g : Nat} {t : TypeId} {P : Nat → Bool} {a b c d e f h : Value} (k : Blk W g t [a, b, c, d, e, f, h]) : Blk (((((((W.setCell ⟨g, 0, none⟩ (.int .u64 (wd P 0))).setCell ⟨g, 1, none⟩ (.int .u64 (wd P 1))).setCell ⟨g, 2, none⟩ (.int .u64 (wd P 2))).setCell ⟨g, 3, none⟩ (.int .u64 (wd P 3))).setCell ⟨g, 4, none⟩ (.int .u64 (wd P 4))).setCell ⟨g, 5, none⟩ (.int .u64 (wd P 5))).setCell ⟨g, 6, none⟩ (.int .u64 (wd P 6))) g t (wsC P) := seven_set k
/-- The first state and what comes behind the first k numbers of a list. -/
def unF (s : Sy) (l : List Int) (k : Nat) : Nat → Bool := fun x => oneP (firstN s) x || unP s l k x
theorem unF_zero (s : Sy) (l : List Int) : unF s l 0 = oneP (firstN s) := by funext x; show (_ || false) = _; rw [Bool.or_false]
theorem unF_succ (s : Sy) (l : List Int) (k : Nat) : gEither (unF s l k) (nxP s (stL s.vars (ix l k)) s.rules.length) = unF s l (k + 1) := by
  funext x
  show ((_ || _) || _) = (_ || (_ || _))
  rw [Bool.or_assoc]

set_option maxRecDepth 100000 in
set_option maxHeartbeats 8000000 in
theorem isClosed_any (s : Sy) (P : Nat → Bool) (l : List Int) (A1 : Option Addr) (n1 c1 : Nat) (A2 : Option Addr) (n2 c2 : Nat) (w : World) (h1 : Mem.rd w w.heap.size [.slice A1 n1 c1] s.vars) (h2 : Mem.rd w w.heap.size [.slice A2 n2 c2] s.rules)
    (hz : sysB s = true) (hl : l = pick P 448) (hr : ∀ k, k < l.length → 0 ≤ ix l k ∧ ix l k < sizeB s) (hT : DoorAt w) :
    Calls Tryz.prog 96 #[.agg #[.slice A1 n1 c1, .slice A2 n2 c2], wsV P] w (GivesBool w (emptyB (gWithout (unF s l l.length) P))) := by
  have ok := sysOk_of hz
  have hbd := sizeB_bd hz
  obtain ⟨n3, hn3⟩ : ∃ n3, n3 = l.length := ⟨_, rfl⟩
  have hl448 : n3 ≤ 448 := by rw [hn3, hl]; exact pick_len _ _
  rw [← hn3] at hr ⊢
  have HR := Lib.hid (fun k (hk : k < n3) => show 0 ≤ ix l k ∧ ix l k < 400 by have := hr k hk; omega)
  have FA := Lib.hid (fun W (B : Below w.heap.size w W) => firstAlone_any s A1 n1 c1 A2 n2 c2 W (Mem.rd_on h1 B) (Mem.rd_on h2 B) hz)
  rw [← unF_zero s l] at FA
  obtain ⟨Q0, hQ0⟩ : ∃ Q0, Q0 = unF s l 0 := ⟨_, rfl⟩
  rw [← hQ0] at FA
  have HQ0 := Lib.hid hQ0
  clear hQ0
  have SL := Lib.hid (fun W (B : Below w.heap.size w W) => setList_any P W (hT.on B))
  rw [← hl] at SL
  have NC := Lib.hid (fun k (hk : k < n3) (x : Nat) (hx : ix l k = x) W (B : Below w.heap.size w W) => show Calls Tryz.prog 98 #[.agg #[.slice A1 n1 c1, .slice A2 n2 c2], .int .i64 (x : Int)] W (GivesV W (wsV (nxP s (stL s.vars (ix l k)) s.rules.length))) from by
    rw [hx]
    exact next_any s x A1 n1 c1 A2 n2 c2 W (Mem.rd_on h1 B) (Mem.rd_on h2 B) ok (by have := hr k hk; omega))
  have HU := Lib.hid (fun k => unF_succ s l k)
  have WO := Lib.hid (fun W => without_any (unF s l n3) P W)
  change Hid (∀ W, Calls _ _ _ W (GivesV W (wsV (gWithout (unF s l n3) P)))) at WO
  have EC := Lib.hid (fun W => isEmpty_any (gWithout (unF s l n3) P) W)
  have BX := Lib.hid (fun W hW => whV_box (w := w) (a := .slice A1 n1 c1) (b := .slice A2 n2 c2) (cs := (wsC P).toArray) (W := W) hW)
  have B0 := (BX.out _ (Below.refl _ _)).1
  have FK := Lib.hid (FA.out (whV w (.slice A1 n1 c1) (.slice A2 n2 c2) (wsC P).toArray) B0)
  have NL := Lib.hid hn3.symm
  have L448 := Lib.hid hl448
  clear hz ok hbd hl hr hT B0 hn3
  have W0 : Hid (whV w (.slice A1 n1 c1) (.slice A2 n2 c2) (wsC P).toArray = (w.alloc (.cells #[.slice A1 n1 c1, .slice A2 n2 c2] 32)).alloc (.cells #[.int .u64 (wd P 0), .int .u64 (wd P 1), .int .u64 (wd P 2), .int .u64 (wd P 3), .int .u64 (wd P 4), .int .u64 (wd P 5), .int .u64 (wd P 6)] 61)) := Lib.hid rfl
  rw [W0.out] at FK
  have BW := Lib.hid (fun W => whV_b (w := w) (a := .slice A1 n1 c1) (b := .slice A2 n2 c2) (cs := (wsC P).toArray) (W := W))
  rw [W0.out] at BW BX
  generalize gWithout (unF s l n3) P = E at *
  unfold wsV at WO EC SL FK
  unfold wsV
  go_enter Tryz.func96, Tryz.ntmps96
  go_wp2_with fail
  refine (FK.out).mono ?_
  rintro e w2 ⟨rfl, b2⟩
  have b2 := BW.out _ b2
  have lx := (BX.out _ b2).2.2.2
  have M3 := Lib.hid (show Blk _ _ _ (wsC Q0) from Blk.new w2 #[.int .u64 (wd Q0 0), .int .u64 (wd Q0 1), .int .u64 (wd Q0 2), .int .u64 (wd Q0 3), .int .u64 (wd Q0 4), .int .u64 (wd Q0 5), .int .u64 (wd Q0 6)] 61)
  have b3 := b2.alloc lx (.cells #[.int .u64 (wd Q0 0), .int .u64 (wd Q0 1), .int .u64 (wd Q0 2), .int .u64 (wd Q0 3), .int .u64 (wd Q0 4), .int .u64 (wd Q0 5), .int .u64 (wd Q0 6)] 61)
  obtain ⟨B3, ⟨x0, x1⟩, kP, lx3⟩ := BX.out _ b3
  have kP := Lib.hid kP
  obtain ⟨p0, p1, p2, p3, p4, p5, p6⟩ := ws_cells (show Blk _ _ _ (wsC P) from kP.out)
  have HB3 := Lib.hid b3
  have G2 := Lib.hid lx
  clear b2 b3 x0 x1 lx
  go_wp2_with fail
  refine (SL.out _ B3).mono ?_
  rintro e w4 ⟨v4, rfl, o4, b4⟩
  rw [NL.out] at o4
  obtain ⟨A3, c3, rfl, _, _⟩ := own_form o4
  obtain ⟨f3, om3, _, lo3⟩ := mem_ints (l := l) (by rw [NL.out]; exact o4) (by have := NL.out; have := L448.out; unfold maxLen; omega)
  rw [NL.out] at om3
  have g2 := G2.out
  have w3s : (w2.alloc (.cells #[.int .u64 (wd Q0 0), .int .u64 (wd Q0 1), .int .u64 (wd Q0 2), .int .u64 (wd Q0 3), .int .u64 (wd Q0 4), .int .u64 (wd Q0 5), .int .u64 (wd Q0 6)] 61)).heap.size = w2.heap.size + 1 := World.size_alloc _ _
  have M4 := Lib.hid (M3.out.below b4 M3.out.lt)
  have b4' := HB3.out.trans (b4.mono lx3)
  have HB4 := Lib.hid b4'
  have O4 := Lib.hid om3
  have FD : Hid (∀ b ∈ f3, b ∉ [w2.heap.size]) := Lib.hid (fun b hb => by have := lo3 b hb; rw [w3s] at this; simp; omega)
  clear b4 b4' o4 om3 lo3 w3s M3 p0 p1 p2 p3 p4 p5 p6 B3 HB3 g2
  go_wp2
  go_loopg [7, 13] n3 (fun m i7 i wr => ∃ k : Nat, k + m = n3 ∧ i = .int .i64 k ∧ Hid (Blk wr w2.heap.size 61 (wsC (unF s l k))) ∧ Hid (Mem.own wr f3 [.slice A3 n3 c3] l) ∧ Hid (Below (w.heap.size + 2) ((w.alloc (.cells #[.slice A1 n1 c1, .slice A2 n2 c2] 32)).alloc (.cells #[.int .u64 (wd P 0), .int .u64 (wd P 1), .int .u64 (wd P 2), .int .u64 (wd P 3), .int .u64 (wd P 4), .int .u64 (wd P 5), .int .u64 (wd P 6)] 61)) wr))
  case atStart => exact ⟨0, by omega, rfl, by rw [HQ0.out] at M4; exact M4, O4, HB4⟩
  case round =>
    clear M4 O4 HB4
    obtain ⟨k, hk, rfl, hm, ho, hb⟩ := hrel
    obtain ⟨B, ⟨x0, x1⟩, kP', lxr⟩ := BX.out _ hb.out
    have kP' := Lib.hid kP'
    by_cases hlt : k < n3
    · obtain ⟨ad, rfl, hbl, d0⟩ := (rd_ints.1 (Mem.own_rd ho.out)).2.int hlt
      obtain ⟨x, hx⟩ : ∃ x : Nat, ix l k = x := ⟨(ix l k).toNat, by have := HR.out k hlt; omega⟩
      have NK := Lib.hid (NC.out k hlt x hx wr.drew ⟨B.os, B.tape, B.output, B.size, B.block⟩)
      rw [hx] at d0
      have NX := Lib.hid (HU.out k)
      have EA := Lib.hid (fun R W => either_any (unF s l k) R W)
      generalize unF s l k = Q at *
      generalize nxP s (stL s.vars (ix l k)) s.rules.length = R at *
      have EA := Lib.hid (EA.out R)
      obtain ⟨q0, q1, q2, q3, q4, q5, q6⟩ := ws_cells hm.out
      have LM : Hid (w2.heap.size < wr.heap.size ∧ w.heap.size + 2 ≤ wr.heap.size) := Lib.hid ⟨hm.out.lt, lxr⟩
      unfold wsV at NK EA
      clear hx B lxr
      go_wp2
      go_region_law (first
        | (go_simp; go_at_call 98; refine (NK.out).mono ?_; rintro e w8 ⟨rfl, b8⟩
           have b8' : Below wr.heap.size wr w8 := ⟨b8.os, b8.tape, b8.output, b8.size, b8.block⟩
           have M8 := Lib.hid (hm.out.below b8' LM.out.1)
           have O8 := Lib.hid (Mem.own_below ho.out b8')
           obtain ⟨s0, s1, s2, s3, s4, s5, s6⟩ := ws_cells M8.out
           have B8 := Lib.hid (hb.out.trans (b8'.mono LM.out.2)))
        | (go_simp; go_at_call 118; refine (EA.out _).mono ?_; rintro e w9 ⟨rfl, b9⟩
           have M9 := Lib.hid (M8.out.below b9 M8.out.lt)
           have O9 := Lib.hid (Mem.own_below O8.out b9)
           obtain ⟨c0, c1, c2, c3, c4, c5, c6⟩ := ws_cells M9.out
           obtain ⟨g0, g1, g2, g3, g4, g5, g6⟩ := seven_frozen M9.out
           have B9 := Lib.hid (B8.out.trans (b9.mono (Nat.le_trans LM.out.2 b8'.size)))))
      all_goals
        go_wp2
        go_roundg (n3 - (k + 1))
        case measure => omega
        case rel =>
          refine ⟨k + 1, by omega, by go_num, Lib.hid ?_, Lib.hid (Mem.own_only O9.out seven_only FD.out), Lib.hid (seven_below B9.out G2.out)⟩
          rw [← NX.out]
          exact seven_ws M9.out
    · obtain rfl : k = n3 := by omega
      obtain ⟨q0, q1, q2, q3, q4, q5, q6⟩ := ws_cells hm.out
      obtain ⟨p0, p1, p2, p3, p4, p5, p6⟩ := ws_cells (show Blk _ _ _ (wsC P) from kP'.out)
      have HBB := Lib.hid B
      generalize unF s l k = R at *
      clear B lxr
      go_wp2_with fail
      refine (WO.out _).mono ?_
      rintro e w5 ⟨rfl, b5⟩
      go_wp2_with fail
      refine (EC.out _).mono ?_
      rintro e w6 ⟨rfl, b6⟩
      go_wp2
      go_ret
      have b56 := b5.trans (b6.mono b5.size)
      exact ⟨rfl, HBB.out.trans (b56.mono HBB.out.size)⟩
end Go.Proofs.YtfgjogmgcamfdaaGreatDoor
