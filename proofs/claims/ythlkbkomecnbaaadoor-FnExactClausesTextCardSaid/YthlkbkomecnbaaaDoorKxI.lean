/- Clauses as text, in the program. -/
import Derived.Test.YthlkbkomecnbaaaDoorKxP
import Derived.Test.YthlkbkomecnbaaaDoorKcI
import Derived.Test.YthlkbkomecnbaaaDoorBld
import Derived.Test.YthlkbkomecnbaaaDoorDoorN
import Derived.Shelf.Strings.MapGrows
namespace Go.Proofs.YthlkbkomecnbaaaDoor
open Go.RowKit
set_option maxRecDepth 100000

theorem isb_drew {T e : TypeId} {B b : Nat} {bs : List Value} {W : World} (h : Lib.IsBuilderF T e B b bs W) : Lib.IsBuilderF T e B b bs W.drew := Lib.IsBuilderF.below h ⟨rfl, rfl, rfl, Nat.le_refl _, fun _ _ => rfl⟩
theorem grow_belowX (w : World) (os : Array Obj) : Below w.heap.size w (Go.Sort.grow w os) :=
  ⟨rfl, rfl, rfl, by simp [Go.Sort.grow], fun k hk => by simp [Go.Sort.grow, Array.getElem?_append_left hk]⟩
theorem itoa_any (n : Int) (h0 : -1000000 ≤ n) (h1 : n ≤ 1000000) (w : World) (ht : Lib.TabIs Tryd.prog w "internal/strconv.uint64pow10" .u64 Lib.pow10Tab) : Calls Tryd.prog 15 #[.int .i64 n] w (GivesS w (tB (Lib.itoa n))) :=
  (Tryd.strconv_Itoa n (by omega) (by omega) w ht).mono fun _ _ h => ⟨h.1, by
    obtain ⟨k, os, e⟩ := h.2
    rw [e]
    exact (show Below w.heap.size w (w.drewN k) from ⟨rfl, rfl, rfl, Nat.le_refl _, fun _ _ => rfl⟩).trans (grow_belowX (w.drewN k) os)⟩

set_option maxHeartbeats 8000000 in
theorem clausesText_impl (s : Cs) (A : Option Addr) (n c : Nat) (w : World) (h : Mem.rd w w.heap.size [.slice A n c] s.list) (hT : DoorAt w) :
    Calls Tryd.prog 7 #[.agg #[.int .i64 s.atoms, .slice A n c]] w (GivesS w (csTextB s)) := by
  have CK := Lib.hid (fun W (B : Below w.heap.size w W) => clausesValid_impl s A n c W (Mem.rd_on h B))
  have l1 := rd_len h
  have BX := Lib.hid (ci_box (w := w) (v1 := .int .i64 s.atoms) (v2 := .slice A n c) (t := 27))
  unfold csTextB
  cases k1 : csVB s with
  | false =>
    rw [k1] at CK
    rw [csTextL_no k1]
    obtain ⟨m, L⟩ := s
    dsimp only at *
    clear k1 l1 hT
    go_enter Tryd.func7, Tryd.ntmps7
    go_wp2_with fail
    refine (CK.out _ (below_alloc _ _)).mono ?_
    rintro e w1 ⟨rfl, b1⟩
    obtain ⟨B1, x0, x1⟩ := BX.out _ b1
    go_wp2
    go_ret
    exact ⟨rfl, B1⟩
  | true =>
    rw [k1] at CK
    have ok : CsOk s.atoms s.list := csvB_iff.1 k1
    have HNO := Lib.hid (fun k (hk : k ≤ n) (q : 4000 < (textTo s.atoms s.list k).length) => csTextL_long (s := s) (k := k) (by rw [l1]; exact hk) q)
    have HYE : Hid ((textTo s.atoms s.list n).length ≤ 4000 → csTextL s = textTo s.atoms s.list n) := Lib.hid fun q => by rw [← l1] at q ⊢; exact csTextL_yes k1 q
    have m0 := ok.lo
    have m1 := ok.hi
    have hn2 : n ≤ 2500 := by have := ok.few; omega
    have HLT := Lib.hid (fun k (hk : k < n) => cv_lits (ok.all k (by rw [l1]; exact hk)))
    obtain ⟨m, L⟩ := s
    dsimp only at *
    have hh : (textTo m L 0).length ≤ 4000 := by have := hdrT_len (m := m) (n := L.length) m0 (by omega) (by omega); show (hdrT m L.length).length ≤ _; omega
    have HH := Lib.hid hh
    have IT1 := Lib.hid (fun W (B : Below w.heap.size w W) => itoa_any m (by omega) (by omega) W (hT W B))
    have IT2 := Lib.hid (fun W (B : Below w.heap.size w W) => itoa_any (n : Int) (by omega) (by omega) W (hT W B))
    have HT := Lib.hid hT
    have EH : Hid (({ data := #[112, 32, 99, 110, 102, 32] } : ByteArray) ++ tB (Lib.itoa m) ++ { data := #[32] } ++ tB (Lib.itoa (n : Int)) ++ { data := #[10] } = tB (textTo m L 0)) := Lib.hid (by
      show tB [112, 32, 99, 110, 102, 32] ++ tB (Lib.itoa m) ++ tB [32] ++ tB (Lib.itoa (n : Int)) ++ tB [10] = tB (hdrT m L.length)
      rw [tB_app, tB_app, tB_app, tB_app, l1]
      rfl)
    have ES : Hid (∀ k, tB (textTo m L k ++ litsT (el L k) (el L k).length) ++ ({ data := #[48, 10] } : ByteArray) = tB (textTo m L (k + 1))) := Lib.hid fun k => tB_app _ [48, 10]
    have EL : Hid (∀ k j, tB (textTo m L k ++ litsT (el L k) j) ++ tB (Lib.itoa (ix (el L k) j)) ++ ({ data := #[32] } : ByteArray) = tB (textTo m L k ++ litsT (el L k) (j + 1))) := Lib.hid fun k j => by
      show tB _ ++ tB _ ++ tB [32] = _
      rw [tB_app, tB_app, List.append_assoc, List.append_assoc]
      rfl
    have HSZ : Hid ((Lib.byteCells []).length + (({ data := #[112, 32, 99, 110, 102, 32] } : ByteArray) ++ tB (Lib.itoa m) ++ { data := #[32] } ++ tB (Lib.itoa (n : Int)) ++ { data := #[10] }).size ≤ 140737488355328) := Lib.hid (by rw [EH.out, tB_size, Lib.byteCells_length]; simp; omega)
    have im1 : (tB (Lib.itoa m)).size ≤ 21 := by rw [tB_size]; exact itoa_len (by omega) (by omega)
    have in1 : (tB (Lib.itoa (n : Int))).size ≤ 21 := by rw [tB_size]; exact itoa_len (by omega) (by omega)
    generalize tB (Lib.itoa m) = IM at *
    generalize tB (Lib.itoa (n : Int)) = IN at *
    have s1 : ¬ 9223372036854775807 < 6 + IM.size := by omega
    have s2 : ¬ 9223372036854775807 < 6 + IM.size + 1 := by omega
    have s3 : ¬ 9223372036854775807 < 6 + IM.size + 1 + IN.size := by omega
    have s4 : ¬ 9223372036854775807 < 6 + IM.size + 1 + IN.size + 1 := by omega
    have r1 : ¬ 9223372036854775807 < ({ data := #[112, 32, 99, 110, 102, 32] } : ByteArray).size + IM.size := by show ¬ 9223372036854775807 < 6 + IM.size; omega
    have r2 : ¬ 9223372036854775807 < (({ data := #[112, 32, 99, 110, 102, 32] } : ByteArray) ++ IM).size + ({ data := #[32] } : ByteArray).size := by rw [ByteArray.size_append]; show ¬ 9223372036854775807 < 6 + IM.size + 1; omega
    have r3 : ¬ 9223372036854775807 < (({ data := #[112, 32, 99, 110, 102, 32] } : ByteArray) ++ IM ++ { data := #[32] }).size + IN.size := by rw [ByteArray.size_append, ByteArray.size_append]; show ¬ 9223372036854775807 < 6 + IM.size + 1 + IN.size; omega
    have r4 : ¬ 9223372036854775807 < (({ data := #[112, 32, 99, 110, 102, 32] } : ByteArray) ++ IM ++ { data := #[32] } ++ IN).size + ({ data := #[10] } : ByteArray).size := by rw [ByteArray.size_append, ByteArray.size_append, ByteArray.size_append]; show ¬ 9223372036854775807 < 6 + IM.size + 1 + IN.size + 1; omega
    generalize csTextL ⟨m, L⟩ = R at *
    have HD := Lib.hid (fun k (hk : k < n) => ll_at h hk)
    clear k1 ok hh l1 hT
    go_enter Tryd.func7, Tryd.ntmps7
    go_wp2_with fail
    refine (CK.out _ (below_alloc _ _)).mono ?_
    rintro e w1 ⟨rfl, b1⟩
    obtain ⟨B1, x0, x1⟩ := BX.out _ b1
    have lx : w.heap.size < w1.heap.size := by have := b1.size; rw [World.size_alloc] at this; omega
    go_wp2
    have BI : Hid (Lib.IsBuilderF 39 5 w1.heap.size w1.heap.size (Lib.byteCells []) (w1.alloc (.cells #[.pointer none, .slice none 0 0] 39))) := Lib.hid (Lib.IsBuilderF.of (Lib.fresh_isBuilder 39 5 w1))
    have u0 := cell_below (below_alloc w1 (.cells #[.pointer none, .slice none 0 0] 39)) (p := ⟨w.heap.size, 0, none⟩) lx x0
    have u1 := cell_below (below_alloc w1 (.cells #[.pointer none, .slice none 0 0] 39)) (p := ⟨w.heap.size, 1, none⟩) lx x1
    have Bw := Lib.hid (below_alloc w1 (.cells #[.pointer none, .slice none 0 0] 39))
    generalize w1.alloc (.cells #[.pointer none, .slice none 0 0] 39) = wb at *
    have hzb : w1.heap.size ≤ wb.heap.size := Bw.out.size
    have lb : w.heap.size < wb.drew.heap.size := Nat.lt_of_lt_of_le lx hzb
    have Bd : Below w.heap.size w wb.drew := (B1.trans (Bw.out.mono B1.size)).trans ⟨rfl, rfl, rfl, Nat.le_refl _, fun _ _ => rfl⟩
    clear x0 x1
    refine wp_region_held_drew (S := (fun w' => w'.cell? ⟨w.heap.size, 0, none⟩ = some (.int .i64 m) ∧ w'.cell? ⟨w.heap.size, 1, none⟩ = some (.slice A n c))) (by kernel_rfl) ?_ (fun hHeld => ?_)
    · (try dsimp only); first | exact ⟨u0, u1⟩ | exact ⟨y0, y1⟩ | exact ⟨z0, z1⟩ | exact ⟨v0, v1⟩
    refine wpAnyH_take (i := 0) (v := ?hv0) rfl (by kernel_rfl) (by kernel_rfl) (by kernel_rfl) (fun _ _ _ h => h) (Or.inl ⟨by kernel_rfl, ?hh0⟩) (by assumption) ?hr0
    case hh0 => ((intro w hSw; (try dsimp only at hSw); go_simp) <;> with_reducible rfl)
    (try simp only [List.getElem_toArray, List.getElem_cons_zero]); (try simp only [Act.put]); (try simp only [List.setIfInBounds_toArray]); (try simp only [List.set_cons_succ]); (try simp only [List.set_cons_zero])
    refine wpAnyH_take (i := 1) (v := ?hv1) rfl (by kernel_rfl) (by kernel_rfl) (by kernel_rfl) (fun _ _ _ h => h) (Or.inl ⟨by kernel_rfl, ?hh1⟩) (by assumption) ?hr1
    case hh1 => ((intro w hSw; (try dsimp only at hSw); go_simp) <;> with_reducible rfl)
    (try simp only [List.getElem_toArray, List.getElem_cons_zero, List.getElem_cons_succ]); (try simp only [Act.put]); (try simp only [List.setIfInBounds_toArray]); (try simp only [List.set_cons_succ]); (try simp only [List.set_cons_zero])
    refine wpAnyH_take (i := 5) (v := ?hv5) rfl (by kernel_rfl) (by kernel_rfl) (by kernel_rfl) (fun _ _ _ h => h) (Or.inl ⟨by kernel_rfl, ?hh5⟩) (by assumption) ?hr5
    case hh5 => ((intro w hSw; (try dsimp only at hSw); go_simp) <;> with_reducible rfl)
    (try simp only [List.getElem_toArray, List.getElem_cons_zero, List.getElem_cons_succ]); (try simp only [Act.put]); (try simp only [List.setIfInBounds_toArray]); (try simp only [List.set_cons_succ]); (try simp only [List.set_cons_zero])
    refine wpAnyH_take (i := 6) (v := ?hv6) rfl (by kernel_rfl) (by kernel_rfl) (by kernel_rfl) (fun _ _ _ h => h) (Or.inl ⟨by kernel_rfl, ?hh6⟩) (by assumption) ?hr6
    case hh6 => ((intro w hSw; (try dsimp only at hSw); go_simp) <;> with_reducible rfl)
    (try simp only [List.getElem_toArray, List.getElem_cons_zero, List.getElem_cons_succ]); (try simp only [Act.put]); (try simp only [List.setIfInBounds_toArray]); (try simp only [List.set_cons_succ]); (try simp only [List.set_cons_zero])
    refine wpAnyH_take (i := 7) (v := ?hv7) rfl (by kernel_rfl) (by kernel_rfl) (by kernel_rfl) (fun _ _ _ h => h) (Or.inl ⟨by kernel_rfl, ?hh7⟩) (by assumption) ?hr7
    case hh7 => ((intro w hSw; (try dsimp only at hSw); go_simp) <;> with_reducible rfl)
    (try simp only [List.getElem_toArray, List.getElem_cons_zero, List.getElem_cons_succ]); (try simp only [Act.put]); (try simp only [List.setIfInBounds_toArray]); (try simp only [List.set_cons_succ]); (try simp only [List.set_cons_zero])
    refine wpAnyH_ready (rs := [2]) (by kernel_rfl) (by simp) ?_
    refine AllReadyH.cons (o := _) rfl (fun K hK => ?_) AllReadyH.nil
    go_simp
    refine (IT1.out wb.drew Bd).mono ?_
    rintro e w2 ⟨rfl, b2⟩
    have y0 := cell_below b2 (p := ⟨w.heap.size, 0, none⟩) lb u0
    have y1 := cell_below b2 (p := ⟨w.heap.size, 1, none⟩) lb u1
    have ly := Nat.lt_of_lt_of_le lb b2.size
    have Bd2 := Bd.trans (b2.mono Bd.size)
    have HB2 := Lib.hid b2
    clear b2
    refine hK.out _ _ ?_ (fun hHeld => ?_)
    · (try dsimp only); first | exact ⟨u0, u1⟩ | exact ⟨y0, y1⟩ | exact ⟨z0, z1⟩ | exact ⟨v0, v1⟩
    clear hK K
    (try simp only [List.getElem_toArray, List.getElem_cons_zero, List.getElem_cons_succ]); (try simp only [Act.put]); (try simp only [List.setIfInBounds_toArray]); (try simp only [List.set_cons_succ]); (try simp only [List.set_cons_zero])
    refine wpAnyH_take (i := 3) (v := ?hv3) rfl (by kernel_rfl) (by kernel_rfl) (by kernel_rfl) (fun _ _ _ h => h) (Or.inl ⟨by kernel_rfl, ?hh3⟩) (by assumption) ?hr3
    case hh3 => ((intro w hSw; (try dsimp only at hSw); go_simp) <;> with_reducible rfl)
    (try simp only [List.getElem_toArray, List.getElem_cons_zero, List.getElem_cons_succ]); (try simp only [Act.put]); (try simp only [List.setIfInBounds_toArray]); (try simp only [List.set_cons_succ]); (try simp only [List.set_cons_zero])
    refine wpAnyH_take (i := 4) (v := ?hv4) rfl (by kernel_rfl) (by kernel_rfl) (by kernel_rfl) (fun _ _ _ h => h) (Or.inl ⟨by kernel_rfl, ?hh4⟩) (by assumption) ?hr4
    case hh4 => ((intro w hSw; (try dsimp only at hSw); go_simp) <;> with_reducible rfl)
    (try simp only [List.getElem_toArray, List.getElem_cons_zero, List.getElem_cons_succ]); (try simp only [Act.put]); (try simp only [List.setIfInBounds_toArray]); (try simp only [List.set_cons_succ]); (try simp only [List.set_cons_zero])
    refine wpAnyH_ready (rs := [8]) (by kernel_rfl) (by simp) ?_
    refine AllReadyH.cons (o := _) rfl (fun K hK => ?_) AllReadyH.nil
    go_simp
    refine (IT2.out _ Bd2).mono ?_
    rintro e w3 ⟨rfl, b3⟩
    have z0 := cell_below b3 (p := ⟨w.heap.size, 0, none⟩) ly y0
    have z1 := cell_below b3 (p := ⟨w.heap.size, 1, none⟩) ly y1
    have lz := Nat.lt_of_lt_of_le ly b3.size
    have HB3 := Lib.hid b3
    have BI3 := Lib.hid (Lib.IsBuilderF.below (Lib.IsBuilderF.below (show Lib.IsBuilderF 39 5 w1.heap.size w1.heap.size (Lib.byteCells []) wb.drew from isb_drew BI.out) HB2.out) b3)
    have hz3 : w1.heap.size ≤ w3.heap.size := Nat.le_trans (Nat.le_trans hzb HB2.out.size) b3.size
    clear b3
    refine hK.out _ _ ?_ (fun hHeld => ?_)
    · (try dsimp only); first | exact ⟨u0, u1⟩ | exact ⟨y0, y1⟩ | exact ⟨z0, z1⟩ | exact ⟨v0, v1⟩
    clear hK K
    (try simp only [List.getElem_toArray, List.getElem_cons_zero, List.getElem_cons_succ]); (try simp only [Act.put]); (try simp only [List.setIfInBounds_toArray]); (try simp only [List.set_cons_succ]); (try simp only [List.set_cons_zero])
    refine wpAnyH_take (i := 9) (v := ?hv9) rfl (by kernel_rfl) (by kernel_rfl) (by kernel_rfl) (fun _ _ _ h => h) (Or.inl ⟨by kernel_rfl, ?hh9⟩) (by assumption) ?hr9
    case hh9 => ((intro w hSw; (try dsimp only at hSw); go_simp) <;> with_reducible rfl)
    (try simp only [List.getElem_toArray, List.getElem_cons_zero, List.getElem_cons_succ]); (try simp only [Act.put]); (try simp only [List.setIfInBounds_toArray]); (try simp only [List.set_cons_succ]); (try simp only [List.set_cons_zero])
    refine wpAnyH_take (i := 10) (v := ?hv10) rfl (by kernel_rfl) (by kernel_rfl) (by kernel_rfl) (fun _ _ _ h => h) (Or.inl ⟨by kernel_rfl, ?hh10⟩) (by assumption) ?hr10
    case hh10 => ((intro w hSw; (try dsimp only at hSw); go_simp) <;> with_reducible rfl)
    (try simp only [List.getElem_toArray, List.getElem_cons_zero, List.getElem_cons_succ]); (try simp only [Act.put]); (try simp only [List.setIfInBounds_toArray]); (try simp only [List.set_cons_succ]); (try simp only [List.set_cons_zero])
    refine wpAnyH_ready (rs := [11]) (by kernel_rfl) (by simp) ?_
    refine AllReadyH.cons (o := _) rfl (fun K hK => ?_) AllReadyH.nil
    go_simp
    refine (writeS w1.heap.size w1.heap.size (Lib.byteCells []) _ w3 BI3.out HSZ.out hz3).mono ?_
    rintro e w4 ⟨⟨z4, rfl⟩, i4, b4, _⟩
    have v0 := cell_below b4 (p := ⟨w.heap.size, 0, none⟩) lx z0
    have v1 := cell_below b4 (p := ⟨w.heap.size, 1, none⟩) lx z1
    have HI4 := Lib.hid i4
    have HB4 := Lib.hid b4
    clear i4 b4
    refine hK.out _ _ ?_ (fun hHeld => ?_)
    · (try dsimp only); first | exact ⟨u0, u1⟩ | exact ⟨y0, y1⟩ | exact ⟨z0, z1⟩ | exact ⟨v0, v1⟩
    clear hK K
    (try simp only [List.getElem_toArray, List.getElem_cons_zero, List.getElem_cons_succ]); (try simp only [Act.put]); (try simp only [List.setIfInBounds_toArray]); (try simp only [List.set_cons_succ]); (try simp only [List.set_cons_zero])
    refine wpAnyH_done (by kernel_rfl) ?_ _
    have HI : Hid (Lib.IsBuilderF 39 5 w1.heap.size w1.heap.size (Lib.byteCells (textTo m L 0)) w4) := Lib.hid (Or.inr (by
      have h4 := HI4.out
      rw [EH.out] at h4
      exact h4))
    have b4 := Lib.hid ((Bw.out.trans ((show Below wb.heap.size wb w2 from ⟨HB2.out.os, HB2.out.tape, HB2.out.output, HB2.out.size, HB2.out.block⟩).mono hzb)).trans ((HB3.out.mono (Nat.le_trans hzb HB2.out.size)).trans HB4.out))
    have HB1 := Lib.hid B1
    clear s1 s2 s3 s4 r1 r2 r3 r4 u0 u1 y0 y1 z0 z1 ly lz hz3 IT1 IT2 BI BI3 HI4 Bd Bd2 HSZ
    go_wp2
    go_loopg [26] n (fun r i wr => ∃ k : Nat, k + r = n ∧ i = .int .i64 k ∧ Hid (Lib.IsBuilderF 39 5 w1.heap.size w1.heap.size (Lib.byteCells (textTo m L k)) wr) ∧ Hid ((textTo m L k).length ≤ 4000) ∧ Hid (Below w1.heap.size w1 wr))
    case atStart => exact ⟨0, by omega, rfl, HI, HH, b4⟩
    case round =>
      clear v0 v1 b4 HI EH HH HB2 HB3 HB4 Bw
      obtain ⟨k, hk, rfl, HI, HTL, HW⟩ := hrel
      have HB := Lib.hid (HB1.out.trans (HW.out.mono HB1.out.size))
      by_cases hlt : k < n
      · obtain ⟨ad, A1, n1, c1, rfl, hbl, d0w, r1w⟩ := HD.out k hlt
        have ln1 := rd_len r1w
        obtain ⟨q7, qL⟩ := HLT.out k hlt
        have n17 : n1 ≤ 700 := by omega
        have QL := Lib.hid (fun j (hj : j < n1) => qL j (by omega))
        have QT : Hid (∀ j, j ≤ n1 → (textTo m L k ++ litsT (el L k) j).length ≤ 20000) := Lib.hid fun j hj => by
          have h1 := litsT_len (l := el L k) (k := j) fun i hi => by have := QL.out i (by omega); omega
          have h2 := HTL.out
          rw [List.length_append]; omega
        have EB : Hid (Lib.byteCells (textTo m L k ++ litsT (el L k) n1) ++ Lib.strCells ({ data := #[48, 10] } : ByteArray) = Lib.byteCells (textTo m L (k + 1))) := Lib.hid (by
          show _ = Lib.byteCells (textTo m L k ++ litsT (el L k) (el L k).length ++ [48, 10])
          rw [ln1, Lib.byteCells_append (textTo m L k ++ litsT (el L k) n1) [48, 10]]
          rfl)
        have d0 := cell_below HB.out (p := ad.add k) (by rw [add_block]; exact hbl) d0w
        have HRW := Lib.hid r1w
        have HI0 : Hid (Lib.IsBuilderF 39 5 w1.heap.size w1.heap.size (Lib.byteCells (textTo m L k ++ litsT (el L k) 0)) wr) := Lib.hid (by rw [show litsT (el L k) 0 = [] from rfl, List.append_nil]; exact HI.out)
        clear qL ln1 r1w d0w q7 HI
        go_wp2
        go_loopg [32] n1 (fun r2 i wr => ∃ j : Nat, j + r2 = n1 ∧ i = .int .i64 j ∧ Hid (Lib.IsBuilderF 39 5 w1.heap.size w1.heap.size (Lib.byteCells (textTo m L k ++ litsT (el L k) j)) wr) ∧ Hid (Below w1.heap.size w1 wr))
        case atStart => exact ⟨0, by omega, rfl, HI0, HW⟩
        case round =>
          clear d0 HW HB HI0
          obtain ⟨j, hj, rfl, HI, HW⟩ := hrel
          have HB := Lib.hid (HB1.out.trans (HW.out.mono HB1.out.size))
          have hzw : w1.heap.size ≤ wr.heap.size := HW.out.size
          by_cases hlt2 : j < n1
          · obtain ⟨ad1, rfl, _, e0⟩ := ((rd_ints.1 (Mem.rd_on HRW.out HB.out)).2).int hlt2
            have q1 := QL.out j hlt2
            have IX := Lib.hid (itoa_any (ix (el L k) j) (by omega) (by omega) wr (HT.out wr HB.out))
            have QJ := QT.out j (by omega)
            have sx : (tB (Lib.itoa (ix (el L k) j))).size ≤ 21 := by rw [tB_size]; exact itoa_len (by omega) (by omega)
            have EW : Hid (Lib.byteCells (textTo m L k ++ litsT (el L k) j) ++ Lib.strCells (tB (Lib.itoa (ix (el L k) j)) ++ ({ data := #[32] } : ByteArray)) = Lib.byteCells (textTo m L k ++ litsT (el L k) (j + 1))) := Lib.hid (by
              show _ ++ Lib.strCells (tB (Lib.itoa (ix (el L k) j)) ++ tB [32]) = Lib.byteCells (textTo m L k ++ (litsT (el L k) j ++ (Lib.itoa (ix (el L k) j) ++ [32])))
              rw [tB_app, ← List.append_assoc, Lib.byteCells_append (textTo m L k ++ litsT (el L k) j)]
              rfl)
            have SZ : Hid ((Lib.byteCells (textTo m L k ++ litsT (el L k) j)).length + (tB (Lib.itoa (ix (el L k) j)) ++ ({ data := #[32] } : ByteArray)).size ≤ 140737488355328) := Lib.hid (by
              rw [Lib.byteCells_length, ByteArray.size_append]
              show _ + ((tB (Lib.itoa (ix (el L k) j))).size + 1) ≤ _
              omega)
            generalize tB (Lib.itoa (ix (el L k) j)) = TX at *
            have r1 : ¬ 9223372036854775807 < TX.size + ({ data := #[32] } : ByteArray).size := by show ¬ 9223372036854775807 < TX.size + 1; omega
            have r2 : ¬ 9223372036854775807 < TX.size + 1 := by omega
            clear q1 sx QJ
            go_wp2_with fail
            refine IX.out.mono ?_
            rintro e w5 ⟨rfl, b5⟩
            have HI5 := Lib.hid (Lib.IsBuilderF.below HI.out b5)
            have hz5 : w1.heap.size ≤ w5.heap.size := Nat.le_trans hzw b5.size
            have HW5 := Lib.hid (HW.out.trans (b5.mono hzw))
            clear b5 IX
            go_wp2_with fail
            refine (writeS w1.heap.size w1.heap.size _ _ w5 HI5.out SZ.out hz5).mono ?_
            rintro e w6 ⟨⟨z6, rfl⟩, i6, b6, _⟩
            have HI6 := Lib.hid i6
            have HW6 := Lib.hid (HW5.out.trans b6)
            clear i6 b6
            go_wp2
            go_roundg (n1 - (j + 1))
            case measure => omega
            case rel => exact ⟨j + 1, by omega, by go_num, Lib.hid (Or.inr (by have h6 := HI6.out; rw [EW.out] at h6; exact h6)), HW6⟩
          · obtain rfl : j = n1 := by omega
            have LK := Lib.hid (HNO.out (k + 1) (by omega))
            have SZ : Hid ((Lib.byteCells (textTo m L k ++ litsT (el L k) j)).length + ({ data := #[48, 10] } : ByteArray).size ≤ 140737488355328) := Lib.hid (by
              have := QT.out j (Nat.le_refl _)
              rw [Lib.byteCells_length]
              show _ + 2 ≤ _
              omega)
            go_wp2_with fail
            refine (writeS w1.heap.size w1.heap.size _ _ wr HI.out SZ.out hzw).mono ?_
            rintro e w6 ⟨⟨z6, rfl⟩, i6, b6, _⟩
            rw [EB.out] at i6
            have i6 : Lib.IsBuilderF 39 5 w1.heap.size w1.heap.size (Lib.byteCells (textTo m L (k + 1))) w6 := Or.inr i6
            have HI6 := Lib.hid i6
            have HW6 := Lib.hid (HW.out.trans b6)
            have LN := Lib.hid (Tryd.Builder_Len_f w1.heap.size w1.heap.size _ w6 i6)
            rw [Lib.byteCells_length] at LN
            obtain ⟨N, hN⟩ : ∃ N, N = (textTo m L (k + 1)).length := ⟨_, rfl⟩
            rw [← hN] at LK LN
            have HN := Lib.hid hN
            clear i6 b6 hN
            go_wp2_with fail
            refine LN.out.mono ?_
            rintro e w7 ⟨rfl, rfl⟩
            by_cases g : 4000 < N
            · have g1 : (4000 : Int) < (N : Int) := by omega
              have ER := Lib.hid (LK.out g)
              clear LK LN
              go_wp2
              go_ret
              exact ⟨congrArg (fun z => Ending.returned (.string (tB z))) ER.out.symm, HB1.out.trans (HW6.out.mono HB1.out.size)⟩
            · have g1 : ¬ (4000 : Int) < (N : Int) := by omega
              clear LK LN
              go_wp2
              go_roundg (n - (k + 1))
              case measure => omega
              case rel => exact ⟨k + 1, by omega, by go_num, HI6, Lib.hid (by rw [← HN.out]; omega), HW6⟩
      · obtain rfl : k = n := by omega
        have ER := Lib.hid (HYE.out HTL.out)
        have ST := Lib.hid (Tryd.Builder_String_any_k w1.heap.size w1.heap.size (textTo m L k) wr HI.out HW.out.size)
        go_wp2_with fail
        refine ST.out.mono ?_
        rintro e w6 ⟨rfl, _, b6, _⟩
        go_wp2
        go_ret
        exact ⟨congrArg (fun z => Ending.returned (.string (tB z))) ER.out.symm, HB1.out.trans ((HW.out.trans b6).mono HB1.out.size)⟩
end Go.Proofs.YthlkbkomecnbaaaDoor
