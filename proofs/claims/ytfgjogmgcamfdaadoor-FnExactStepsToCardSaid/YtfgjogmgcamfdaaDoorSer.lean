/- What a system comes to, of the program. -/
import Derived.Test.YtfgjogmgcamfdaaDoorSeF
import Derived.Test.YtfgjogmgcamfdaaDoorPf
import Derived.Deep.RegionHeld3
import Derived.Deep.RegionLaw
namespace Go.Proofs.YtfgjogmgcamfdaaDoor
open Go.RowKit

theorem IL.rd {w : World} {base k c : Nat} {t : TypeId} {A : Option Addr} {l : List Int} {fp : List Nat} (h : IL w base t (.slice A k c) k l fp) (hk : k ≤ 1000000) : Mem.rd w w.heap.size [.slice A k c] l :=
  Mem.own_rd (h.out (by unfold maxLen; omega)).1

set_option maxRecDepth 100000 in
set_option maxHeartbeats 4000000 in
theorem search_any (s : Sy) (z : Nat) (A1 : Option Addr) (n1 c1 : Nat) (A2 : Option Addr) (n2 c2 : Nat) (w : World) (h1 : Mem.rd w w.heap.size [.slice A1 n1 c1] s.vars) (h2 : Mem.rd w w.heap.size [.slice A2 n2 c2] s.rules)
    (hz : sysB s = true) (hzz : (z : Int) = sizeB s) (hT : DoorAt w) :
    Calls Tryd.prog 46 #[.agg #[.slice A1 n1 c1, .slice A2 n2 c2]] w (fun e w' => ∃ x, Inv (stepT s z) (oneP (firstN s)) z x x.Q.length ∧ GivesSea w x e w') := by
  have ok := sysOk_of hz
  have hbd := sizeB_bd hz
  have hz4 : z ≤ 400 := by omega
  have BX := Lib.hid (sy_box (w := w) (v1 := .slice A1 n1 c1) (v2 := .slice A2 n2 c2))
  have TC := Lib.hid (fun W (B : Below w.heap.size w W) => steps_any s z A1 n1 c1 A2 n2 c2 W (Mem.rd_on h1 B) (Mem.rd_on h2 B) ok hzz hz4)
  have FC := Lib.hid (fun W (B : Below w.heap.size w W) => firstAlone_any s A1 n1 c1 A2 n2 c2 W (Mem.rd_on h1 B) (Mem.rd_on h2 B) hz)
  have SC := Lib.hid (fun g W hg hT => searchFrom_any (stepT s z) (oneP (firstN s)) z g W hg hz4 (stepT_lt ok hzz) (fun n h => by rw [oneP_iff] at h; have := (firstN_eq ok).2; omega) hT)
  have HD := Lib.hid hT
  clear hT hz hzz hbd ok
  generalize stepT s z = T at *
  generalize oneP (firstN s) = M at *
  obtain ⟨B0, x0, x1⟩ := BX.out _ (Below.refl _ _)
  have TK := Lib.hid (TC.out (w.alloc (.cells #[.slice A1 n1 c1, .slice A2 n2 c2] 34)).drew ⟨B0.os, B0.tape, B0.output, B0.size, B0.block⟩)
  clear B0
  go_enter Tryd.func46, Tryd.ntmps46
  go_wp2
  go_region_law (first
    | (go_simp; go_at_call 79; refine (TK.out).mono ?_; rintro e w3 ⟨g3, rfl, m3, l3, b3⟩
       have b3' : Below (w.alloc (.cells #[.slice A1 n1 c1, .slice A2 n2 c2] 34)).heap.size (w.alloc (.cells #[.slice A1 n1 c1, .slice A2 n2 c2] 34)) w3 := ⟨b3.os, b3.tape, b3.output, b3.size, b3.block⟩
       obtain ⟨B3, y0, y1⟩ := BX.out _ b3'
       have FK := Lib.hid (FC.out w3 B3)
       have M3 := Lib.hid m3
       have HB3 := Lib.hid b3'
       clear m3)
    | (go_simp; go_at_call 81; refine (FK.out).mono ?_; rintro e w5 ⟨rfl, b5⟩
       have hb5 := HB3.out.trans (b5.mono HB3.out.size)
       obtain ⟨B5, z0, z1⟩ := BX.out _ hb5
       have SK := Lib.hid (SC.out g3 w5 (M3.out.below b5 M3.out.lt) (HD.out.on B5)))
    | (go_simp; go_at_call 80; refine (SK.out).mono ?_; rintro e w7 ⟨x, iv, h7, A7, c7, f7, rfl, k7, r7, l7, b7⟩
       have HB7 := Lib.hid (hb5.trans (b7.mono hb5.size))
       have HIV := Lib.hid iv
       have HK7 := Lib.hid k7
       have HR7 : Hid (IL w7 w.heap.size 3 (.slice A7 x.Q.length c7) x.Q.length x.Q f7) := Lib.hid ⟨own_lower r7.1 (BX.out _ hb5).1.size, r7.2⟩
       have HL7 := Lib.hid (Nat.le_trans (BX.out _ hb5).1.size l7)
       clear iv k7 r7))
  all_goals
    go_wp2
    go_ret
    exact ⟨x, HIV.out, h7, A7, c7, f7, rfl, HK7.out, HR7.out, HL7.out, (BX.out _ HB7.out).1⟩

end Go.Proofs.YtfgjogmgcamfdaaDoor
