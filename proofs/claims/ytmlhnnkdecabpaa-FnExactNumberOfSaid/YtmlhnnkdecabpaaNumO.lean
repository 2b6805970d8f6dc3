/- NumberOf, of the program and of the model. -/
import Derived.Test.YtmlhnnkdecabpaaNumW
import Derived.Test.YtmlhnnkdecabpaaRun3
namespace Go.Proofs.Ytmlhnnkdecabpaa
open Go.RowKit

theorem numberOf_impl (s : Sy) (st : List Int) (A1 : Option Addr) (n1 c1 : Nat) (A2 : Option Addr) (n2 c2 : Nat) (A3 : Option Addr) (n3 c3 : Nat) (w : World) (h1 : Mem.rd w w.heap.size [.slice A1 n1 c1] s.vars) (h2 : Mem.rd w w.heap.size [.slice A2 n2 c2] s.rules) (h3 : Mem.rd w w.heap.size [.slice A3 n3 c3] st) :
    Calls Try.prog 27 #[.agg #[.slice A1 n1 c1, .slice A2 n2 c2], .slice A3 n3 c3] w (GivesInt w (numB s st)) := by
  have BX := Lib.hid (sy_box (w := w) (v1 := .slice A1 n1 c1) (v2 := .slice A2 n2 c2))
  have SV := Lib.hid (fun o => inRange_impl s st A1 n1 c1 A2 n2 c2 A3 n3 c3 (w.alloc o) (Mem.rd_on_alloc h1 o) (Mem.rd_on_alloc h2 o) (Mem.rd_on_alloc h3 o))
  unfold numB
  cases hz : inRangeB s st
  · have HZ := Lib.hid hz; clear hz
    go_enter Try.func27, Try.ntmps27
    go_wp2_with fail
    refine (SV.out _).mono ?_
    rintro e w2 ⟨rfl, b2⟩
    rw [HZ.out]
    go_wp2
    go_ret
    exact ⟨rfl, below_call b2⟩
  · obtain ⟨ok, hin⟩ := inRange_parts hz
    have HZ := Lib.hid hz; clear hz
    have NC := Lib.hid (fun w h1 h3 => number_any s st A1 n1 c1 A2 n2 c2 A3 n3 c3 w h1 h3 ok hin)
    go_enter Try.func27, Try.ntmps27
    go_wp2_with fail
    refine (SV.out _).mono ?_
    rintro e w2 ⟨rfl, b2⟩
    rw [HZ.out]
    obtain ⟨B2, x0, x1⟩ := BX.out _ b2
    go_wp2_with fail
    refine (NC.out w2 (Mem.rd_on h1 B2) (Mem.rd_on h3 B2)).mono ?_
    rintro e w3 ⟨rfl, b3⟩
    go_wp2
    go_ret
    exact ⟨rfl, B2.trans (b3.mono B2.size)⟩

theorem numberOf_spec (s : Sy) (st : List Int) (A1 : Option Addr) (n1 c1 : Nat) (A2 : Option Addr) (n2 c2 : Nat) (A3 : Option Addr) (n3 c3 : Nat) (w : World) (h1 : Mem.rd w w.heap.size [.slice A1 n1 c1] s.vars) (h2 : Mem.rd w w.heap.size [.slice A2 n2 c2] s.rules) (h3 : Mem.rd w w.heap.size [.slice A3 n3 c3] st) :
    Calls Try.prog 25 #[.agg #[.slice A1 n1 c1, .slice A2 n2 c2], .slice A3 n3 c3] w (GivesInt w (numB s st)) := by
  have BX := Lib.hid (sy_box (w := w) (v1 := .slice A1 n1 c1) (v2 := .slice A2 n2 c2))
  have SV := Lib.hid (fun o => inRange_spec s st A1 n1 c1 A2 n2 c2 A3 n3 c3 (w.alloc o) (Mem.rd_on_alloc h1 o) (Mem.rd_on_alloc h2 o) (Mem.rd_on_alloc h3 o))
  unfold numB
  cases hz : inRangeB s st
  · have HZ := Lib.hid hz; clear hz
    go_enter Try.func25, Try.ntmps25
    go_wp2_with fail
    refine (SV.out _).mono ?_
    rintro e w2 ⟨rfl, b2⟩
    rw [HZ.out]
    go_wp2
    go_ret
    exact ⟨rfl, below_call b2⟩
  · obtain ⟨ok, hin⟩ := inRange_parts hz
    have HZ := Lib.hid hz; clear hz
    have NC := Lib.hid (fun w h1 h3 => l4Number_any s st A1 n1 c1 A2 n2 c2 A3 n3 c3 w h1 h3 ok hin)
    go_enter Try.func25, Try.ntmps25
    go_wp2_with fail
    refine (SV.out _).mono ?_
    rintro e w2 ⟨rfl, b2⟩
    rw [HZ.out]
    obtain ⟨B2, x0, x1⟩ := BX.out _ b2
    go_wp2_with fail
    refine (NC.out w2 (Mem.rd_on h1 B2) (Mem.rd_on h3 B2)).mono ?_
    rintro e w3 ⟨rfl, b3⟩
    go_wp2
    go_ret
    exact ⟨rfl, B2.trans (b3.mono B2.size)⟩
end Go.Proofs.Ytmlhnnkdecabpaa
