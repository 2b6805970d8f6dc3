/- Whether an expression is a truth over a system's variables. -/
import Derived.Test.YtfgjogmgcamfdaaDoorSysE
import Derived.Test.YtfgjogmgcamfdaaDoorSysB
namespace Go.Proofs.YtfgjogmgcamfdaaDoor
open Go.RowKit

set_option maxRecDepth 100000 in
set_option maxHeartbeats 2000000 in
theorem hasTruth_any (s : Sy) (l : List Tm) (A1 : Option Addr) (n1 c1 : Nat) (A2 : Option Addr) (n2 c2 : Nat) (A3 : Option Addr) (n3 c3 : Nat) (w : World) (h1 : Mem.rd w w.heap.size [.slice A1 n1 c1] s.vars) (h2 : Mem.rd w w.heap.size [.slice A2 n2 c2] s.rules) (h3 : Mem.rd w w.heap.size [.slice A3 n3 c3] l) :
    Calls Tryd.prog 34 #[.agg #[.slice A1 n1 c1, .slice A2 n2 c2], .slice A3 n3 c3] w (GivesBool w (sysB s && kindB l s.vars.length 2)) := by
  have BX := Lib.hid (sy_box (w := w) (v1 := .slice A1 n1 c1) (v2 := .slice A2 n2 c2))
  have SV := Lib.hid (fun o => sysValid_impl s A1 n1 c1 A2 n2 c2 (w.alloc o) (Mem.rd_on_alloc h1 o) (Mem.rd_on_alloc h2 o))
  have KC := Lib.hid (fun W (B : Below w.heap.size w W) => isOfKind_any A3 n3 c3 l n1 2 W (Mem.rd_on h3 B))
  rw [rd_len h1]
  cases hz : sysB s
  · have HZ := Lib.hid hz; clear hz
    go_enter Tryd.func34, Tryd.ntmps34
    go_wp2_with fail
    refine (SV.out _).mono ?_
    rintro e w2 ⟨rfl, b2⟩
    rw [HZ.out]
    go_wp2
    go_ret
    exact ⟨rfl, below_call b2⟩
  · have HZ := Lib.hid hz; clear hz
    go_enter Tryd.func34, Tryd.ntmps34
    go_wp2_with fail
    refine (SV.out _).mono ?_
    rintro e w2 ⟨rfl, b2⟩
    rw [HZ.out]
    obtain ⟨B2, x0, x1⟩ := BX.out _ b2
    go_wp2_with fail
    refine (KC.out _ B2).mono ?_
    rintro e w3 ⟨rfl, b3⟩
    go_wp2
    go_ret
    exact ⟨by simp, B2.trans (b3.mono B2.size)⟩
end Go.Proofs.YtfgjogmgcamfdaaDoor
