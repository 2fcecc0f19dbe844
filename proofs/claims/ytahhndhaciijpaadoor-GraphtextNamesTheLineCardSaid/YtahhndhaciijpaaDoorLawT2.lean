/- What the laws about Format share: the box of the graph, the library's table. -/
import Derived.Test.YtahhndhaciijpaaDoorLawT
import Derived.Test.YtahhndhaciijpaaDoorFormatG
namespace Go.Proofs.YtahhndhaciijpaaDoor
open Go.ChangeShapes Go.WideShapes Go.ChangeAt Go.RowKit

theorem tb_of {W : World} {L : List (String × DataW Unit)} (hL : laidMet Tryd.prog L W) (hm : ("internal/strconv.uint64pow10", Lib.tabData .u64 Lib.pow10Tab) ∈ L) : Tb W :=
  tab_reads (show Tryd.prog.globalNamed "internal/strconv.uint64pow10" = some 0 by kernel_rfl) (by kernel_rfl) Tryd.underlying91 Tryd.underlying80 (by kernel_rfl) (by kernel_rfl) (Lib.laidMet.reads hL hm)

/-- the world wr behind the making of the box of an argument in w -/
def Bx (w : World) (ia : Option Addr) (il ic : Nat) (pa : Option Addr) (pl pc : Nat) (wr : World) : Prop := Below (w.heap.size + 1) (w.alloc (.cells #[.slice ia il ic, .slice pa pl pc] 26)) wr
section
variable {w wr w2 : World} {ia pa : Option Addr} {il ic pl pc : Nat} {G : Gr}
theorem Bx.start (w : World) (ia : Option Addr) (il ic : Nat) (pa : Option Addr) (pl pc : Nat) : Bx w ia il ic pa pl pc (w.alloc (.cells #[.slice ia il ic, .slice pa pl pc] 26)) := Below.refl _ _
theorem Bx.next (h : Bx w ia il ic pa pl pc wr) (hb : Below wr.heap.size wr w2) : Bx w ia il ic pa pl pc w2 := Below.trans h (hb.mono (Nat.le_trans (by simp) (Below.size h)))
theorem Bx.alloc (h : Bx w ia il ic pa pl pc wr) (o : Obj) : Bx w ia il ic pa pl pc (wr.alloc o) := Below.alloc h (Nat.le_trans (by simp) (Below.size h)) o
theorem Bx.c0 (h : Bx w ia il ic pa pl pc wr) : wr.cell? ⟨w.heap.size, 0, none⟩ = some (.slice ia il ic) := boxed h 0
theorem Bx.c1 (h : Bx w ia il ic pa pl pc wr) : wr.cell? ⟨w.heap.size, 1, none⟩ = some (.slice pa pl pc) := boxed h 1
theorem Bx.bel (h : Bx w ia il ic pa pl pc wr) : Below w.heap.size w wr := belBox h
end
end Go.Proofs.YtahhndhaciijpaaDoor
