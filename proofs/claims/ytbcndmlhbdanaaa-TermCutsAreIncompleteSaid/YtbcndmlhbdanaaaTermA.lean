/- What awake of layer 5's laws answers. -/
import Derived.Test.YtbcndmlhbdanaaaTermP4
import Derived.Test.YtbcndmlhbdanaaaTermP5
import Derived.Test.YtbcndmlhbdanaaaTermEx
namespace Go.Proofs.Ytbcndmlhbdanaaa
open Go.RowKit

set_option maxHeartbeats 1000000 in
theorem awake_any (w : World) : Calls Try.prog 11 #[] w fun e w' => e = .returned (.bool true) ∧ Below w.heap.size w w' := by
  have HEx := Lib.hid (example_any w)
  have HE := Lib.hid (fun (a : Option Addr) (c : Nat) (W : World) (h : LinksAt W a exT) => endP_any a c exT 0 W h (by unfold exT; simp))
  have HO := Lib.hid (fun (a : Option Addr) (c : Nat) (W : World) (h : LinksAt W a exT) => operandP_any a c exT 1 1 W h (by unfold exT; simp))
  have HD := Lib.hid (fun (a : Option Addr) (c : Nat) (W : World) (h : LinksAt W a exT) => depthP_any a c exT W h (by unfold exT; simp))
  have HN := Lib.hid (fun (a : Option Addr) (c : Nat) (W : World) (h : LinksAt W a exT) => nestP_any a c exT W h (by unfold exT; simp))
  have HV := Lib.hid (fun (a : Option Addr) (c : Nat) (W : World) (h : LinksAt W a exT) => validP_any a c exT 1 W h (by unfold exT; simp) (by unfold I64; decide))
  obtain ⟨x1, x2, x3, x4, x5⟩ := exT_says
  rw [x1, show exT.length = 4 from rfl] at HE
  rw [x2, show exT.length = 4 from rfl] at HO
  rw [x3, show exT.length = 4 from rfl] at HD
  rw [x4, show exT.length = 4 from rfl] at HN
  rw [x5, show exT.length = 4 from rfl] at HV
  clear x1 x2 x3 x4 x5
  go_enter Try.func11, Try.ntmps11
  go_wp2_with (first | (go_at_call 32; refine HEx.out.mono ?_; rintro e w1 ⟨⟨g, rfl, hg, hO⟩, hb1⟩; have hL := hO.links exT_fits) | (go_at_call 14; refine (HE.out _ _ _ hL).mono ?_; rintro e w2 ⟨rfl, hb2⟩; have hL2 := hL.below hb2) | (go_at_call 16; refine (HO.out _ _ _ hL2).mono ?_; rintro e w3 ⟨rfl, hb3⟩; have hL3 := hL2.below hb3) | (go_at_call 18; refine (HD.out _ _ _ hL3).mono ?_; rintro e w4 ⟨rfl, hb4⟩; have hL4 := hL3.below hb4) | (go_at_call 20; refine (HN.out _ _ _ hL4).mono ?_; rintro e w5 ⟨rfl, hb5⟩; have hL5 := hL4.below hb5) | (go_at_call 26; refine (HV.out _ _ _ hL5).mono ?_; rintro e w6 ⟨rfl, hb6⟩))
  go_ret
  have k2 := hb1.trans (hb2.mono hb1.size)
  have k3 := k2.trans (hb3.mono k2.size)
  have k4 := k3.trans (hb4.mono k3.size)
  have k5 := k4.trans (hb5.mono k4.size)
  exact ⟨rfl, k5.trans (hb6.mono k5.size)⟩
end Go.Proofs.Ytbcndmlhbdanaaa
