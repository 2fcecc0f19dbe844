/- The walk of TypesCheck. -/
import Derived.Test.YtckofngclgkajaaTypR4
import Derived.Test.YtckofngclgkajaaTypAwake
namespace Go.Proofs.Ytckofngclgkajaa
set_option maxRecDepth 100000
open Go.RowKit Go.Maps

/-- LightProgram with its two answers apart -/
theorem lightP_two (p : ProgV) (w : World) (hP : p.At w) : Calls Try.prog 15 #[p.value] w fun e w' => (e = .returned (.bool false) ∨ (e = .returned (.bool true) ∧ p.Few)) ∧ Below w.heap.size w w' :=
  (lightP_any p w hP).mono fun e w' => by
    rintro ⟨⟨b, rfl, h⟩, hb⟩
    cases b with
    | false => exact ⟨.inl rfl, hb⟩
    | true => exact ⟨.inr ⟨rfl, h rfl⟩, hb⟩
set_option maxHeartbeats 8000000 in
theorem typesCheck_walk (W : World) (p : ProgV) (hP : p.At W) :
    Calls Try.prog 4 #[p.value] W fun e W' => e = .returned (.bool true) ∧ Below W.heap.size W W' := by
  have HA := Lib.hid (fun w => awake7_any w)
  have HL := Lib.hid (fun w (h : Below W.heap.size W w) => lightP_two p w (hP.below h))
  have HC := Lib.hid (fun (hf : p.Few) w (h : Below W.heap.size W w) => checkP_any p w (hP.below h) hf)
  have HD := Lib.hid (fun (hf : p.Few) w (h : Below W.heap.size W w) => checkR_any p w (hP.below h) hf)
  have HV := Lib.hid (fun (hf : p.Few) w (h : Below W.heap.size W w) => validP7_any p w (hP.below h) hf)
  have HU := Lib.hid (fun (hf : p.Few) w (h : Below W.heap.size W w) => validR7_any p w (hP.below h) hf)
  generalize decide (checkF p = 0) = y at *
  generalize checkF p = z at *
  have zz : (z == z) = true := by simp
  have yy : (y == y) = true := by simp
  generalize p.Few = PF at *
  unfold ProgV.value at *
  clear hP
  obtain ⟨nm, va, vc, vars, ra, rc, rules⟩ := p
  dsimp only at *
  generalize vars.length = nv at *
  generalize rules.length = nr at *
  have hst : Pbox nm va nv vc ra nr rc W (W.alloc (.cells #[.string nm, .slice va nv vc, .slice ra nr rc] 33)) := Below.refl _ _
  have HSt := Lib.hid hst
  have p0c := hst.c0
  have p1c := hst.c1
  have p2c := hst.c2
  clear hst
  go_enter Try.func4, Try.ntmps4
  go_wp2_with (first
    | (go_at_call 15; refine (HL.out _ HSt.out.bel).mono ?_; rintro e w2 ⟨(rfl | ⟨rfl, hf⟩), hb2⟩ <;> have hB2 := HSt.out.next hb2)
    | (go_at_call 12; refine (HA.out _).mono ?_; rintro e w3 ⟨rfl, hb3⟩; have hB3 := hB2.next hb3))
  · go_ret
    exact ⟨rfl, hB3.bel⟩
  have q0 := hB2.c0
  have q1 := hB2.c1
  have q2 := hB2.c2
  clear p0c p1c p2c hb2
  go_region_held3 (fun w' => w'.cell? ⟨W.heap.size, 0, none⟩ = some (.string nm) ∧ w'.cell? ⟨W.heap.size, 1, none⟩ = some (.slice va nv vc) ∧ w'.cell? ⟨W.heap.size, 2, none⟩ = some (.slice ra nr rc) ∧ Pbox nm va nv vc ra nr rc W w') (first | exact ⟨hB7.c0, hB7.c1, hB7.c2, hB7⟩ | exact ⟨hB6.c0, hB6.c1, hB6.c2, hB6⟩ | exact ⟨hB5.c0, hB5.c1, hB5.c2, hB5⟩ | exact ⟨hB4.c0, hB4.c1, hB4.c2, hB4⟩ | exact ⟨hB3.c0, hB3.c1, hB3.c2, hB3⟩ | exact ⟨q0, q1, q2, hB2⟩ | exact ⟨q0, q1, q2, hB2.drew _⟩) ((first
    | (go_at_call 12; refine (HA.out _).mono ?_; rintro e w3 ⟨rfl, hb3⟩; have hB3 := (show Pbox nm va nv vc ra nr rc W w3 from by first | exact hB2.next hb3 | exact (hB2.drew _).next hb3))
    | (go_at_call 16; refine (HC.out hf _ hB3.bel).mono ?_; rintro e w4 ⟨rfl, hb4⟩; have hB4 := hB3.next hb4)
    | (go_at_call 17; refine (HD.out hf _ hB4.bel).mono ?_; rintro e w5 ⟨rfl, hb5⟩; have hB5 := hB4.next hb5)
    | (go_at_call 18; refine (HV.out hf _ hB5.bel).mono ?_; rintro e w6 ⟨rfl, hb6⟩; have hB6 := hB5.next hb6)
    | (go_at_call 19; refine (HU.out hf _ hB6.bel).mono ?_; rintro e w7 ⟨rfl, hb7⟩; have hB7 := hB6.next hb7)))
  go_wp2_with fail
  go_ret
  exact ⟨rfl, hB7.bel⟩
end Go.Proofs.Ytckofngclgkajaa
