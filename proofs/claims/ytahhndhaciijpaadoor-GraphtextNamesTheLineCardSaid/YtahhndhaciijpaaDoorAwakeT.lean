/- The example that every law of layer 2 asks again: Parse of a fixed text. -/
import Derived.Test.YtahhndhaciijpaaDoorParseA
namespace Go.Proofs.YtahhndhaciijpaaDoor
open Go.RowKit

def G0 : Gr := ⟨[7, 3], [[(1, 5)], [(0, 5)]]⟩
theorem valid0 : ValidG G0 := by
  refine ⟨by decide, by decide, by decide, fun v hv => ?_, fun v hv => ?_, fun v hv i hi => ?_⟩
  · have : v = 0 ∨ v = 1 := by simp [G0] at hv; omega
    rcases this with rfl | rfl
    · exact ⟨by decide, fun k hk => absurd hk (by omega)⟩
    · exact ⟨by decide, fun k hk => by rw [show k = 0 by omega]; decide⟩
  · have : v = 0 ∨ v = 1 := by simp [G0] at hv; omega
    rcases this with rfl | rfl
    all_goals
      intro i hi
      have h0 : i = 0 := by simp [G0, rowA] at hi; omega
      subst h0
      exact ⟨by decide, by decide, by decide, fun k hk => absurd hk (by omega)⟩
  · have : v = 0 ∨ v = 1 := by simp [G0] at hv; omega
    rcases this with rfl | rfl
    all_goals
      have h0 : i = 0 := by simp [G0, rowA] at hi; omega
      subst h0
      unfold MateOk
      decide
def xs0 : List Node := [(7, [(1, 5)]), (3, [(0, 5)])]
theorem gr0 : grOf xs0 = G0 := rfl
def t0 : Bytes := [110, 111, 100, 101, 32, 55, 32, 49, 47, 53, 10, 110, 111, 100, 101, 32, 51, 32, 48, 47, 53, 10]
theorem fmt0 : fmtText xs0 = t0 := by
  have d0 : decB 0 = [48] := dec_small (by decide)
  have d1 : decB 1 = [49] := dec_small (by decide)
  have d3 : decB 3 = [51] := dec_small (by decide)
  have d5 : decB 5 = [53] := dec_small (by decide)
  have d7 : decB 7 = [55] := dec_small (by decide)
  simp [fmtText, fmtLine, fmtPort, xs0, d0, d1, d3, d5, d7, joinB, nodeW, t0]
theorem text0 : textB t0 = .inr xs0 := by
  rw [← fmt0]
  refine text_fmt (by decide) fun x hx => ?_
  have : x = (7, [(1, 5)]) ∨ x = (3, [(0, 5)]) := by simpa [xs0] using hx
  rcases this with rfl | rfl
  all_goals exact ⟨by decide, fun p hp => by simp at hp; rw [hp]; exact ⟨by decide, by decide⟩⟩
theorem parse0 (w : World) (hg : Gl w) : Calls Tryd.prog 10 #[.string ⟨t0.toArray⟩] w fun e w' => (∃ ia ic pa pc, e = parseRet (.slice ia 2 ic) (.slice pa 2 pc) 0 0 ∧ GraphAt w' ia 2 pa 2 G0) ∧ Below w.heap.size w w' := by
  refine (parseG_any ⟨t0.toArray⟩ w hg).mono ?_
  rintro e w' ⟨h, hb⟩
  have hl : (⟨t0.toArray⟩ : ByteArray).data.toList = t0 := rfl
  have hv : validB (grOf xs0) = true := by rw [gr0]; exact validB_mk valid0
  rw [hl] at h
  refine ⟨?_, hb⟩
  rcases h with ⟨h, _⟩ | ⟨_, k, h, _⟩ | ⟨_, xs, h, h2, _⟩ | ⟨_, xs, h, _, ia, il, ic, pa, pl, pc, rfl, hG⟩
  · simp [t0] at h
  · rw [text0] at h; cases h
  · rw [text0] at h
    obtain rfl : xs0 = xs := by simpa using h
    rw [hv] at h2; cases h2
  · rw [text0] at h
    obtain rfl : xs0 = xs := by simpa using h
    rw [gr0] at hG
    have e1 : il = 2 := hG.il
    have e2 : pl = 2 := hG.pl
    subst e1 e2
    exact ⟨ia, ic, pa, pc, rfl, hG⟩

set_option maxRecDepth 100000 in
set_option maxHeartbeats 1000000 in
theorem awake_any (w : World) (hg : Gl w) : Calls Tryd.prog 9 #[] w fun e w' => e = .returned (.bool true) ∧ Below w.heap.size w w' := by
  have hp := parse0 w hg
  unfold parseRet t0 at hp
  clear hg
  go_enter Tryd.func9, Tryd.ntmps9
  go_wp2_with fail
  refine hp.mono ?_
  rintro e w1 ⟨⟨ia, ic, pa, pc, rfl, hG⟩, hb⟩
  obtain ⟨ib, io, rfl, hib, hic⟩ := hG.ids.row (by decide)
  obtain ⟨pb, po, rfl, hpb, hpc⟩ := hG.ports.row (by decide)
  obtain ⟨la, lc, hla, hLA⟩ := hpc 1 (by decide)
  obtain ⟨lb, lo, rfl, hlb, hlc⟩ := hLA.row (by decide)
  have c1 : (w1.alloc (.cells #[.slice (some ⟨ib, io, none⟩) 2 ic, .slice (some ⟨pb, po, none⟩) 2 pc] 26)).cell? ⟨ib, io, none⟩ = some (.int .i64 7) := by
    rw [cell_push', if_neg (by omega)]; exact hic 0 (by decide)
  have c2 : (w1.alloc (.cells #[.slice (some ⟨ib, io, none⟩) 2 ic, .slice (some ⟨pb, po, none⟩) 2 pc] 26)).cell? ⟨pb, po + 1, none⟩ = some (.slice (some ⟨lb, lo, none⟩) 1 lc) := by
    rw [cell_push', if_neg (by omega)]; exact hla
  have c3 : (w1.alloc (.cells #[.slice (some ⟨ib, io, none⟩) 2 ic, .slice (some ⟨pb, po, none⟩) 2 pc] 26)).cell? ⟨lb, lo + 1, none⟩ = some (.int .i64 5) := by
    rw [cell_push', if_neg (by omega)]
    have e : wtA (rowA G0.ps 1) 0 = 5 := by decide
    have := (hlc 0 (by decide)).2
    rw [e] at this
    simpa using this
  have B := Lib.hid (hb.alloc hb.size (.cells #[.slice (some ⟨ib, io, none⟩) 2 ic, .slice (some ⟨pb, po, none⟩) 2 pc] 26))
  clear hG hic hpc hla hLA hlc hb
  go_wp2
  go_ret
  exact ⟨rfl, B.out⟩
end Go.Proofs.YtahhndhaciijpaaDoor
