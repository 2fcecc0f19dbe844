/- A graph under construction: a struct's two cells, a row of numbers, a row of slice headers and rows of links, all of them the call's own and apart from each other. -/
import Derived.Test.YtfbbkiibhdgojaaParse0
import Derived.Test.YtfbbkiibhdgojaaKeep
namespace Go.Proofs.Ytfbbkiibhdgojaa
open Go.RowKit

theorem infoHdr : (Try.prog.info? 38).map (fun i => (i.zero, i.size, i.bytes)) = some (some (.slice none 0 0), 1, 24) := by kernel_rfl
theorem infoLnk : (Try.prog.info? 41).map (fun i => (i.zero, i.size, i.bytes)) = some (some (.agg #[.int .i64 0, .int .i64 0]), 2, 16) := by kernel_rfl
theorem results_c {fn : Func} {p : Tmp} {ty : TypeId} (h : fn.results = #[.cell p ty]) (tmps : Array Value) (P : Program) (w : World) :
    (results fn tmps).run P w = ((asAddr (tmps.getD p undef)).run P w).andThen fun a w₁ => (loadVar ty a).run P w₁ := by
  simp only [results, h]
  simp [Sem.run_bind, Result.andThen]
theorem results_c1 {fn : Func} {p u : Tmp} {ty : TypeId} (h : fn.results = #[.cell p ty, .tmp u]) (tmps : Array Value) (P : Program) (w : World) :
    (results fn tmps).run P w = ((asAddr (tmps.getD p undef)).run P w).andThen fun a w₁ => ((loadVar ty a).run P w₁).andThen fun x w₂ => .ok (.tuple #[x, tmps.getD u undef]) w₂ := by
  simp only [results, h]
  simp [Sem.run_bind, Result.andThen]
theorem cell_push0 (w : World) (c : Array Value) (t : TypeId) (b i : Nat) : (w.alloc (.cells c t)).cell? ⟨b, i, none⟩ = if b = w.heap.size then c[i]? else w.cell? ⟨b, i, none⟩ := by
  split
  · rename_i h; rw [h]; exact World.cell?_alloc_new w c t i
  · rename_i h; exact World.cell?_alloc_old w _ _ h
theorem free_push0 (w : World) (c : Array Value) (t : TypeId) (b i : Nat) : (w.alloc (.cells c t)).frozen? ⟨b, i, none⟩ = if b = w.heap.size then false else w.frozen? ⟨b, i, none⟩ := by
  split
  · rename_i h; rw [h]; exact World.frozen?_alloc_new w c t i
  · rename_i h; exact World.frozen?_alloc_old w _ _ h

/-! ### Rows of the call's own, apart from each other -/
structure Rw where
  v : Value
  t : TypeId
  s : Nat
  n : Nat
  xs : List Value
def Rw.Held (r : Rw) (B : Nat) (w : World) : Prop := w.ownsRow B r.t r.s r.v r.n r.xs
def apartV (a b : Value) : Prop := a.ownBlock = none ∨ a.ownBlock ≠ b.ownBlock
structure Apart (B : Nat) (w : World) (rs : List Rw) : Prop where
  own : ∀ r ∈ rs, r.Held B w
  sep : rs.Pairwise fun a b => apartV a.v b.v

theorem apartV.symm {a b : Value} (h : apartV a b) : apartV b a := by
  unfold apartV at *
  rcases h with h | h
  · rw [h]; exact own_ne
  · exact .inr (Ne.symm h)
theorem Apart.far {B : Nat} {w w' : World} {row : Option Nat} {rs : List Rw} (h : Apart B w rs) (hg : w.grownBy w' row) (hne : ∀ r ∈ rs, r.v.ownBlock = none ∨ r.v.ownBlock ≠ row) : Apart B w' rs :=
  ⟨fun r hr => World.ownsRow.kept (h.own r hr) hg (hne r hr), h.sep⟩
theorem apart_new {x r' : Value} {r : Value} {n : Nat} (hx : ∀ k, x.ownBlock = some k → k < n) (h : apartV x r) (hat : ∀ g, r'.ownBlock = some g → r.ownBlock = some g ∨ n ≤ g) : apartV x r' := by
  unfold apartV at *
  cases hb : x.ownBlock with
  | none => exact .inl rfl
  | some k =>
    refine .inr fun e => ?_
    rw [hb] at h
    rcases hat k e.symm with e2 | e2
    · rcases h with h | h
      · cases h
      · exact h e2.symm
    · have := hx k hb
      omega
/-- one of them turns into another: in its own block, or in a new one -/
theorem Apart.turn {B : Nat} {w w' : World} {fs bs : List Rw} {r r' : Rw} (h : Apart B w (fs ++ r :: bs)) (hg : w.grownBy w' r.v.ownBlock) (ho : r'.Held B w')
    (hat : ∀ g, r'.v.ownBlock = some g → r.v.ownBlock = some g ∨ w.heap.size ≤ g) : Apart B w' (fs ++ r' :: bs) := by
  have hs := h.sep
  rw [List.pairwise_append, List.pairwise_cons] at hs
  obtain ⟨h1, ⟨h2, h3⟩, h4⟩ := hs
  have lt : ∀ x, x ∈ fs ++ r :: bs → ∀ k, x.v.ownBlock = some k → k < w.heap.size := fun x hx k hk => (World.ownsRow.lt (h.own x hx) k hk).2
  refine ⟨fun x hx => ?_, ?_⟩
  · rcases List.mem_append.1 hx with hx | hx
    · exact World.ownsRow.kept (h.own x (by simp [hx])) hg (h4 x hx r (by simp))
    · rcases List.mem_cons.1 hx with rfl | hx
      · exact ho
      · exact World.ownsRow.kept (h.own x (by simp [hx])) hg (h2 x hx).symm
  · rw [List.pairwise_append, List.pairwise_cons]
    refine ⟨h1, ⟨fun x hx => ?_, h3⟩, fun x hx y hy => ?_⟩
    · exact (apart_new (lt x (by simp [hx])) (h2 x hx).symm hat).symm
    · rcases List.mem_cons.1 hy with rfl | hy
      · exact apart_new (lt x (by simp [hx])) (h4 x hx r (by simp)) hat
      · exact h4 x hx y (by simp [hy])
/-- a row turns where it lies -/
theorem Apart.same {B : Nat} {w : World} {fs bs : List Rw} {r r' : Rw} (h : Apart B w (fs ++ r :: bs)) (ho : r'.Held B w) (hat : ∀ g, r'.v.ownBlock = some g → ∀ x ∈ fs ++ bs, x.v.ownBlock ≠ some g) : Apart B w (fs ++ r' :: bs) := by
  have hs := h.sep
  rw [List.pairwise_append, List.pairwise_cons] at hs
  obtain ⟨h1, ⟨h2, h3⟩, h4⟩ := hs
  have ap : ∀ x ∈ fs ++ bs, apartV r'.v x.v := fun x hx => by
    unfold apartV
    cases hb : r'.v.ownBlock with
    | none => exact .inl rfl
    | some k => exact .inr (Ne.symm (hat k hb x hx))
  refine ⟨fun x hx => ?_, ?_⟩
  · rcases List.mem_append.1 hx with hx | hx
    · exact h.own x (by simp [hx])
    · rcases List.mem_cons.1 hx with rfl | hx
      · exact ho
      · exact h.own x (by simp [hx])
  · rw [List.pairwise_append, List.pairwise_cons]
    refine ⟨h1, ⟨fun x hx => ap x (by simp [hx]), h3⟩, fun x hx y hy => ?_⟩
    rcases List.mem_cons.1 hy with rfl | hy
    · exact (ap x (by simp [hx])).symm
    · exact h4 x hx y (by simp [hy])
theorem Apart.sub {B : Nat} {w : World} {r : Rw} {rs : List Rw} (h : Apart B w (r :: rs)) : Apart B w rs :=
  ⟨fun x hx => h.own x (by simp [hx]), (List.pairwise_cons.1 h.sep).2⟩

/-! ### The rows of a graph -/
def intsV (zs : List Int) : List Value := zs.map fun z => .int .i64 z
def linkVs (ps : List (Int × Int)) : List Value := ps.flatMap fun p => [.int .i64 p.1, .int .i64 p.2]
theorem linkVs_len : ∀ ps : List (Int × Int), (linkVs ps).length = ps.length * 2
  | [] => rfl
  | p :: ps => by
    have := linkVs_len ps
    unfold linkVs at this ⊢
    simp [List.flatMap_cons, this]
    omega
theorem linkVs_snoc (ps : List (Int × Int)) (p : Int × Int) : linkVs (ps ++ [p]) = linkVs ps ++ [.int .i64 p.1, .int .i64 p.2] := by simp [linkVs]
theorem linkVs_at : ∀ {ps : List (Int × Int)} {i : Nat}, i < ps.length → (linkVs ps)[i * 2]? = some (.int .i64 (toA ps i)) ∧ (linkVs ps)[i * 2 + 1]? = some (.int .i64 (wtA ps i))
  | p :: ps, 0, _ => ⟨rfl, rfl⟩
  | p :: ps, i + 1, h => by
    have ih := linkVs_at (ps := ps) (i := i) (by simpa using h)
    have e : linkVs (p :: ps) = .int .i64 p.1 :: .int .i64 p.2 :: linkVs ps := rfl
    rw [e, show (i + 1) * 2 = i * 2 + 1 + 1 by omega]
    simp only [List.getElem?_cons_succ]
    simpa [toA, wtA] using ih
def idsR (v : Value) (zs : List Int) : Rw := ⟨v, 3, 1, zs.length, intsV zs⟩
def hdrR (v : Value) (hs : List Value) : Rw := ⟨v, 38, 1, hs.length, hs⟩
def lnkR (u : Value × List (Int × Int)) : Rw := ⟨u.1, 41, 2, u.2.length, linkVs u.2⟩
def LinkOwn (B : Nat) (w : World) (u : Value × List (Int × Int)) : Prop := (lnkR u).Held B w

theorem lnk_mem {a b : Rw} {us : List (Value × List (Int × Int))} {u : Value × List (Int × Int)} (h : u ∈ us) : lnkR u ∈ a :: b :: us.map lnkR := List.mem_cons_of_mem _ (List.mem_cons_of_mem _ (List.mem_map.2 ⟨u, h, rfl⟩))

/-- Behind W: the struct at block gb holds x1 and x2; v1 is the row zs, v2 the row hs of slice headers; us are rows of links; all apart. -/
structure Made (W : World) (gb : Nat) (w : World) (x1 x2 v1 : Value) (zs : List Int) (v2 : Value) (hs : List Value) (us : List (Value × List (Int × Int))) : Prop where
  fr : Below W.heap.size W w
  hB : W.heap.size ≤ gb
  c0 : w.cell? ⟨gb, 0, none⟩ = some x1
  c1 : w.cell? ⟨gb, 1, none⟩ = some x2
  f0 : w.frozen? ⟨gb, 0, none⟩ = false
  f1 : w.frozen? ⟨gb, 1, none⟩ = false
  rows : Apart W.heap.size w (idsR v1 zs :: hdrR v2 hs :: us.map lnkR)
  far : ∀ r ∈ idsR v1 zs :: hdrR v2 hs :: us.map lnkR, r.v.ownBlock ≠ some gb

section
variable {W w w' : World} {gb : Nat} {x1 x2 v1 v2 : Value} {zs : List Int} {hs : List Value} {us : List (Value × List (Int × Int))}

theorem Made.gt (h : Made W gb w x1 x2 v1 zs v2 hs us) : gb < w.heap.size := cell_lt h.c0
theorem Made.drew (h : Made W gb w x1 x2 v1 zs v2 hs us) : Made W gb w.drew x1 x2 v1 zs v2 hs us :=
  ⟨⟨h.fr.os, h.fr.tape, h.fr.output, h.fr.size, h.fr.block⟩, h.hB, h.c0, h.c1, h.f0, h.f1, ⟨fun r hr => h.rows.own r hr, h.rows.sep⟩, h.far⟩
/-- what doesn't turn the box nor a row -/
theorem Made.kept {row : Option Nat} (h : Made W gb w x1 x2 v1 zs v2 hs us) (hg : w.grownBy w' row) (hr : ∀ k, row = some k → W.heap.size ≤ k) (hb : row ≠ some gb) (hne : ∀ r ∈ idsR v1 zs :: hdrR v2 hs :: us.map lnkR, r.v.ownBlock = none ∨ r.v.ownBlock ≠ row) : Made W gb w' x1 x2 v1 zs v2 hs us :=
  ⟨h.fr.grown hg h.fr.size hr, h.hB, hg.cell h.c0 (Ne.symm hb), hg.cell h.c1 (Ne.symm hb), (hg.frozen_far ⟨gb, 0, none⟩ h.gt (Ne.symm hb)).trans h.f0, (hg.frozen_far ⟨gb, 1, none⟩ h.gt (Ne.symm hb)).trans h.f1, h.rows.far hg hne, h.far⟩
theorem Made.below (h : Made W gb w x1 x2 v1 zs v2 hs us) (hb : Below w.heap.size w w') : Made W gb w' x1 x2 v1 zs v2 hs us :=
  h.kept (row := none) ⟨hb.os, hb.tape, hb.output, hb.size, fun k hk _ => hb.block k hk⟩ (fun k e => by cases e) (by simp) (fun r _ => own_ne)
theorem Made.alloc (h : Made W gb w x1 x2 v1 zs v2 hs us) (o : Obj) : Made W gb (w.alloc o) x1 x2 v1 zs v2 hs us := h.below ((Below.refl _ _).alloc (Nat.le_refl _) o)
theorem Made.ids (h : Made W gb w x1 x2 v1 zs v2 hs us) : w.ownsRow W.heap.size 3 1 v1 zs.length (intsV zs) := h.rows.own (idsR v1 zs) (by simp)
theorem Made.hdr (h : Made W gb w x1 x2 v1 zs v2 hs us) : w.ownsRow W.heap.size 38 1 v2 hs.length hs := h.rows.own (hdrR v2 hs) (by simp)
theorem Made.lnk (h : Made W gb w x1 x2 v1 zs v2 hs us) {u : Value × List (Int × Int)} (hu : u ∈ us) : LinkOwn W.heap.size w u := h.rows.own (lnkR u) (lnk_mem hu)

theorem us_split {i : Nat} (hi : i < us.length) : us = us.take i ++ us[i] :: us.drop (i + 1) := by
  rw [← List.drop_eq_getElem_cons hi, List.take_append_drop]
theorem us_set {i : Nat} (hi : i < us.length) (u : Value × List (Int × Int)) : us.set i u = us.take i ++ u :: us.drop (i + 1) := by
  rw [List.set_eq_take_append_cons_drop, if_pos hi]
/-- a row of links turns into another: in its own block, or in a new one -/
theorem Made.turn {i : Nat} (h : Made W gb w x1 x2 v1 zs v2 hs us) (hi : i < us.length) (u : Value × List (Int × Int)) (hg : w.grownBy w' us[i].1.ownBlock) (ho : LinkOwn W.heap.size w' u)
    (hat : ∀ g, u.1.ownBlock = some g → us[i].1.ownBlock = some g ∨ w.heap.size ≤ g) : Made W gb w' x1 x2 v1 zs v2 hs (us.set i u) := by
  have hm : lnkR us[i] ∈ idsR v1 zs :: hdrR v2 hs :: us.map lnkR := lnk_mem (List.getElem_mem hi)
  have hfar := h.far _ hm
  have hlt := h.gt
  have e1 : idsR v1 zs :: hdrR v2 hs :: us.map lnkR = (idsR v1 zs :: hdrR v2 hs :: (us.take i).map lnkR) ++ lnkR us[i] :: (us.drop (i + 1)).map lnkR := by
    have : us.map lnkR = (us.take i ++ us[i] :: us.drop (i + 1)).map lnkR := by rw [← us_split hi]
    rw [this, List.map_append, List.map_cons]; rfl
  have e2 : idsR v1 zs :: hdrR v2 hs :: (us.set i u).map lnkR = (idsR v1 zs :: hdrR v2 hs :: (us.take i).map lnkR) ++ lnkR u :: (us.drop (i + 1)).map lnkR := by
    rw [us_set hi, List.map_append, List.map_cons]; rfl
  have hr : ∀ k, us[i].1.ownBlock = some k → W.heap.size ≤ k := fun k hk => (World.ownsRow.lt (h.rows.own _ hm) k hk).1
  have hb : us[i].1.ownBlock ≠ some gb := hfar
  refine ⟨h.fr.grown hg h.fr.size hr, h.hB, hg.cell h.c0 (Ne.symm hb), hg.cell h.c1 (Ne.symm hb), (hg.frozen_far ⟨gb, 0, none⟩ hlt (Ne.symm hb)).trans h.f0, (hg.frozen_far ⟨gb, 1, none⟩ hlt (Ne.symm hb)).trans h.f1, ?_, fun r hr' => ?_⟩
  · have hrw := h.rows
    rw [e1] at hrw
    rw [e2]
    exact hrw.turn hg ho hat
  · rw [e2] at hr'
    rcases List.mem_append.1 hr' with hr' | hr'
    · exact h.far r (by rw [e1]; exact List.mem_append.2 (.inl hr'))
    · rcases List.mem_cons.1 hr' with rfl | hr'
      · intro e
        rcases hat gb e with e3 | e3
        · exact hb e3
        · omega
      · exact h.far r (by rw [e1]; exact List.mem_append.2 (.inr (List.mem_cons_of_mem _ hr')))
/-- a header is stored -/
theorem Made.store {hb n cap : Nat} (h : Made W gb w x1 x2 v1 zs (.slice (some ⟨hb, 0, none⟩) n cap) hs us) (i : Nat) (u : Value) : Made W gb (w.setCell ⟨hb, i, none⟩ u) x1 x2 v1 zs (.slice (some ⟨hb, 0, none⟩) n cap) (hs.set i u) us := by
  have hh := h.hdr
  obtain ⟨_, _, e, _⟩ := own_slice hh
  have hn : n = hs.length := by simpa using congrArg (fun v => match v with | .slice _ k _ => k | _ => 0) e
  subst hn
  obtain ⟨hs1, hg⟩ := World.ownsRow.stored hh i u
  have hlt := h.gt
  have hne : some hb ≠ some gb := h.far (hdrR (.slice (some ⟨hb, 0, none⟩) hs.length cap) hs) (by simp)
  have e1 : ∀ hs, idsR v1 zs :: hdrR (.slice (some ⟨hb, 0, none⟩) hs.length cap) hs :: us.map lnkR = [idsR v1 zs] ++ hdrR (.slice (some ⟨hb, 0, none⟩) hs.length cap) hs :: us.map lnkR := fun _ => rfl
  have el : (hs.set i u).length = hs.length := by simp
  refine ⟨h.fr.grown hg h.fr.size (fun k hk => by injection hk with hk; subst hk; exact (World.ownsRow.lt hh _ rfl).1), h.hB, hg.cell h.c0 (Ne.symm hne), hg.cell h.c1 (Ne.symm hne), (hg.frozen_far ⟨gb, 0, none⟩ hlt (Ne.symm hne)).trans h.f0, (hg.frozen_far ⟨gb, 1, none⟩ hlt (Ne.symm hne)).trans h.f1, ?_, ?_⟩
  · have hrw : Apart W.heap.size w ([idsR v1 zs] ++ hdrR (.slice (some ⟨hb, 0, none⟩) hs.length cap) hs :: us.map lnkR) := h.rows
    exact hrw.turn (r' := hdrR (.slice (some ⟨hb, 0, none⟩) hs.length cap) (hs.set i u)) hg (by unfold Rw.Held hdrR; rw [el]; exact hs1) (fun g e => .inl e)
  · intro r hr
    rcases List.mem_cons.1 hr with rfl | hr
    · exact h.far _ (by simp)
    · rcases List.mem_cons.1 hr with rfl | hr
      · exact h.far (hdrR (.slice (some ⟨hb, 0, none⟩) hs.length cap) hs) (by simp)
      · exact h.far r (by simp at hr ⊢; exact .inr (.inr hr))
/-- a number is stored -/
theorem Made.setId {ib n cap : Nat} (h : Made W gb w x1 x2 (.slice (some ⟨ib, 0, none⟩) n cap) zs v2 hs us) (i : Nat) (z : Int) : Made W gb (w.setCell ⟨ib, i, none⟩ (.int .i64 z)) x1 x2 (.slice (some ⟨ib, 0, none⟩) n cap) (zs.set i z) v2 hs us := by
  have hh := h.ids
  obtain ⟨_, _, e, _⟩ := own_slice hh
  have hn : n = zs.length := by simpa using congrArg (fun v => match v with | .slice _ k _ => k | _ => 0) e
  subst hn
  obtain ⟨hs1, hg⟩ := World.ownsRow.stored hh i (.int .i64 z)
  have hlt := h.gt
  have hne : some ib ≠ some gb := h.far (idsR (.slice (some ⟨ib, 0, none⟩) zs.length cap) zs) (by simp)
  have el : (zs.set i z).length = zs.length := by simp
  have ev : intsV (zs.set i z) = (intsV zs).set i (.int .i64 z) := by unfold intsV; rw [List.map_set]
  refine ⟨h.fr.grown hg h.fr.size (fun k hk => by injection hk with hk; subst hk; exact (World.ownsRow.lt hh _ rfl).1), h.hB, hg.cell h.c0 (Ne.symm hne), hg.cell h.c1 (Ne.symm hne), (hg.frozen_far ⟨gb, 0, none⟩ hlt (Ne.symm hne)).trans h.f0, (hg.frozen_far ⟨gb, 1, none⟩ hlt (Ne.symm hne)).trans h.f1, ?_, ?_⟩
  · have hrw : Apart W.heap.size w ([] ++ idsR (.slice (some ⟨ib, 0, none⟩) zs.length cap) zs :: hdrR v2 hs :: us.map lnkR) := h.rows
    exact hrw.turn (r' := idsR (.slice (some ⟨ib, 0, none⟩) zs.length cap) (zs.set i z)) hg (by unfold Rw.Held idsR; rw [el, ev]; exact hs1) (fun g e => .inl e)
  · intro r hr
    rcases List.mem_cons.1 hr with rfl | hr
    · exact h.far (idsR (.slice (some ⟨ib, 0, none⟩) zs.length cap) zs) (by simp)
    · exact h.far r (by simp at hr ⊢; exact .inr hr)

/-- the row of numbers turns into another -/
theorem Made.turnIds {v : Value} {ys : List Int} (h : Made W gb w x1 x2 v1 zs v2 hs us) (hg : w.grownBy w' v1.ownBlock) (ho : (idsR v ys).Held W.heap.size w') (hat : ∀ g, v.ownBlock = some g → v1.ownBlock = some g ∨ w.heap.size ≤ g) : Made W gb w' x1 x2 v ys v2 hs us := by
  have hm : idsR v1 zs ∈ idsR v1 zs :: hdrR v2 hs :: us.map lnkR := by simp
  have hb : v1.ownBlock ≠ some gb := h.far _ hm
  have hlt := h.gt
  refine ⟨h.fr.grown hg h.fr.size (fun k hk => (World.ownsRow.lt (h.rows.own _ hm) k hk).1), h.hB, hg.cell h.c0 (Ne.symm hb), hg.cell h.c1 (Ne.symm hb), (hg.frozen_far ⟨gb, 0, none⟩ hlt (Ne.symm hb)).trans h.f0, (hg.frozen_far ⟨gb, 1, none⟩ hlt (Ne.symm hb)).trans h.f1, ?_, fun r hr => ?_⟩
  · have hrw : Apart W.heap.size w ([] ++ idsR v1 zs :: hdrR v2 hs :: us.map lnkR) := h.rows
    exact hrw.turn (r' := idsR v ys) hg ho hat
  · rcases List.mem_cons.1 hr with rfl | hr
    · intro e
      rcases hat gb e with e3 | e3
      · exact hb e3
      · omega
    · exact h.far r (List.mem_cons_of_mem _ hr)
/-- the row of headers turns into another -/
theorem Made.turnHdr {v : Value} {ks : List Value} (h : Made W gb w x1 x2 v1 zs v2 hs us) (hg : w.grownBy w' v2.ownBlock) (ho : (hdrR v ks).Held W.heap.size w') (hat : ∀ g, v.ownBlock = some g → v2.ownBlock = some g ∨ w.heap.size ≤ g) : Made W gb w' x1 x2 v1 zs v ks us := by
  have hm : hdrR v2 hs ∈ idsR v1 zs :: hdrR v2 hs :: us.map lnkR := by simp
  have hb : v2.ownBlock ≠ some gb := h.far _ hm
  have hlt := h.gt
  refine ⟨h.fr.grown hg h.fr.size (fun k hk => (World.ownsRow.lt (h.rows.own _ hm) k hk).1), h.hB, hg.cell h.c0 (Ne.symm hb), hg.cell h.c1 (Ne.symm hb), (hg.frozen_far ⟨gb, 0, none⟩ hlt (Ne.symm hb)).trans h.f0, (hg.frozen_far ⟨gb, 1, none⟩ hlt (Ne.symm hb)).trans h.f1, ?_, fun r hr => ?_⟩
  · have hrw : Apart W.heap.size w ([idsR v1 zs] ++ hdrR v2 hs :: us.map lnkR) := h.rows
    exact hrw.turn (r' := hdrR v ks) hg ho hat
  · rcases List.mem_cons.1 hr with rfl | hr
    · exact h.far _ (by simp)
    · rcases List.mem_cons.1 hr with rfl | hr
      · intro e
        rcases hat gb e with e3 | e3
        · exact hb e3
        · omega
      · exact h.far r (List.mem_cons_of_mem _ (List.mem_cons_of_mem _ hr))
/-- a number is appended -/
theorem Made.app1 {z : Int} {g n cap : Nat} (h : Made W gb w x1 x2 v1 zs v2 hs us) (hn : n = zs.length + 1) (hown : w'.ownsRow W.heap.size 3 1 (.slice (some ⟨g, 0, none⟩) n cap) n (intsV zs ++ [.int .i64 z])) (hg : w.grownBy w' v1.ownBlock) (hat : v1.ownBlock = some g ∨ g = w.heap.size) :
    Made W gb w' x1 x2 (.slice (some ⟨g, 0, none⟩) n cap) (zs ++ [z]) v2 hs us := by
  subst hn
  refine h.turnIds hg ?_ (fun g' e => ?_)
  · unfold Rw.Held idsR
    have e : intsV (zs ++ [z]) = intsV zs ++ [.int .i64 z] := by simp [intsV]
    simp only [e, List.length_append, List.length_cons, List.length_nil]
    exact hown
  · obtain rfl : g = g' := by simpa [Value.ownBlock] using e
    exact hat.imp id (fun e => Nat.le_of_eq e.symm)
/-- a header is appended -/
theorem Made.app2 {u : Value} {g n cap : Nat} (h : Made W gb w x1 x2 v1 zs v2 hs us) (hn : n = hs.length + 1) (hown : w'.ownsRow W.heap.size 38 1 (.slice (some ⟨g, 0, none⟩) n cap) n (hs ++ [u])) (hg : w.grownBy w' v2.ownBlock) (hat : v2.ownBlock = some g ∨ g = w.heap.size) :
    Made W gb w' x1 x2 v1 zs (.slice (some ⟨g, 0, none⟩) n cap) (hs ++ [u]) us := by
  subst hn
  refine h.turnHdr hg ?_ (fun g' e => ?_)
  · unfold Rw.Held hdrR
    simp only [List.length_append, List.length_cons, List.length_nil]
    exact hown
  · obtain rfl : g = g' := by simpa [Value.ownBlock] using e
    exact hat.imp id (fun e => Nat.le_of_eq e.symm)
/-- a link is appended to row i -/
theorem Made.appL {i : Nat} {p : Int × Int} {g n cap : Nat} {u : Value} {xs : List (Int × Int)} (h : Made W gb w x1 x2 v1 zs v2 hs us) (hi : us[i]? = some (u, xs)) (hn : n = xs.length + 1) (hown : w'.ownsRow W.heap.size 41 2 (.slice (some ⟨g, 0, none⟩) n cap) n (linkVs xs ++ [.int .i64 p.1, .int .i64 p.2])) (hg : w.grownBy w' u.ownBlock) (hat : u.ownBlock = some g ∨ g = w.heap.size) :
    Made W gb w' x1 x2 v1 zs v2 hs (us.set i (.slice (some ⟨g, 0, none⟩) n cap, xs ++ [p])) := by
  subst hn
  obtain ⟨hlt, hu⟩ := List.getElem?_eq_some_iff.1 hi
  refine h.turn hlt _ (by rw [hu]; exact hg) ?_ (fun g' e => ?_)
  · unfold LinkOwn Rw.Held lnkR
    simp only [linkVs_snoc, List.length_append, List.length_cons, List.length_nil]
    exact hown
  · obtain rfl : g = g' := by simpa [Value.ownBlock] using e
    rw [hu]
    exact hat.imp id (fun e => Nat.le_of_eq e.symm)
/-- row i is a new literal -/
theorem Made.litL {i : Nat} {b n : Nat} {xs : List (Int × Int)} (h : Made W gb w x1 x2 v1 zs v2 hs us) (hi : i < us.length) (hn : n = xs.length) (cs : Array Value) (hc : cs.toList = linkVs xs) (hb : b = w.heap.size) (hm : xs.length ≤ maxLen) :
    Made W gb (w.alloc (.cells cs 41)) x1 x2 v1 zs v2 hs (us.set i (.slice (some ⟨b, 0, none⟩) n n, xs)) := by
  subst hn hb
  refine h.turn hi _ (World.grownBy_alloc w _ _) ?_ (fun g' e => ?_)
  · have hs : cs.size = xs.length * 2 := by rw [← Array.length_toList, hc, linkVs_len]
    have := World.ownsRow_lit (base := W.heap.size) (e := 41) w cs xs.length h.fr.size hm hs
    rw [hc] at this
    exact this
  · obtain rfl : w.heap.size = g' := by simpa [Value.ownBlock] using e
    exact .inr (Nat.le_refl _)
/-- one row of links more, which no other holds -/
theorem Made.add {u : Value × List (Int × Int)} (h : Made W gb w x1 x2 v1 zs v2 hs us) (ho : LinkOwn W.heap.size w u) (hu : u.1.ownBlock ≠ some gb) (hn : ∀ r ∈ idsR v1 zs :: hdrR v2 hs :: us.map lnkR, apartV r.v u.1) : Made W gb w x1 x2 v1 zs v2 hs (us ++ [u]) := by
  have e : idsR v1 zs :: hdrR v2 hs :: (us ++ [u]).map lnkR = (idsR v1 zs :: hdrR v2 hs :: us.map lnkR) ++ [lnkR u] := by simp
  refine ⟨h.fr, h.hB, h.c0, h.c1, h.f0, h.f1, ?_, fun r hr => ?_⟩
  · rw [e]
    refine ⟨fun r hr => ?_, ?_⟩
    · rcases List.mem_append.1 hr with hr | hr
      · exact h.rows.own r hr
      · obtain rfl : r = lnkR u := by simpa using hr
        exact ho
    · rw [List.pairwise_append]
      exact ⟨h.rows.sep, by simp, fun a ha b hb => by obtain rfl : b = lnkR u := by simpa using hb
                                                      exact hn a ha⟩
  · rw [e] at hr
    rcases List.mem_append.1 hr with hr | hr
    · exact h.far r hr
    · obtain rfl : r = lnkR u := by simpa using hr
      exact hu
/-- a field of the struct is stored -/
theorem Made.put0 (h : Made W gb w x1 x2 v1 zs v2 hs us) (y : Value) : Made W gb (w.setCell ⟨gb, 0, none⟩ y) y x2 v1 zs v2 hs us := by
  have hg := grown_set w gb 0 y
  refine ⟨h.fr.grown hg h.fr.size (fun k hk => by injection hk with hk; subst hk; exact h.hB), h.hB, set_same h.c0, (set_other (by intro e; injection e with _ e; omega)).trans h.c1, by rw [World.frozen?_setCell]; exact h.f0, by rw [World.frozen?_setCell]; exact h.f1, h.rows.far hg (fun r hr => .inr (h.far r hr)), h.far⟩
theorem Made.put1 (h : Made W gb w x1 x2 v1 zs v2 hs us) (y : Value) : Made W gb (w.setCell ⟨gb, 1, none⟩ y) x1 y v1 zs v2 hs us := by
  have hg := grown_set w gb 1 y
  refine ⟨h.fr.grown hg h.fr.size (fun k hk => by injection hk with hk; subst hk; exact h.hB), h.hB, (set_other (by intro e; injection e with _ e; omega)).trans h.c0, set_same h.c1, by rw [World.frozen?_setCell]; exact h.f0, by rw [World.frozen?_setCell]; exact h.f1, h.rows.far hg (fun r hr => .inr (h.far r hr)), h.far⟩
/-- a new struct about rows that are there -/
theorem Made.box {z1 z2 : Value} {t : TypeId} (h : Apart W.heap.size w (idsR v1 zs :: hdrR v2 hs :: us.map lnkR)) (hb : Below W.heap.size W w) : Made W w.heap.size (w.alloc (.cells #[z1, z2] t)) z1 z2 v1 zs v2 hs us := by
  have ne : ∀ r ∈ idsR v1 zs :: hdrR v2 hs :: us.map lnkR, r.v.ownBlock ≠ some w.heap.size := fun r hr e => by
    have := (World.ownsRow.lt (h.own r hr) _ e).2
    omega
  exact ⟨hb.alloc hb.size _, hb.size, by simp [cell_push0], by simp [cell_push0], by simp [free_push0], by simp [free_push0], h.far (World.grownBy_alloc w _ none) (fun r _ => own_ne), ne⟩

theorem Apart.mono {B B' : Nat} {rs : List Rw} (h : Apart B w rs) (hB : B' ≤ B) : Apart B' w rs := ⟨fun r hr => Go.Joins.ownsRow_le (h.own r hr) hB, h.sep⟩
/-- the result's struct, older than all this, is stored -/
theorem Made.done {r : Nat} (h : Made W gb w x1 x2 v1 zs v2 hs us) (hr : r < W.heap.size) (u0 u1 : Value) : Apart W.heap.size ((w.setCell ⟨r, 0, none⟩ u0).setCell ⟨r, 1, none⟩ u1) (idsR v1 zs :: hdrR v2 hs :: us.map lnkR) :=
  h.rows.far ((grown_set w r 0 u0).trans (grown_set _ r 1 u1)) (fun x hx => own_far (h.rows.own x hx) hr)
theorem Made.back {r : Nat} {w0 : World} (h : Made W gb w x1 x2 v1 zs v2 hs us) (hW : Below w0.heap.size w0 W) (hr : w0.heap.size ≤ r) (u0 u1 : Value) : Below w0.heap.size w0 ((w.setCell ⟨r, 0, none⟩ u0).setCell ⟨r, 1, none⟩ u1) :=
  ((hW.trans (h.fr.mono hW.size)).setCell hr _).setCell hr _

/-! ### What is read -/
theorem Made.hdrCell {hb n cap : Nat} (h : Made W gb w x1 x2 v1 zs (.slice (some ⟨hb, 0, none⟩) n cap) hs us) {i : Nat} {u : Value} (hu : hs[i]? = some u) : w.cell? ⟨hb, i, none⟩ = some u := by
  have := World.ownsRow.cells h.hdr (g := hb) rfl i u hu
  rwa [add_none, Nat.zero_add] at this
theorem Made.hdrFree {hb n cap : Nat} (h : Made W gb w x1 x2 v1 zs (.slice (some ⟨hb, 0, none⟩) n cap) hs us) (i : Nat) : w.frozen? ⟨hb, i, none⟩ = false := by
  have hh := h.hdr
  obtain ⟨_, _, e, _⟩ := own_slice hh
  have hn : n = hs.length := by simpa using congrArg (fun v => match v with | .slice _ k _ => k | _ => 0) e
  subst hn
  exact World.ownsRow.frozenAt hh i
theorem Made.idCell {ib n cap : Nat} (h : Made W gb w x1 x2 (.slice (some ⟨ib, 0, none⟩) n cap) zs v2 hs us) {i : Nat} (hi : i < zs.length) : w.cell? ⟨ib, i, none⟩ = some (.int .i64 (idA zs i)) := by
  have := World.ownsRow.cells h.ids (g := ib) rfl i (.int .i64 (idA zs i)) (by simp [intsV, idA, List.getElem?_eq_getElem hi, List.getD])
  rwa [add_none, Nat.zero_add] at this
theorem Made.idFree {ib n cap : Nat} (h : Made W gb w x1 x2 (.slice (some ⟨ib, 0, none⟩) n cap) zs v2 hs us) (i : Nat) : w.frozen? ⟨ib, i, none⟩ = false := by
  have hh := h.ids
  obtain ⟨_, _, e, _⟩ := own_slice hh
  have hn : n = zs.length := by simpa using congrArg (fun v => match v with | .slice _ k _ => k | _ => 0) e
  subst hn
  exact World.ownsRow.frozenAt hh i

/-! ### The graph that it is -/
theorem link_own {B : Nat} {u : Value × List (Int × Int)} (h : LinkOwn B w u) (hf : ∀ x ∈ u.2, I64 x.1 ∧ I64 x.2) : ∃ la lc, u.1 = .slice la u.2.length lc ∧ LinksAt w la u.2 := by
  obtain ⟨v, xs⟩ := u
  have h : w.ownsRow B 41 2 v xs.length (linkVs xs) := h
  obtain ⟨a, c, rfl, hm, hp⟩ := own_slice h
  refine ⟨a, c, rfl, hm, fun h0 => ?_, hf⟩
  obtain ⟨g, rfl, hg⟩ := hp h0
  refine ⟨g, 0, rfl, hg, fun i hi => ?_⟩
  obtain ⟨e1, e2⟩ := linkVs_at hi
  exact ⟨own_cell h e1, by rw [Nat.add_assoc]; exact own_cell h e2⟩
def FitG (G : Gr) : Prop := (∀ z ∈ G.ids, I64 z) ∧ ∀ p ∈ G.ps, ∀ x ∈ p, I64 x.1 ∧ I64 x.2
theorem apart_graph {B : Nat} (h : Apart B w (idsR v1 zs :: hdrR v2 hs :: us.map lnkR)) (he : hs = us.map Prod.fst) (hf : FitG ⟨zs, us.map Prod.snd⟩) :
    ∃ ia ic pa pc, v1 = .slice ia zs.length ic ∧ v2 = .slice pa us.length pc ∧ GraphAt w ia zs.length pa us.length ⟨zs, us.map Prod.snd⟩ := by
  subst he
  have o1 : w.ownsRow B 3 1 v1 zs.length (intsV zs) := h.own (idsR v1 zs) (by simp)
  have o2 : w.ownsRow B 38 1 v2 (us.map Prod.fst).length (us.map Prod.fst) := h.own (hdrR v2 (us.map Prod.fst)) (by simp)
  rw [List.length_map] at o2
  obtain ⟨ia, ic, rfl, m1, p1⟩ := own_slice o1
  obtain ⟨pa, pc, rfl, m2, p2⟩ := own_slice o2
  refine ⟨ia, ic, pa, pc, rfl, rfl, rfl, by simp, ⟨m1, fun h0 => ?_, hf.1⟩, ⟨by simpa using m2, fun h0 => ?_⟩⟩
  · obtain ⟨g, rfl, hg⟩ := p1 h0
    exact ⟨g, 0, rfl, hg, fun i hi => own_cell o1 (by simp [intsV, idA, List.getElem?_eq_getElem hi, List.getD])⟩
  · simp only [List.length_map] at h0
    obtain ⟨g, rfl, hg⟩ := p2 h0
    refine ⟨g, 0, rfl, hg, fun v hv => ?_⟩
    simp only [List.length_map] at hv
    have hl : LinkOwn B w us[v] := h.own (lnkR us[v]) (lnk_mem (List.getElem_mem hv))
    obtain ⟨la, lc, h1, h2⟩ := link_own hl (hf.2 us[v].2 (List.mem_map.2 ⟨_, List.getElem_mem hv, rfl⟩))
    have e : rowA (us.map Prod.snd) v = us[v].2 := by simp [rowA, List.getD, List.getElem?_eq_getElem hv]
    rw [e]
    refine ⟨la, lc, ?_, h2⟩
    rw [← h1]
    exact own_cell o2 (by simp [List.getElem?_eq_getElem hv])
theorem Made.graph (h : Made W gb w x1 x2 v1 zs v2 (us.map Prod.fst) us) (hf : FitG ⟨zs, us.map Prod.snd⟩) :
    ∃ ia ic pa pc, v1 = .slice ia zs.length ic ∧ v2 = .slice pa us.length pc ∧ GraphAt w ia zs.length pa us.length ⟨zs, us.map Prod.snd⟩ := apart_graph h.rows rfl hf
/-- the graph stands where a block that is older is written -/
theorem Made.graphFar {r : Nat} {ia pa : Option Addr} {ic pc : Nat} (h : Made W gb w x1 x2 (.slice ia zs.length ic) zs (.slice pa us.length pc) (us.map Prod.fst) us) (hf : FitG ⟨zs, us.map Prod.snd⟩) (hg : w.grownBy w' (some r)) (hr : r < W.heap.size) :
    GraphAt w' ia zs.length pa us.length ⟨zs, us.map Prod.snd⟩ := by
  obtain ⟨ia', ic', pa', pc', e1, e2, h3⟩ := apart_graph (h.rows.far hg (fun x hx => own_far (h.rows.own x hx) hr)) rfl hf
  injection e1 with e1
  injection e2 with e2
  rw [e1, e2]
  exact h3
end
end Go.Proofs.Ytfbbkiibhdgojaa
