/- What without of the specification of layer 3 answers; the rows of an argument lie within their capacity. -/
import Derived.Test.YtkffpipcjdhbaaaDelete2
import Derived.Test.YtkffpipcjdhbaaaCopy0
import Derived.Test.YtkffpipcjdhbaaaKeep2
import Derived.IntWalk
namespace Go.Proofs.Ytkffpipcjdhbaaa
open Go.RowKit

section
variable {ops : Array Oper} {o : Oper} {a : Act} {w : World} {K : Act → World → Prop} {Q : Exit → Act → World → Prop} {E : Prop}
/-- append of a part of a row of links to a row of one's own -/
theorem step_partL (hgd : o.guard = none) (s x : Operand) (ho : o.op = .call { callee := .builtin .append, args := #[s, x], argTypes := #[48, 48] })
    (B : Nat) (v : Value) (n : Nat) (ys : List (Int × Int)) (hs : a.eval s = v) (hown : w.ownsRow B 50 2 v n (linkVs ys)) (hB : B ≤ w.heap.size)
    (ad : Addr) (m c : Nat) (zs : List (Int × Int)) (hx : a.eval x = .slice (some ad) m c) (hm : m = zs.length) (hz : ∀ j u, (linkVs zs)[j]? = some u → w.cell? (ad.add j) = some u) (hn : n ≤ 1000) (hm2 : m ≤ 1000)
    (hK : ∀ v' w', w'.ownsRow B 50 2 v' (n + m) (linkVs (ys ++ zs)) → w.grownBy w' v.ownBlock → K (a.put o.dst v') w') :
    if Region.wanted o (yielded ops a.tmps) = true then Oper.wp Try.prog o a w K Q else E := by
  obtain ⟨i, hi, hz0, hz1, hz2⟩ := info_parts infoLnk
  have hw : Region.wanted o (yielded ops a.tmps) = true := by simp [Region.wanted, hgd]
  rw [if_pos hw]
  obtain ⟨v', w', hr, h2, h3, _⟩ := run_append_own (P := Try.prog) w B 48 o.type 50 i (.agg #[.int .i64 0, .int .i64 0]) 2 16 Try.underlying48 hi hz0 hz1 hz2 rfl (by decide) v n (linkVs ys) hown ad m c (linkVs zs) (by rw [linkVs_len, hm]) hz linkVs_one (by unfold maxLen; omega) (by omega) hB
  unfold Oper.wp execOp
  simp only [ho, resolve, invoke, builtin, Sem.run_bind, Sem.run_pure, Result.andThen_ok, List.map_toArray, List.map_cons, List.map_nil, hs, hx, hr]
  refine hK v' w' ?_ h3
  have e : linkVs (ys ++ zs) = linkVs ys ++ linkVs zs := by simp [linkVs]
  rw [e]
  exact h2
end
theorem links_part {w : World} {b off : Nat} {xs : List (Int × Int)} (h : LinksAt w (some ⟨b, off, none⟩) xs) (lo m : Nat) : ∀ j u, (linkVs ((xs.drop lo).take m))[j]? = some u → w.cell? ((⟨b, off + lo * 2, none⟩ : Addr).add j) = some u := by
  intro j u hj
  have hlt := (List.getElem?_eq_some_iff.1 hj).1
  rw [linkVs_len, List.length_take, List.length_drop] at hlt
  rw [add_none]
  have := links_cells h (lo * 2 + j) u ?_
  · rw [add_none] at this
    rw [show off + lo * 2 + j = off + (lo * 2 + j) by omega]
    exact this
  · have e1 : linkVs ((xs.drop lo).take m) = (linkVs (xs.drop lo)).take (m * 2) := (linkVs_take _ _).symm
    have e2 : linkVs xs = linkVs (xs.take lo) ++ linkVs (xs.drop lo) := by unfold linkVs; rw [← List.flatMap_append, List.take_append_drop]
    rw [e1, List.getElem?_take, if_pos (by omega)] at hj
    rw [e2, List.getElem?_append_right (by rw [linkVs_len, List.length_take]; omega), linkVs_len, List.length_take, show lo * 2 + j - min lo xs.length * 2 = j by omega]
    exact hj
set_option linter.unusedSimpArgs false in
set_option maxHeartbeats 1000000 in
theorem without_any (b off lc at_ : Nat) (xs : List (Int × Int)) (w : World) (h : LinksAt w (some ⟨b, off, none⟩) xs) (hat : at_ < xs.length) (hcap : xs.length ≤ lc) (hl : xs.length ≤ 1000) :
    Calls Try.prog 62 #[.slice (some ⟨b, off, none⟩) xs.length lc, .int .i64 at_] w fun e w' => (∃ v', e = .returned v' ∧ w'.ownsRow w.heap.size 50 2 v' (xs.length - 1) (linkVs (delR xs at_))) ∧ Below w.heap.size w w' := by
  obtain ⟨n, hn⟩ : ∃ n, n = xs.length := ⟨_, rfl⟩
  have Hn := Lib.hid hn
  have H := Lib.hid h
  rw [← hn] at hat hcap hl ⊢

  clear h hn
  go_enter Try.func62, Try.ntmps62
  go_wp2_with fail
  have i1 : IntKind.i64.wrap ((at_ : Int) + 1) = (at_ : Int) + 1 := IntWalk.i64_in _ (by omega)
  have H1 : LinksAt w.drew (some ⟨b, off, none⟩) xs := H.out.below ⟨rfl, rfl, rfl, Nat.le_refl _, fun b _ => rfl⟩
  have j1 : (at_ : Int) ≤ lc := by omega
  have j2 : (at_ : Int) + 1 ≤ n := by omega
  have j3 : (n : Int) ≤ lc := by omega
  have j4 : ((at_ : Int) + 1).toNat = at_ + 1 := by omega
  have j5 : (0 : Int) ≤ (at_ : Int) + 1 := by omega
  refine keep_start (fun _ => True) [] (by kernel_rfl) ?_
  (refine keep_pure 0 (v := ?_) rfl (by kernel_rfl) (by kernel_rfl) (by kernel_rfl) (by kernel_rfl) (fun _ _ _ h => h) (Or.inl ⟨by rfl, ?_⟩) (.inr (by trivial)) ?_; rotate_left 1; focus (intro _; go_simp; (try go_ints); try (with_reducible rfl)); (try simp only [Act.put, List.setIfInBounds_toArray, List.set_cons_zero, List.set_cons_succ]))
  (refine keep_pure 1 (v := ?_) rfl (by kernel_rfl) (by kernel_rfl) (by kernel_rfl) (by kernel_rfl) (fun _ _ _ h => h) (Or.inl ⟨by rfl, ?_⟩) (.inr (by trivial)) ?_; rotate_left 1; focus (intro _; go_simp; (try go_ints); try (with_reducible rfl)); (try simp only [Act.put, List.setIfInBounds_toArray, List.set_cons_zero, List.set_cons_succ]))
  (refine keep_pure 2 (v := ?_) rfl (by kernel_rfl) (by kernel_rfl) (by kernel_rfl) (by kernel_rfl) (fun _ _ _ h => h) (Or.inl ⟨by rfl, ?_⟩) (.inr (by trivial)) ?_; rotate_left 1; focus (intro _; go_simp; (try go_ints); try (with_reducible rfl)); (try simp only [Act.put, List.setIfInBounds_toArray, List.set_cons_zero, List.set_cons_succ]))
  (refine keep_pure 4 (v := ?_) rfl (by kernel_rfl) (by kernel_rfl) (by kernel_rfl) (by kernel_rfl) (fun _ _ _ h => h) (Or.inl ⟨by rfl, ?_⟩) (.inr (by trivial)) ?_; rotate_left 1; focus (intro _; go_simp; (try go_ints); try (with_reducible rfl)); (try simp only [Act.put, List.setIfInBounds_toArray, List.set_cons_zero, List.set_cons_succ]))
  (refine keep_pure 5 (v := ?_) rfl (by kernel_rfl) (by kernel_rfl) (by kernel_rfl) (by kernel_rfl) (fun _ _ _ h => h) (Or.inl ⟨by rfl, ?_⟩) (.inr (by trivial)) ?_; rotate_left 1; focus (intro _; go_simp; (try go_ints); try (with_reducible rfl)); (try simp only [Act.put, List.setIfInBounds_toArray, List.set_cons_zero, List.set_cons_succ]))
  (refine keep_pure 6 (v := ?_) rfl (by kernel_rfl) (by kernel_rfl) (by kernel_rfl) (by kernel_rfl) (fun _ _ _ h => h) (Or.inl ⟨by rfl, ?_⟩) (.inr (by trivial)) ?_; rotate_left 1; focus (intro _; go_simp; (try go_ints); try (with_reducible rfl)); (try simp only [Act.put, List.setIfInBounds_toArray, List.set_cons_zero, List.set_cons_succ]))
  (refine keep_pure 7 (v := ?_) rfl (by kernel_rfl) (by kernel_rfl) (by kernel_rfl) (by kernel_rfl) (fun _ _ _ h => h) (Or.inl ⟨by rfl, ?_⟩) (.inr (by trivial)) ?_; rotate_left 1; focus (intro _; go_simp; (try go_ints); try (with_reducible rfl)); (try simp only [Act.put, List.setIfInBounds_toArray, List.set_cons_zero, List.set_cons_succ]))
  obtain ⟨o2, ho2, hoz⟩ : ∃ o2, (if lc = at_ + 1 then some (⟨b, off, none⟩ : Addr) else some ⟨b, off + (at_ + 1) * 2, none⟩) = some ⟨b, o2, none⟩ ∧ (n = at_ + 1 ∨ o2 = off + (at_ + 1) * 2) := by
    by_cases hc : lc = at_ + 1
    · exact ⟨off, by rw [if_pos hc], .inl (by omega)⟩
    · exact ⟨_, by rw [if_neg hc], .inr rfl⟩
  rw [ho2]
  clear ho2 j1 j2 j3 j4 j5 i1
  (refine keep_one 3 (by kernel_rfl) rfl ?_)
  intro K hK
  refine step_partL rfl (.const (.slice none 0 0)) (.tmp 7) rfl w.heap.size (.slice none 0 0) 0 [] rfl (World.ownsRow_nil _ _ _ _) (Nat.le_refl _) ⟨b, off, none⟩ at_ lc (xs.take at_) (by rfl) (by have := Hn.out; rw [List.length_take]; omega) (fun j u hj => by have := links_part H1 0 at_ j u (by rw [List.drop_zero]; exact hj); rwa [show off + 0 * 2 = off by omega] at this) (by omega) (by omega) ?_
  intro v1 w1 ho1 hg1
  go_simp
  have hb1 : Below w.heap.size w w1 := ⟨hg1.os, hg1.tape, hg1.output, hg1.size, fun k hk => hg1.block k hk (by simp [Value.ownBlock])⟩
  have H2 := H.out.below hb1
  refine hK _ _ (fun h => (by trivial)) ?_
  clear hK K
  (try simp only [Act.put, List.setIfInBounds_toArray, List.set_cons_zero, List.set_cons_succ])
  (refine keep_one 8 (by kernel_rfl) rfl ?_)
  intro K hK
  refine step_partL rfl (.tmp 8) (.tmp 12) rfl w.heap.size v1 (0 + at_) ([] ++ xs.take at_) rfl ho1 hb1.size ⟨b, o2, none⟩ (n - (at_ + 1)) (lc - (at_ + 1)) (xs.drop (at_ + 1)) (by rfl) (by have := Hn.out; rw [List.length_drop]; omega) (fun j u hj => by
    rcases hoz with he | he
    · rw [List.drop_eq_nil_of_le (by have := Hn.out; omega)] at hj
      simp [linkVs] at hj
    · rw [he]
      exact links_part H2 (at_ + 1) (n - (at_ + 1)) j u (by rw [List.take_of_length_le (by have := Hn.out; rw [List.length_drop]; omega)]; exact hj)) (by omega) (by omega) ?_
  intro v2 w2 ho2' hg2
  go_simp
  refine hK _ _ (fun h => (by trivial)) ?_
  clear hK K
  (try simp only [Act.put, List.setIfInBounds_toArray, List.set_cons_zero, List.set_cons_succ])
  (refine keep_pure 9 (v := ?_) rfl (by kernel_rfl) (by kernel_rfl) (by kernel_rfl) (by kernel_rfl) (fun _ _ _ h => h) (Or.inl ⟨by rfl, ?_⟩) (.inr (by trivial)) ?_; rotate_left 1; focus (intro _; go_simp; (try go_ints); try (with_reducible rfl)); (try simp only [Act.put, List.setIfInBounds_toArray, List.set_cons_zero, List.set_cons_succ]))
  (refine keep_done (by kernel_rfl) ?_)
  go_wp2
  go_ret
  refine ⟨⟨v2, rfl, ?_⟩, hb1.grown hg2 hb1.size (fun k hk => (World.ownsRow.lt ho1 k hk).1)⟩
  have e : delR xs at_ = [] ++ xs.take at_ ++ xs.drop (at_ + 1) := by simp [delR]
  rw [e, show n - 1 = 0 + at_ + (n - (at_ + 1)) by omega]
  exact ho2'
end Go.Proofs.Ytkffpipcjdhbaaa
