/- Merging two sorted runs by a rotation, in plain words. Conditions: none beyond those typed. -/
import Derived.Test.YtbdafhephmoedaaLnswap
namespace Go.Proofs.Ytbdafhephmoedaa
set_option linter.unusedVariables false
set_option linter.unusedSimpArgs false

/-- What a merge leaves. -/
structure MgL (S S' : List En) : Prop where
  sm : SmL S S'
  srt : SrtL S'
section
variable {U V A B S S' S1 S2 : List En} {a m b s e : Nat} {x y : En}
/-- Where the rotation is to be: s in the first run, e in the second. -/
structure CutL (U V : List En) (i j : Nat) : Prop where
  hi : i ≤ U.length
  hj : j ≤ V.length
  low : ∀ x z, 0 < i → U[i - 1]? = some x → V[j]? = some z → lnB z x = false
  top : ∀ x z, 0 < j → U[i]? = some x → V[j - 1]? = some z → lnB z x = true
theorem mem_take_at {l : List En} {k : Nat} (h : x ∈ l.take k) : ∃ i, i < k ∧ l[i]? = some x := by
  obtain ⟨i, hi⟩ := List.mem_iff_getElem?.1 h
  rw [List.getElem?_take] at hi
  split at hi
  · exact ⟨i, by assumption, hi⟩
  · cases hi
theorem mem_drop_at {l : List En} {k : Nat} (h : x ∈ l.drop k) : ∃ i, k ≤ i ∧ l[i]? = some x := by
  obtain ⟨i, hi⟩ := List.mem_iff_getElem?.1 h
  rw [List.getElem?_drop] at hi
  exact ⟨k + i, by omega, hi⟩
theorem srtL_take {l : List En} (h : SrtL l) (k : Nat) : SrtL (l.take k) := List.Pairwise.sublist (List.take_sublist k l) h
theorem srtL_drop {l : List En} (h : SrtL l) (k : Nat) : SrtL (l.drop k) := List.Pairwise.sublist (List.drop_sublist k l) h
variable {i j : Nat}
/-- All of the second run's head comes before all of the first run's tail. -/
theorem CutL.cross (h : CutL U V i j) (hU : SrtL U) (hV : SrtL V) : ∀ x ∈ U.drop i, ∀ y ∈ V.take j, lnB y x = true := by
  intro x hx y hy
  obtain ⟨p, hp, hpx⟩ := mem_drop_at hx
  obtain ⟨q, hq, hqy⟩ := mem_take_at hy
  have hpl := (List.getElem?_eq_some_iff.1 hpx).1
  obtain ⟨u, hu⟩ : ∃ u, U[i]? = some u := ⟨_, List.getElem?_eq_getElem (by omega)⟩
  have hj := h.hj
  obtain ⟨v, hv⟩ : ∃ v, V[j - 1]? = some v := ⟨_, List.getElem?_eq_getElem (by omega)⟩
  have h1 := h.top u v (by omega) hu hv
  exact lnB_le_lt (hV.at_ hqy hv (by omega)) (lnB_lt_le h1 (hU.at_ hu hpx hp))
theorem CutL.left (h : CutL U V i j) (hU : SrtL U) (hV : SrtL V) : ∀ x ∈ U.take i, ∀ z ∈ V.drop j, lnB z x = false := by
  intro x hx z hz
  obtain ⟨p, hp, hpx⟩ := mem_take_at hx
  obtain ⟨q, hq, hqz⟩ := mem_drop_at hz
  have hql := (List.getElem?_eq_some_iff.1 hqz).1
  have hi := h.hi
  obtain ⟨u, hu⟩ : ∃ u, U[i - 1]? = some u := ⟨_, List.getElem?_eq_getElem (by omega)⟩
  obtain ⟨v, hv⟩ : ∃ v, V[j]? = some v := ⟨_, List.getElem?_eq_getElem (by omega)⟩
  have h1 := h.low u v (by omega) hu hv
  exact lnB_le_le (hU.at_ hpx hu (by omega)) (lnB_le_le h1 (hV.at_ hv hqz hq))
/-- The two halves, merged by themselves. -/
theorem CutL.merged (h : CutL U V i j) (hU : SrtL U) (hV : SrtL V) (h1 : MgL (U.take i ++ V.take j) S1) (h2 : MgL (U.drop i ++ V.drop j) S2) : MgL (U ++ V) (S1 ++ S2) := by
  refine ⟨?_, srtL_app h1.srt h2.srt fun x hx y hy => ?_⟩
  · have e : U ++ V = U.take i ++ (U.drop i ++ V.take j) ++ V.drop j := by
      rw [← List.append_assoc, List.take_append_drop, List.append_assoc, List.take_append_drop]
    have e2 : U.take i ++ V.take j ++ (U.drop i ++ V.drop j) = U.take i ++ (V.take j ++ U.drop i) ++ V.drop j := by simp [List.append_assoc]
    rw [e]
    refine SmL.trans ?_ (h1.sm.app h2.sm)
    rw [e2]
    exact ((SmL.refl _).app (SmL.swap (h.cross hU hV))).app (SmL.refl _)
  · have hx' := h1.sm.mem.1 hx
    have hy' := h2.sm.mem.1 hy
    rcases List.mem_append.1 hx' with hx' | hx' <;> rcases List.mem_append.1 hy' with hy' | hy'
    · obtain ⟨p, hp, hpx⟩ := mem_take_at hx'
      obtain ⟨q, hq, hqy⟩ := mem_drop_at hy'
      exact hU.at_ hpx hqy (by omega)
    · exact h.left hU hV x hx' y hy'
    · exact lnB_asymm (h.cross hU hV y hy' x hx')
    · obtain ⟨p, hp, hpx⟩ := mem_take_at hx'
      obtain ⟨q, hq, hqy⟩ := mem_drop_at hy'
      exact hV.at_ hpx hqy (by omega)
/-- A half of which one part is empty is merged. -/
theorem mgL_none (hU : SrtL U) (hV : SrtL V) (h : U.length = 0 ∨ V.length = 0) : MgL (U ++ V) (U ++ V) := by
  refine ⟨SmL.refl _, ?_⟩
  rcases h with h | h
  · rw [List.eq_nil_of_length_eq_zero h]; exact hV
  · rw [List.eq_nil_of_length_eq_zero h, List.append_nil]; exact hU
/-- A run of one line is put into the second run. -/
theorem mgL_one {u : En} (hV : SrtL V) (hj : j ≤ V.length) (h1 : ∀ z, 0 < j → V[j - 1]? = some z → lnB z u = true) (h2 : ∀ z, V[j]? = some z → lnB z u = false) : MgL ([u] ++ V) (midR V u j) := by
  have c1 : ∀ y ∈ V.take j, lnB y u = true := fun y hy => by
    obtain ⟨q, hq, hqy⟩ := mem_take_at hy
    obtain ⟨v, hv⟩ : ∃ v, V[j - 1]? = some v := ⟨_, List.getElem?_eq_getElem (by omega)⟩
    exact lnB_le_lt (hV.at_ hqy hv (by omega)) (h1 v (by omega) hv)
  have c2 : ∀ y ∈ V.drop j, lnB y u = false := fun y hy => by
    obtain ⟨q, hq, hqy⟩ := mem_drop_at hy
    have hql := (List.getElem?_eq_some_iff.1 hqy).1
    obtain ⟨v, hv⟩ : ∃ v, V[j]? = some v := ⟨_, List.getElem?_eq_getElem (by omega)⟩
    exact lnB_le_le (h2 v hv) (hV.at_ hv hqy hq)
  refine ⟨?_, ?_⟩
  · have e : [u] ++ V = ([u] ++ V.take j) ++ V.drop j := by rw [List.append_assoc, List.take_append_drop]
    have e2 : midR V u j = (V.take j ++ [u]) ++ V.drop j := by unfold midR; simp
    rw [e, e2]
    exact (SmL.swap fun x hx y hy => by rw [List.mem_singleton.1 hx]; exact c1 y hy).app (SmL.refl _)
  · unfold midR
    refine List.pairwise_append.2 ⟨srtL_take hV j, List.pairwise_cons.2 ⟨c2, srtL_drop hV j⟩, fun y hy z hz => ?_⟩
    rcases List.mem_cons.1 hz with e | hz
    · rw [e]; exact lnB_asymm (c1 y hy)
    · obtain ⟨p, hp, hpx⟩ := mem_take_at hy
      obtain ⟨q, hq, hqy⟩ := mem_drop_at hz
      exact hV.at_ hpx hqy (by omega)
/-- .. into the first run. -/
theorem mgL_last {u : En} (hU : SrtL U) (hj : j ≤ U.length) (h1 : ∀ z, 0 < j → U[j - 1]? = some z → lnB u z = false) (h2 : ∀ z, U[j]? = some z → lnB u z = true) : MgL (U ++ [u]) (midR U u j) := by
  have c1 : ∀ y ∈ U.take j, lnB u y = false := fun y hy => by
    obtain ⟨q, hq, hqy⟩ := mem_take_at hy
    obtain ⟨v, hv⟩ : ∃ v, U[j - 1]? = some v := ⟨_, List.getElem?_eq_getElem (by omega)⟩
    exact lnB_le_le (hU.at_ hqy hv (by omega)) (h1 v (by omega) hv)
  have c2 : ∀ y ∈ U.drop j, lnB u y = true := fun y hy => by
    obtain ⟨q, hq, hqy⟩ := mem_drop_at hy
    have hql := (List.getElem?_eq_some_iff.1 hqy).1
    obtain ⟨v, hv⟩ : ∃ v, U[j]? = some v := ⟨_, List.getElem?_eq_getElem (by omega)⟩
    exact lnB_lt_le (h2 v hv) (hU.at_ hv hqy hq)
  refine ⟨?_, ?_⟩
  · have e : U ++ [u] = U.take j ++ (U.drop j ++ [u]) := by rw [← List.append_assoc, List.take_append_drop]
    have e2 : midR U u j = U.take j ++ ([u] ++ U.drop j) := rfl
    rw [e, e2]
    exact (SmL.refl _).app (SmL.swap fun x hx y hy => by rw [List.mem_singleton.1 hy]; exact c2 x hx)
  · exact srtL_mid (by rw [List.take_append_drop]; exact hU) c1 c2
end
end Go.Proofs.Ytbdafhephmoedaa
