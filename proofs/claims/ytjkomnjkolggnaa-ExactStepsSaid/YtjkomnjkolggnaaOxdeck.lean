/- The statements about package exact: a deck beside a store. Conditions: the program's stores keep their contracts (ProgX). -/
import Derived.Test.YtjkomnjkolggnaaOxawake
namespace Go.Proofs.Ytjkomnjkolggnaa
open Go.ChangeShapes Go.WideShapes Go.ChangeAt Go.RowKit
set_option linter.unusedVariables false
set_option linter.unusedSimpArgs false
set_option maxRecDepth 100000

/-- A deck, and the program's table. -/
structure DkX (PX : RepX) (w : World) (gd : Nat) (A : Option Addr) (m d g : Nat) (col : Col) (t : ExSt) (W : World) : Prop where
  ds : DkS w col W gd A m d
  px : PX col 16 W g t
section
variable {PX : RepX} {w W W' : World} {gd m d g : Nat} {A : Option Addr} {col col' : Col} {t t' : ExSt}
theorem DkX.at_ (h : DkX PX w gd A m d g col t W) : AtX PX w col W 16 g t := ⟨h.ds.since, h.px⟩
theorem DkX.tidy (h : DkX PX w gd A m d g col t W) : Tidy col W := h.ds.tidy
theorem DkX.start (HP : ProgX PX) (h : AtX PX w col W 16 g t) (hA : RdI w A m d) : DkX PX w W.heap.size A m d g (dye col (some W.heap.size) 1) t (W.alloc (.cells #[.slice A m d, .int .i64 0] 69)) := by
  have s := StepC.new h.tidy (.cells #[.slice A m d, .int .i64 0] 69) 1 (fun _ => False)
  have hs := h.since.step s (fun h => h)
  exact ⟨⟨hs, ⟨hA, hs.below, h.since.below.size, 0, heap_alloc_new W _, Nat.zero_le _⟩, dye_of⟩, HP.keep h.px s (fun _ _ h => h) (fun h => h)⟩
theorem DkX.below (HP : ProgX PX) (h : DkX PX w gd A m d g col t W) (hb : Below W.heap.size W W') : DkX PX w gd A m d g col t W' := ⟨h.ds.below hb, HP.below h.px h.tidy hb⟩
theorem DkX.did (h : DkX PX w gd A m d g col t W) (hd : DidPX PX col 16 W g t' W') : ∃ col', DkX PX w gd A m d g col' t' W' := by
  obtain ⟨col', h1, s⟩ := hd
  exact ⟨col', h.ds.step s (by unfold Rng; omega) (rng0 (by omega)), h1⟩
theorem DkX.deck (HP : ProgX PX) (h : DkX PX w gd A m d g col t W) (hD : Dk w W' gd A m d) (hg : W.grownBy W' (some gd)) : DkX PX w gd A m d g col t W' := by
  obtain ⟨h1, s⟩ := h.ds.deck hD hg
  exact ⟨h1, HP.keep h.px s (fun c hc e => by have := hc.1; omega) (by omega)⟩
theorem short_szx {s : ByteArray} (h : 2 ≤ s.size ∧ s.size ≤ 3) : Sz s := by unfold Sz; omega
end
/-- The least entry, and what Get tells of its key. -/
theorem GoodX.leastOk {t : ExSt} (G : GoodX t) : ∃ (x : En) (b : Bool), t.least = (x, b) ∧ t.get x.1 = (x, b) ∧ b = decide (0 < t.l.length) ∧ (b = false → x = zeroE) ∧ (b = true → x ∈ t.l) ∧ ∀ z ∈ t.l, ctE x ≤ ctE z ∧ (ctE z = ctE x → sless x.1 z.1 = false) := by
  by_cases h0 : t.l.length = 0
  · have hl : t.l = [] := List.eq_nil_of_length_eq_zero h0
    refine ⟨zeroE, false, leastX_none h0, getX_none (placeE_gone fun j x hx => by rw [hl] at hx; simp at hx), by rw [h0]; rfl, fun _ => rfl, fun h => (by cases h), fun z hz => by rw [hl] at hz; cases hz⟩
  · obtain ⟨e, he, h1, h2, h3⟩ := lastTo_at (l := t.l) (by omega)
    have hm := List.mem_of_getElem? he
    refine ⟨e, true, leastX_some h0 he, ?_, (decide_eq_true (by omega)).symm, fun h => (by cases h), fun _ => hm, fun z hz => ⟨h2 z hz, fun hq => ?_⟩⟩
    · refine getX_some (i := lastTo t.l t.l.length) (placeE_at he rfl fun j y hj hy hk => ?_) he
      have := srt_same G.srt hy he hk
      omega
    · obtain ⟨j, hj⟩ := List.mem_iff_getElem?.1 hz
      rcases Nat.lt_trichotomy j (lastTo t.l t.l.length) with h4 | h4 | h4
      · exact sless_asymm (srt_at G.srt hj he h4)
      · subst h4
        rw [he] at hj; injection hj with hj; subst hj
        exact sless_irrefl _
      · have := h3 j z hj h4
        omega
theorem putX_mem {t : ExSt} {e z : En} (h : z ∈ (t.put e).2.l) : z ∈ t.l ∨ z = e := by
  unfold ExSt.put at h
  split at h
  · exact .inl h
  split at h
  · exact .inl h
  split at h
  · exact .inl h
  split at h
  · exact .inl h
  rcases List.mem_append.1 ((sortE_perm _).mem_iff.1 h) with h | h
  · exact .inl h
  · exact .inr (List.mem_singleton.1 h)
end Go.Proofs.Ytjkomnjkolggnaa
