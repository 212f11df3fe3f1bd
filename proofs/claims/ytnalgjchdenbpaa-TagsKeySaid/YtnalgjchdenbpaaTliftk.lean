/- Layer 3, TagsKey: for every input the statement (the sorted tags and the key of any list, or the error) returns true and leaves its arguments as they were. -/
import Derived.Test.YtnalgjchdenbpaaTlift
import Derived.Test.YtnalgjchdenbpaaTlawk
import Derived.Deep.SlicePairs
namespace Go.Proofs.Ytnalgjchdenbpaa
open Go.ChangeShapes Go.WideShapes Go.ChangeAt Go.RowKit
set_option linter.unusedVariables false
set_option linter.unusedSimpArgs false

theorem ArgT.none (W : World) : ArgT W none 0 0 [] := ⟨rfl, Nat.le_refl _, by simp [maxLen], fun t ht => absurd ht (by simp), fun j t ht => by simp at ht⟩
theorem ArgT.some {W : World} {x : Addr} {len cap : Nat} (hl : len ≤ cap) (hm : cap ≤ maxLen) (V0 V1 : Nat → Value)
    (hcell : ∀ i, i < cap → W.cell? (x.add (i * 2)) = some (V0 i) ∧ W.cell? (x.add (i * 2 + 1)) = some (V1 i))
    (hs : ∀ i, i < cap → ∃ s0 s1 : ByteArray, V0 i = .string s0 ∧ V1 i = .string s1 ∧ s0.size ≤ maxLen ∧ s1.size ≤ maxLen) : ∃ l, ArgT W (some x) len cap l := by
  let f : Value → ByteArray := fun v => match v with | .string s => s | _ => ⟨#[]⟩
  have hat : ∀ j t, ((List.range len).map fun i => (f (V0 i), f (V1 i)))[j]? = Option.some t → j < len ∧ V0 j = .string t.1 ∧ V1 j = .string t.2 ∧ t.1.size ≤ maxLen ∧ t.2.size ≤ maxLen := by
    intro j t ht
    rw [List.getElem?_map] at ht
    rcases Nat.lt_or_ge j len with hj | hj
    · rw [List.getElem?_range hj] at ht
      obtain ⟨s0, s1, e0, e1, z0, z1⟩ := hs j (by omega)
      have ht' : (f (V0 j), f (V1 j)) = t := Option.some.inj ht
      rw [e0, e1] at ht'
      have h' : (s0, s1) = t := ht'
      subst h'
      exact ⟨hj, e0, e1, z0, z1⟩
    · rw [List.getElem?_eq_none (by simpa using hj)] at ht; cases ht
  refine ⟨(List.range len).map fun i => (f (V0 i), f (V1 i)), by simp, hl, hm, fun t ht => ?_, fun j t ht => ?_⟩
  · obtain ⟨j, hj⟩ := List.mem_iff_getElem?.1 ht
    obtain ⟨_, _, _, z0, z1⟩ := hat j t hj
    exact ⟨z0, z1⟩
  · obtain ⟨hj, e0, e1, _, _⟩ := hat j t ht
    obtain ⟨b, off, spot⟩ := x
    have hspot : spot = Option.none := by simpa [Addr.add] using World.cell?_spot (hcell 0 (by omega)).1
    subst hspot
    obtain ⟨c0, c1⟩ := hcell j (by omega)
    rw [Go.WideShapes.add_plain] at c0 c1
    exact ⟨b, off, rfl, by rw [c0, e0], by rw [← Nat.add_assoc] at c1; rw [c1, e1]⟩

set_option maxRecDepth 100000 in
theorem tagsKey_lifted (os : Os) (started : os.Started) (H : Type) (enc : TypeId × Value → H) :
    ReturnsInHanded {} Try.checked os 4 .any (Rows.tagsKeySpec.pre6 enc Try.prog Try.f4 Rows.tagsKeyRow.domain false) (Rows.tagsKeySpec.post enc Try.prog Try.f4 false true false false) := by
  refine returnsInHanded_of_change_sized (C := Try.checked) own started (by kernel_rfl) Try.func4
    (ChangeSpec.witness6 (enc := enc) (C := Try.checked) false ⟨#[], #[.slice none 0 0, .slice none 0 0, .int .i64 0, .string ⟨#[]⟩, .string ⟨#[]⟩], []⟩ 8 (by kernel_rfl) (by kernel_rfl) (by kernel_rfl) (by kernel_rfl)) ?_
  intro W base args ds gs before hval0 hW hcnd hsz0 _
  have hsz : (DataW.weightsEach Try.prog (Try.f4.params.toList ++ Rows.tagsKeySpec.plain.varTypes Try.prog) (ds ++ gs)).all (· ≤ reachBytes) = true := hsz0
  have hval : ∀ (j : Nat) t v, Try.f4.params[j]? = some t → args[j]? = some v → Value.okWide Try.prog W .any base t v := hval0
  have hW' := hW
  obtain ⟨p, q, hA0, hV, rfl, hfz, hnd⟩ := hW
  have hA : DataW.TrodAll enc Try.prog W 0 (fun _ => true) true Try.f4.params.toList args.toList ds p := hA0
  rw [Try.params4] at hA hval hsz
  obtain ⟨v0, vs0, d0, ds0, p0, q0, hargs, rfl, rfl, h0, r0⟩ := trodAll_cons hA
  obtain ⟨v1, vs1, d1, ds1, p1, q1, rfl, rfl, rfl, h1, r1⟩ := trodAll_cons r0
  obtain ⟨v2, vs2, d2, ds2, p2, q2, rfl, rfl, rfl, h2, r2⟩ := trodAll_cons r1
  obtain ⟨v3, vs3, d3, ds3, p3, q3, rfl, rfl, rfl, h3, r3⟩ := trodAll_cons r2
  obtain ⟨v4, vs4, d4, ds4, p4, q4, rfl, rfl, rfl, h4, r4⟩ := trodAll_cons r3
  obtain ⟨rfl, rfl, rfl⟩ := trodAll_nil r4
  obtain rfl : args = #[v0, v1, v2, v3, v4] := by cases args; simp_all
  obtain ⟨rfl, rfl⟩ := trodVars_none hV
  obtain ⟨a0, len0, cap0, rfl⟩ := okWide_slice Try.underlying25 (hval 0 25 v0 rfl rfl)
  have k0 := h0
  have lt0 : ∀ x ∈ p0, x.block < W.heap.size := by obtain ⟨m, hm⟩ := k0; exact DataW.trod_lt m _ _ _ hm
  obtain ⟨l0, arg0⟩ : ∃ l, ArgT W a0 len0 cap0 l := by
    obtain ⟨fuel, hf⟩ := h0
    rcases Go.Deep.open_slice_pairs Try.underlying25 Try.underlying24 (by kernel_rfl) rfl rfl (by kernel_rfl) (by kernel_rfl) hf with ⟨hcs, _⟩ | ⟨x, l, c, m, nn, V0, V1, D0, D1, P0, P1, hcs, _, hl, hm, hmm, _, hcell⟩
    · simp [Value.cells] at hcs
      obtain ⟨rfl, rfl, rfl⟩ := hcs
      exact ⟨[], ArgT.none W⟩
    · simp [Value.cells] at hcs
      obtain ⟨rfl, rfl, rfl⟩ := hcs
      simp only [if_true] at hmm
      subst hmm
      exact ArgT.some hl hm V0 V1 (fun i hi => ⟨(hcell i hi).1, (hcell i hi).2.1⟩) (fun i hi => by
        obtain ⟨s0, e0, _, z0⟩ := DataW.trod_string Try.underlying9 (hcell i hi).2.2.1
        obtain ⟨s1, e1, _, z1⟩ := DataW.trod_string Try.underlying9 (hcell i hi).2.2.2
        simp only [List.cons.injEq, and_true] at e0 e1
        exact ⟨s0, s1, e0, e1, z0, z1⟩)
  obtain ⟨a1, len1, cap1, rfl⟩ := okWide_slice Try.underlying30 (hval 1 30 v1 rfl rfl)
  have k1 := h1
  have lt1 : ∀ x ∈ p1, x.block < W.heap.size := by obtain ⟨m, hm⟩ := k1; exact DataW.trod_lt m _ _ _ hm
  have arg1 : RdI W a1 len1 cap1 := by
    obtain ⟨fuel, hf⟩ := h1
    rcases open_ints Try.underlying30 Try.underlying3 (by kernel_rfl) hf with ⟨hcs, _⟩ | ⟨x, l, c, zs, hcs, _, hl, hm, hz, hx, hcell, hwz⟩
    · simp [Value.cells] at hcs
      obtain ⟨rfl, rfl, rfl⟩ := hcs
      exact RdI.none W
    · simp [Value.cells] at hcs
      obtain ⟨rfl, rfl, rfl⟩ := hcs
      simp only [if_true] at hz
      exact RdI.some hl hm hz hcell hwz
  obtain ⟨a2, rfl, rfl, rfl, w2⟩ := open_int Try.underlying3 (hval 2 3 v2 rfl rfl) h2
  obtain ⟨a3, rfl, rfl, rfl, w3⟩ := Go.ChangeMaps.open_string Try.underlying9 (hval 3 9 v3 rfl rfl) h3
  obtain ⟨a4, rfl, rfl, rfl, w4⟩ := Go.ChangeMaps.open_string Try.underlying9 (hval 4 9 v4 rfl rfl) h4
  clear hA0 hval0 hsz0
  refine (tagsKey_walk a0 len0 cap0 a1 len1 cap1 l0 a2 a3 a4 W arg0 arg1 (bounds_i64 w2).1 (bounds_i64 w2).2 w3 w4).mono fun e W' ⟨he, bel⟩ => ?_
  subst he
  exact ⟨_, rfl, _, _, _, [], _, [], hW', trodAll_mk1 (shut_bool Try.underlying4 _), (trodAll_cons_mk (Below.trod laidOut (by kernel_rfl) (of_decide_eq_true (by kernel_rfl)) k0 bel lt0) (trodAll_cons_mk (Below.trod laidOut (by kernel_rfl) (of_decide_eq_true (by kernel_rfl)) k1 bel lt1) (trodAll_cons_mk (shut_int Try.underlying3 w2) (trodAll_cons_mk (Go.ChangeMaps.shut_string Try.underlying9 w3) (trodAll_cons_mk (Go.ChangeMaps.shut_string Try.underlying9 w4) trodAll_mk0))))), rfl, bel.frame _, fun h => by cases h⟩

theorem tagsKey_over : Rows.tagsKeyRow.holds Try.pinned (OpenSpec.ofChange Rows.tagsKeySpec) :=
  OpenClaim.holds_of_wide 4 Try.f4 rfl rfl rfl rfl rfl rfl rfl ⟨rfl, rfl, rfl, rfl, rfl⟩ rfl rfl rfl rfl rfl (by kernel_rfl) Try.func4 (by kernel_rfl)
    (of_decide_eq_true (by kernel_rfl)) (by unfold Func.isWrapper; first | (rw [if_pos (by decide +kernel)]; kernel_rfl) | (rw [if_neg (by decide +kernel)]; exact ⟨rfl, rfl⟩))
    (fun os started H enc _ => tagsKey_lifted os started H enc)

/-- The statement. -/
theorem tagsKey_proved : Rows.TagsKeySaid :=
  tagsKey_over
end Go.Proofs.Ytnalgjchdenbpaa
