/- Classes and a handle that came in. Conditions: none beyond those typed. -/
import Derived.Test.YtfcnmbahcdpcaaaLift
import Derived.Test.YtfcnmbahcdpcaaaJcheck
namespace Go.Proofs.Ytfcnmbahcdpcaaa
open Go.ChangeShapes Go.WideShapes Go.ChangeAt Go.RowKit
set_option linter.unusedVariables false
set_option linter.unusedSimpArgs false
set_option maxRecDepth 100000

theorem ArgC.none (W : World) : ArgC W none 0 0 := ⟨[], RdG.nil _ _ _ (by simp [maxLen]), fun x hx => by simp at hx⟩
theorem ArgC.some {W : World} {x : Addr} {len cap : Nat} (hl : len ≤ cap) (hm : cap ≤ maxLen) (V0 V1 : Nat → Value)
    (hcell : ∀ i, i < cap → W.cell? (x.add (i * 2)) = some (V0 i) ∧ W.cell? (x.add (i * 2 + 1)) = some (V1 i))
    (hs : ∀ i, i < cap → ∃ s0 s1 : Int, V0 i = .int .i64 s0 ∧ V1 i = .int .i64 s1 ∧ I64 s0 ∧ I64 s1) : ArgC W (some x) len cap := by
  let f : Value → Int := fun v => match v with | .int _ s => s | _ => 0
  have hat : ∀ j t, ((List.range len).map fun i => (f (V0 i), f (V1 i)))[j]? = Option.some t → j < len ∧ V0 j = .int .i64 t.1 ∧ V1 j = .int .i64 t.2 ∧ I64 t.1 ∧ I64 t.2 := by
    intro j t ht
    rw [List.getElem?_map] at ht
    rcases Nat.lt_or_ge j len with hj | hj
    · rw [List.getElem?_range hj] at ht
      obtain ⟨s0, s1, e0, e1, z0, z1⟩ := hs j (by omega)
      have ht' : (f (V0 j), f (V1 j)) = t := Option.some.inj ht
      rw [e0, e1] at ht'
      have h' : (s0, s1) = t := ht'
      subst h'
      exact ⟨hj, e0, e1, z0, z1⟩
    · rw [List.getElem?_eq_none (by simpa using hj)] at ht; cases ht
  refine ⟨(List.range len).map fun i => (f (V0 i), f (V1 i)), ⟨by simp, hl, hm, fun j t ht => ?_⟩, fun t ht => ?_⟩
  · obtain ⟨hj, e0, e1, _, _⟩ := hat j t ht
    obtain ⟨b, off, spot⟩ := x
    have hspot : spot = Option.none := by simpa [Addr.add] using World.cell?_spot (hcell 0 (by omega)).1
    subst hspot
    obtain ⟨c0, c1⟩ := hcell j (by omega)
    rw [Go.WideShapes.add_plain] at c0 c1
    refine ⟨b, off, rfl, fun i u hu => ?_⟩
    have hi : i < 2 := (List.getElem?_eq_some_iff.1 hu).1
    match i, hi with
    | 0, _ =>
      simp [kC] at hu
      subst hu
      show W.cell? ⟨b, off + j * 2 + 0, Option.none⟩ = _
      rw [Nat.add_zero, c0, e0]
    | 1, _ =>
      simp [kC] at hu
      subst hu
      show W.cell? ⟨b, off + j * 2 + 1, Option.none⟩ = _
      rw [Nat.add_assoc, c1, e1]
  · obtain ⟨j, hj⟩ := List.mem_iff_getElem?.1 ht
    obtain ⟨_, _, _, z0, z1⟩ := hat j t hj
    exact ⟨z0, z1⟩
theorem open_classes {H : Type} {enc : TypeId × Value → H} {W : World} {A : Option Addr} {n c : Nat} {d : DataW H} {p : List MemPlace} (h : DataW.Trod enc Try.prog W 0 (fun _ => true) true 22 (.slice A n c) d p) : ArgC W A n c := by
  obtain ⟨fuel, hf⟩ := h
  rcases Go.Deep.open_slice_pairs Try.underlying22 Try.underlying37 (by kernel_rfl) rfl rfl (by kernel_rfl) (by kernel_rfl) hf with ⟨hcs, _⟩ | ⟨x, l, cc, m, nn, V0, V1, D0, D1, P0, P1, hcs, _, hl, hm, hmm, _, hcell⟩
  · simp [Value.cells] at hcs
    obtain ⟨rfl, rfl, rfl⟩ := hcs
    exact ArgC.none W
  · simp [Value.cells] at hcs
    obtain ⟨rfl, rfl, rfl⟩ := hcs
    simp only [if_true] at hmm
    subst hmm
    exact ArgC.some hl hm V0 V1 (fun i hi => ⟨(hcell i hi).1, (hcell i hi).2.1⟩) (fun i hi => by
      obtain ⟨s0, e0, _, z0⟩ := DataW.trod_int Try.underlying3 (hcell i hi).2.2.1
      obtain ⟨s1, e1, _, z1⟩ := DataW.trod_int Try.underlying3 (hcell i hi).2.2.2
      simp only [List.cons.injEq, and_true] at e0 e1
      exact ⟨s0, s1, e0, e1, bounds_i64 z0, bounds_i64 z1⟩)
theorem open_handle {H : Type} {enc : TypeId × Value → H} {W : World} {cs : Array Value} {d : DataW H} {p : List MemPlace} (h : DataW.Trod enc Try.prog W 0 (fun _ => true) true 40 (.agg cs) d p) :
    ∃ x y z, cs = #[.int .i64 x, .int .i64 y, .int .i64 z] ∧ Hd64 (x, y, z) := by
  obtain ⟨fuel, hf⟩ := h
  obtain ⟨y0, y1, y2, m, -, hlen, t0, t1, t2⟩ := Go.Deep.trod_struct3 Try.underlying40 hf
  have e0 : Try.prog.cellsOf 40 = 3 := by kernel_rfl
  have e2 : Try.prog.cellsOf 3 = 1 := by kernel_rfl
  obtain ⟨l⟩ := cs
  have hlen' : l.length = 3 := by rw [← e0]; simpa [Value.cells] using hlen
  match l, hlen' with
  | [c0, c1, c2], _ =>
    simp only [Value.cells] at t0 t1 t2
    rw [e2] at t0 t1 t2
    simp at t0 t1 t2
    obtain ⟨x, h0, _, w0⟩ := DataW.trod_int Try.underlying3 t0
    obtain ⟨y, h1, _, w1⟩ := DataW.trod_int Try.underlying3 t1
    obtain ⟨z, h2, _, w2⟩ := DataW.trod_int Try.underlying3 t2
    simp only [List.cons.injEq, and_true] at h0 h1 h2
    subst h0 h1 h2
    exact ⟨x, y, z, rfl, bounds_i64 w0, bounds_i64 w1, bounds_i64 w2⟩
end Go.Proofs.Ytfcnmbahcdpcaaa
