/- Arguments as the walks take them: slices of numbers, of tags, events. Conditions: none beyond those typed. -/
import Derived.Test.YtbdafhephmoedaaTm
import Derived.Test.YtbdafhephmoedaaBm
import Derived.SizedLaws
import Derived.ChangeMaps5
import Derived.Deep.SlicePairs
import Derived.Deep.Strs
namespace Go.Proofs.Ytbdafhephmoedaa
open Go.ChangeShapes Go.WideShapes Go.ChangeAt Go.RowKit
set_option linter.unusedVariables false
set_option linter.unusedSimpArgs false
set_option maxRecDepth 100000

theorem own : ownKnob Try.prog.godebug = none := by kernel_rfl
theorem laidOut : laidOutB Try.prog = true := by kernel_rfl
theorem bytes_u8 : Try.prog.bytesOf 5 = 1 := by kernel_rfl
theorem Arg.none (W : World) : Arg W none 0 0 := ⟨Nat.le_refl _, by omega, [], Rd.nil _ _ _ (by simp [maxLen])⟩
theorem Arg.some {W : World} {x : Addr} {len cap : Nat} {zs : List Int} (hl : len ≤ cap) (hz : zs.length = cap) (hc : cap ≤ 140737488351232)
    (hcell : ∀ i, i < zs.length → W.cell? (x.add i) = some (.int .u8 (zs.getD i 0))) (hw : ∀ n ∈ zs, (Lit.int .u8 n).wf = true) : Arg W (some x) len cap := by
  refine ⟨hl, hc, zs.take len, by rw [List.length_take]; omega, hl, by simp only [maxLen]; omega, fun z h => bounds_u8 (hw z (List.mem_of_mem_take h)), fun j z h => ?_⟩
  rw [List.getElem?_take] at h
  split at h
  · rename_i hj
    have hjl : j < zs.length := (List.getElem?_eq_some_iff.1 h).1
    obtain ⟨b, off, rfl, hc⟩ := ints_at hcell (by omega)
    refine ⟨b, off, rfl, ?_⟩
    rw [hc j hjl, List.getD_eq_getElem?_getD, h]
    rfl
  · cases h

theorem RdI.none (W : World) : RdI W none 0 0 := ⟨Nat.le_refl _, by simp [maxLen], fun j hj => absurd hj (by omega)⟩
theorem RdI.some {W : World} {x : Addr} {len cap : Nat} {zs : List Int} (hl : len ≤ cap) (hm : cap ≤ maxLen) (hz : zs.length = cap)
    (hcell : ∀ i, i < zs.length → W.cell? (x.add i) = some (.int .i64 (zs.getD i 0))) (hw : ∀ n ∈ zs, (Lit.int .i64 n).wf = true) : RdI W (some x) len cap := by
  refine ⟨hl, hm, fun j hj => ?_⟩
  have hjl : j < zs.length := by omega
  obtain ⟨b, off, rfl, hc⟩ := ints_at hcell (by omega)
  have hb := bounds_i64 (hw zs[j] (List.getElem_mem hjl))
  refine ⟨b, off, zs[j], rfl, ?_, hb.1, hb.2⟩
  rw [hc j hjl, List.getD_eq_getElem?_getD, List.getElem?_eq_getElem hjl]
  rfl

theorem ArgT.none (W : World) : ArgT W none 0 0 [] := ⟨rfl, Nat.le_refl _, by simp [maxLen], fun t ht => absurd ht (by simp), fun j t ht => by simp at ht⟩
theorem ArgT.some {W : World} {x : Addr} {len cap : Nat} (hl : len ≤ cap) (hm : cap ≤ maxLen) (V0 V1 : Nat → Value)
    (hcell : ∀ i, i < cap → W.cell? (x.add (i * 2)) = some (V0 i) ∧ W.cell? (x.add (i * 2 + 1)) = some (V1 i))
    (hs : ∀ i, i < cap → ∃ s0 s1 : ByteArray, V0 i = .string s0 ∧ V1 i = .string s1 ∧ s0.size ≤ maxLen ∧ s1.size ≤ maxLen) : ∃ l, ArgT W (some x) len cap l := by
  let f : Value → ByteArray := fun v => match v with | .string s => s | _ => ⟨#[]⟩
  have hat : ∀ j t, ((List.range len).map fun i => (f (V0 i), f (V1 i)))[j]? = Option.some t → j < len ∧ V0 j = .string t.1 ∧ V1 j = .string t.2 ∧ t.1.size ≤ maxLen ∧ t.2.size ≤ maxLen := by
    intro j t ht
    rw [List.getElem?_map] at ht
    rcases Nat.lt_or_ge j len with hj | hj
    · rw [List.getElem?_range hj] at ht
      obtain ⟨s0, s1, e0, e1, z0, z1⟩ := hs j (by omega)
      have ht' : (f (V0 j), f (V1 j)) = t := Option.some.inj ht
      rw [e0, e1] at ht'
      have h' : (s0, s1) = t := ht'
      subst h'
      exact ⟨hj, e0, e1, z0, z1⟩
    · rw [List.getElem?_eq_none (by simpa using hj)] at ht; cases ht
  refine ⟨(List.range len).map fun i => (f (V0 i), f (V1 i)), by simp, hl, hm, fun t ht => ?_, fun j t ht => ?_⟩
  · obtain ⟨j, hj⟩ := List.mem_iff_getElem?.1 ht
    obtain ⟨_, _, _, z0, z1⟩ := hat j t hj
    exact ⟨z0, z1⟩
  · obtain ⟨hj, e0, e1, _, _⟩ := hat j t ht
    obtain ⟨b, off, spot⟩ := x
    have hspot : spot = Option.none := by simpa [Addr.add] using World.cell?_spot (hcell 0 (by omega)).1
    subst hspot
    obtain ⟨c0, c1⟩ := hcell j (by omega)
    rw [Go.WideShapes.add_plain] at c0 c1
    exact ⟨b, off, rfl, by rw [c0, e0], by rw [← Nat.add_assoc] at c1; rw [c1, e1]⟩

end Go.Proofs.Ytbdafhephmoedaa
