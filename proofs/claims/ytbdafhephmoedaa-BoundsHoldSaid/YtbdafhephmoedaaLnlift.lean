/- Lines and bounds that came in. Conditions: none beyond those typed. -/
import Derived.Test.YtbdafhephmoedaaLift
import Derived.Test.YtbdafhephmoedaaSvlift
import Derived.Test.YtbdafhephmoedaaLnrow
import Derived.Test.YtbdafhephmoedaaBdtwin
namespace Go.Proofs.Ytbdafhephmoedaa
open Go.ChangeShapes Go.WideShapes Go.ChangeAt Go.RowKit
set_option linter.unusedVariables false
set_option linter.unusedSimpArgs false
set_option maxRecDepth 100000

/-- What a law is told of a slice of lines that came in. -/
def ArgLs (W : World) (A : Option Addr) (n c : Nat) : Prop :=
  n ≤ c ∧ c ≤ maxLen ∧ ∀ j, j < n → ∃ (b o : Nat) (e : En), A = some ⟨b, o, none⟩ ∧ W.cell? ⟨b, o + j * 3, none⟩ = some (.string e.1) ∧ W.cell? ⟨b, o + j * 3 + 1, none⟩ = some (.int .u64 e.2.1) ∧ W.cell? ⟨b, o + j * 3 + 2, none⟩ = some (.int .u64 e.2.2) ∧ W64 e.2.1 ∧ W64 e.2.2
def ArgLn (W : World) (A : Option Addr) (n c : Nat) : Prop := ∃ L, RdG kLn W A n c L ∧ ∀ e ∈ L, W64 e.2.1 ∧ W64 e.2.2
theorem ArgLs.upto {W : World} {A : Option Addr} {n c : Nat} (h : ArgLs W A n c) : ∀ k, k ≤ n → ∃ L : List En, L.length = k ∧ (∀ e ∈ L, W64 e.2.1 ∧ W64 e.2.2) ∧ ∀ j e, L[j]? = some e → ∃ b o, A = some ⟨b, o, Option.none⟩ ∧ W.cell? ⟨b, o + j * 3, Option.none⟩ = some (.string e.1) ∧ W.cell? ⟨b, o + j * 3 + 1, Option.none⟩ = some (.int .u64 e.2.1) ∧ W.cell? ⟨b, o + j * 3 + 2, Option.none⟩ = some (.int .u64 e.2.2)
  | 0, _ => ⟨[], rfl, fun e h => (by cases h), fun j e h => (by simp at h)⟩
  | k + 1, hk => by
    obtain ⟨L, h1, h2, h3⟩ := ArgLs.upto h k (by omega)
    obtain ⟨b, o, e, hA, c0, c1, c2, w1, w2⟩ := h.2.2 k (by omega)
    refine ⟨L ++ [e], by simp [h1], fun x hx => ?_, fun j x hx => ?_⟩
    · rcases List.mem_append.1 hx with hx | hx
      · exact h2 x hx
      · rw [List.mem_singleton.1 hx]; exact ⟨w1, w2⟩
    · rcases Nat.lt_or_ge j k with hj | hj
      · rw [List.getElem?_append_left (by omega)] at hx
        exact h3 j x hx
      · have : j = k := by have := (List.getElem?_eq_some_iff.1 hx).1; simp at this; omega
        subst this
        rw [List.getElem?_append_right (by omega), h1, Nat.sub_self] at hx
        obtain rfl := Option.some.inj hx
        exact ⟨b, o, hA, c0, c1, c2⟩
theorem ArgLs.rd {W : World} {A : Option Addr} {n c : Nat} (h : ArgLs W A n c) : ArgLn W A n c := by
  obtain ⟨L, h1, h2, h3⟩ := h.upto n (Nat.le_refl _)
  refine ⟨L, ⟨h1, h.1, h.2.1, fun j e he => ?_⟩, h2⟩
  obtain ⟨b, o, hA, c0, c1, c2⟩ := h3 j e he
  refine ⟨b, o, hA, fun i u hu => ?_⟩
  have hi : i < 3 := (List.getElem?_eq_some_iff.1 hu).1
  match i, hi with
  | 0, _ => have hu' : Value.string e.1 = u := by injection hu
            rw [← hu']; exact c0
  | 1, _ => have hu' : Value.int .u64 e.2.1 = u := by injection hu
            rw [← hu']; exact c1
  | 2, _ => have hu' : Value.int .u64 e.2.2 = u := by injection hu
            rw [← hu']; exact c2
theorem open_lines {H : Type} {enc : TypeId × Value → H} {W : World} {A : Option Addr} {n c : Nat} {d : DataW H} {p : List MemPlace} (h : DataW.Trod enc Try.prog W 0 (fun _ => true) true 33 (.slice A n c) d p) : ArgLn W A n c := by
  refine ArgLs.rd ?_
  obtain ⟨fuel, hf⟩ := h
  have e0 : Try.prog.cellsOf 43 = 3 := by kernel_rfl
  have e1 : Try.prog.cellsOf 9 = 1 := by kernel_rfl
  have e2 : Try.prog.cellsOf 22 = 1 := by kernel_rfl
  rcases DataW.trod_slice Try.underlying33 hf with ⟨hcs, _⟩ | ⟨a, len, cap, elems, rest, m, _, hcs, _, _, hl, hm, hel, hget, _, _⟩
  · simp [Value.cells] at hcs
    obtain ⟨rfl, rfl, rfl⟩ := hcs
    exact ⟨Nat.le_refl _, by simp [maxLen], fun j hj => absurd hj (by omega)⟩
  · simp [Value.cells] at hcs
    obtain ⟨rfl, rfl, rfl⟩ := hcs
    refine ⟨hl, hm, fun j hj => ?_⟩
    have hspot : a.spot = Option.none := by
      have hg := hget 0 (by omega)
      rw [e0, Nat.zero_mul] at hg
      have hx : elems[0]? = some (elems[0]'(by omega)) := List.getElem?_eq_getElem (by omega)
      rw [hx] at hg
      obtain ⟨cs, hcells, htr⟩ := Option.bind_eq_some_iff.1 hg
      obtain ⟨_, hlen, hcell⟩ := World.cells?_some hcells
      have h0 := hcell 0 (by omega)
      have hcs : cs[0]? = some (cs[0]'(by omega)) := List.getElem?_eq_getElem (by omega)
      rw [hcs] at h0
      simpa [Addr.add] using World.cell?_spot h0
    have hg := hget j hj
    rw [e0] at hg
    have hx : elems[j]? = some (elems[j]'(by omega)) := List.getElem?_eq_getElem (by omega)
    rw [hx] at hg
    obtain ⟨cs, hcells, htr⟩ := Option.bind_eq_some_iff.1 hg
    obtain ⟨_, hlen, hcell⟩ := World.cells?_some hcells
    obtain ⟨y0, y1, y2, m', -, _, t0, t1, t2⟩ := Go.Deep.trod_struct3 Try.underlying43 htr
    match cs, hlen with
    | [v0, v1, v2], _ =>
      rw [e1] at t0
      rw [e2] at t1 t2
      simp at t0 t1 t2
      obtain ⟨s, h0, _, _⟩ := DataW.trod_string Try.underlying9 t0
      obtain ⟨t, h1, _, w1⟩ := DataW.trod_int Try.underlying22 t1
      obtain ⟨x, h2, _, w2⟩ := DataW.trod_int Try.underlying22 t2
      simp only [List.cons.injEq, and_true] at h0 h1 h2
      subst h0 h1 h2
      have k0 := hcell 0 (by omega)
      have k1 := hcell 1 (by omega)
      have k2 := hcell 2 (by omega)
      obtain ⟨b, off, spot⟩ := a
      have hspot' : spot = Option.none := hspot
      subst hspot'
      rw [Go.WideShapes.add_plain, Go.WideShapes.add_plain] at k0 k1 k2
      exact ⟨b, off, (s, t, x), rfl, k0, k1, k2, bounds_u64 w1, bounds_u64 w2⟩
theorem open_bD {H : Type} {enc : TypeId × Value → H} {W : World} {cs : Array Value} {d : DataW H} {p : List MemPlace} (h : DataW.Trod enc Try.prog W 0 (fun _ => true) true 26 (.agg cs) d p) :
    ∃ t x : Int, cs = #[.int .u64 t, .int .u64 x] ∧ W64 t ∧ W64 x := by
  obtain ⟨fuel, hf⟩ := h
  obtain ⟨y1, y2, m, _, hlen, t1, t2⟩ := trod_struct2 Try.underlying26 hf
  have e0 : Try.prog.cellsOf 26 = 2 := by kernel_rfl
  have e2 : Try.prog.cellsOf 22 = 1 := by kernel_rfl
  obtain ⟨l⟩ := cs
  have hlen' : l.length = 2 := by rw [← e0]; simpa [Value.cells] using hlen
  match l, hlen' with
  | [c1, c2], _ =>
    simp only [Value.cells] at t1 t2
    rw [e2] at t1 t2
    simp at t1 t2
    obtain ⟨t, h1, _, w1⟩ := DataW.trod_int Try.underlying22 t1
    obtain ⟨x, h2, _, w2⟩ := DataW.trod_int Try.underlying22 t2
    simp only [List.cons.injEq, and_true] at h1 h2
    subst h1 h2
    exact ⟨t, x, rfl, bounds_u64 w1, bounds_u64 w2⟩
end Go.Proofs.Ytbdafhephmoedaa
