/- Slices of bytes: heavykeysref01.Same on equal lists, literals, stores into owned rows, strings as bytes. Conditions: none beyond those typed. -/
import Derived.Test.YtnmhgbdmjgejfaaBytes
import Derived.Test.YtnmhgbdmjgejfaaBase
import Derived.SizedLaws
namespace Go.Proofs.Ytnmhgbdmjgejfaa
open Go.ChangeShapes Go.WideShapes Go.ChangeAt Go.RowKit
set_option linter.unusedVariables false
set_option maxRecDepth 100000
set_option linter.unusedSimpArgs false

theorem lit_cell (l : List Int) (t : TypeId) (w : World) (j : Nat) (z : Int) (h : l[j]? = some z) :
    (w.alloc (.cells (l.map (Value.int .u8)).toArray t)).cell? ⟨w.heap.size, 0 + j, none⟩ = some (.int .u8 z) := by
  rw [Nat.zero_add]
  exact (cell_of_row _ w.heap.size j (l.map (Value.int .u8)).toArray t (0, 0) (heap_alloc_new w _)).trans (by simp [h])
theorem Rd.lit (l : List Int) (w : World) (hb : ∀ z ∈ l, 0 ≤ z ∧ z ≤ 255) (hm : l.length ≤ maxLen) :
    Rd (w.alloc (.cells (l.map (Value.int .u8)).toArray 5)) (some ⟨w.heap.size, 0, none⟩) l.length l.length l :=
  ⟨rfl, Nat.le_refl _, hm, hb, fun j z hz => ⟨_, _, rfl, lit_cell l _ w j z hz⟩⟩
theorem shr_bd (x : Int) (j : Nat) (hx0 : 0 ≤ x) (hx1 : x ≤ 18446744073709551615) : 0 ≤ x / 2 ^ j ∧ x / 2 ^ j ≤ 18446744073709551615 :=
  ⟨Int.ediv_nonneg hx0 (Int.le_of_lt (Int.pow_pos (by omega))), Int.le_trans (Int.ediv_le_self _ hx0) hx1⟩

/-- What a law is told of a slice of bytes that came in. -/
def Arg (w : World) (A : Option Addr) (n c : Nat) : Prop := n ≤ c ∧ c ≤ 140737488351232 ∧ ∃ l, Rd w A n c l

section
variable {w : World} {base : Nat} {A : Option Addr} {n c : Nat} {l : List Int}
theorem Own.len (h : Own w base (.slice A n c) l) : l.length = n := by
  rcases h.1.2 with ⟨h, hn⟩ | ⟨g, cap, cur, h, _⟩
  · injection h with _ h2 _; omega
  · injection h with _ h2 _; omega
theorem Own.reads (h : Own w base (.slice A n c) l) : Rd w A n c l := by
  obtain ⟨A', n', c', e, hr⟩ := h.form
  injection e with e1 e2 e3
  subst e1 e2 e3
  exact hr
theorem Own.head (h : Own w base (.slice A n c) l) (hn : 0 < n) : ∃ g, A = some ⟨g, 0, none⟩ ∧ base ≤ g ∧ g < w.heap.size := by
  have hl := h.len
  rcases h.1.2 with ⟨h', hn'⟩ | ⟨g, cap, cur, h', hb, hg, _⟩
  · omega
  · injection h' with h1 _ _
    refine ⟨g, h1, hb, ?_⟩
    rcases Nat.lt_or_ge g w.heap.size with hlt | hge
    · exact hlt
    · rw [Array.getElem?_eq_none hge] at hg; cases hg
end
section
variable {w : World} {base : Nat} {g n c : Nat} {l : List Int}
theorem Own.free (h : Own w base (.slice (some ⟨g, 0, none⟩) n c) l) (k : Nat) : w.frozen? ⟨g, k, none⟩ = false := by
  obtain rfl := h.len
  exact h.1.frozenAt k
theorem Own.store (h : Own w base (.slice (some ⟨g, 0, none⟩) n c) l) (k : Nat) {z : Int} (hz : 0 ≤ z ∧ z ≤ 255) : Own (w.setCell ⟨g, k, none⟩ (.int .u8 z)) base (.slice (some ⟨g, 0, none⟩) n c) (l.set k z) := by
  obtain rfl := h.len
  refine ⟨?_, fun y hy => ?_⟩
  · rw [List.length_set, List.map_set]
    exact (h.1.stored k _).1
  · rcases List.mem_or_eq_of_mem_set hy with h' | rfl
    · exact h.2 y h'
    · exact hz
end
theorem Rd.ofString (w : World) (s : ByteArray) (cap : Nat) (h1 : s.size ≤ cap) (h2 : cap ≤ maxLen) (fz : Nat × Nat) :
    Rd (w.drew.alloc (.cells (bytesRow s cap) 5 fz)) (some ⟨w.heap.size, 0, none⟩) s.size cap (s.data.toList.map fun b => (b.toNat : Int)) := by
  refine ⟨by rw [List.length_map, ← ba_size], h1, h2, ?_, fun j z hz => ⟨_, _, rfl, ?_⟩⟩
  · intro z hz
    obtain ⟨b, _, rfl⟩ := List.mem_map.1 hz
    have := b.toNat_lt
    omega
  · rw [List.getElem?_map] at hz
    have hj : j < s.data.size := by
      rcases Nat.lt_or_ge j s.data.size with h | h
      · exact h
      · rw [List.getElem?_eq_none (by simpa using h)] at hz; cases hz
    have e := bytesRow_at s cap j hj
    have hb : s.data.toList[j]? = some s.data[j] := by simp [hj]
    rw [hb] at hz
    rw [← Option.some.inj hz, Nat.zero_add]
    have hh : (w.drew.alloc (.cells (bytesRow s cap) 5 fz)).heap[w.heap.size]? = some (.cells (bytesRow s cap) 5 fz) := heap_alloc_new w.drew _
    rw [cell_of_row _ w.heap.size j _ _ fz hh]
    exact e
theorem four_cell (w : World) (x y z v : Value) (t : TypeId) : (w.alloc (.cells #[x, y, z, v] t)).cell? ⟨w.heap.size, 0, none⟩ = some x ∧ (w.alloc (.cells #[x, y, z, v] t)).cell? ⟨w.heap.size, 1, none⟩ = some y ∧ (w.alloc (.cells #[x, y, z, v] t)).cell? ⟨w.heap.size, 2, none⟩ = some z ∧ (w.alloc (.cells #[x, y, z, v] t)).cell? ⟨w.heap.size, 3, none⟩ = some v := by
  refine ⟨?_, ?_, ?_, ?_⟩ <;> (rw [World.cell?_alloc_at _ _ _ _ rfl]; rfl)
end Go.Proofs.Ytnmhgbdmjgejfaa
