/- Words for slices of bytes: a slice that reads as a list of numbers, a slice that the call itself owns, and append onto an owned one. Conditions: none beyond those typed. -/
import Derived.Test.YtnmhgbdmjgejfaaRows
import Derived.WalkKit
import Derived.ProofKit
import Derived.OpenShut
import Derived.IntWalk
import Derived.Lib.Hide
import Derived.Below
import Derived.Laws.OwnMore
import Derived.Deep.AppendLies
import Derived.Deep.Draws
import Derived.Maps.AppendAt
import Derived.RegionTactic
import Derived.OwnWalk
namespace Go.Proofs.Ytnmhgbdmjgejfaa
open Go.ChangeShapes Go.WideShapes Go.ChangeAt Go.RowKit
set_option linter.unusedVariables false
set_option maxRecDepth 100000

/-- The slice value '.slice A n c' reads as the bytes l. -/
def Rd (w : World) (A : Option Addr) (n c : Nat) (l : List Int) : Prop :=
  l.length = n ∧ n ≤ c ∧ c ≤ maxLen ∧ (∀ z ∈ l, 0 ≤ z ∧ z ≤ 255) ∧
    ∀ j z, l[j]? = some z → ∃ b o, A = some ⟨b, o, none⟩ ∧ w.cell? ⟨b, o + j, none⟩ = some (.int .u8 z)

/-- v is a row of bytes of the call's own (blocks from base on), which holds l. -/
def Own (w : World) (base : Nat) (v : Value) (l : List Int) : Prop :=
  w.ownsRow base 5 1 v l.length (l.map (Value.int .u8)) ∧ (∀ z ∈ l, 0 ≤ z ∧ z ≤ 255)

section
variable {w w' : World} {A : Option Addr} {n c : Nat} {l : List Int}

theorem Rd.len (h : Rd w A n c l) : l.length = n := h.1
theorem Rd.cap (h : Rd w A n c l) : n ≤ c := h.2.1
theorem Rd.max (h : Rd w A n c l) : c ≤ 9223372036854775807 := h.2.2.1
theorem Rd.bytes (h : Rd w A n c l) : ∀ z ∈ l, 0 ≤ z ∧ z ≤ 255 := h.2.2.2.1
theorem Rd.at_ (h : Rd w A n c l) {k : Nat} (hk : k < n) :
    ∃ b o z, A = some ⟨b, o, none⟩ ∧ l[k]? = some z ∧ 0 ≤ z ∧ z ≤ 255 ∧ b < w.heap.size ∧ w.cell? ⟨b, o + k, none⟩ = some (.int .u8 z) := by
  have hl : k < l.length := by rw [h.1]; exact hk
  have hg : l[k]? = some l[k] := List.getElem?_eq_getElem hl
  obtain ⟨b, o, hA, hc⟩ := h.2.2.2.2 k _ hg
  have hb := h.bytes _ (List.getElem_mem hl)
  exact ⟨b, o, l[k], hA, hg, hb.1, hb.2, World.block_lt_of_cell? w ⟨b, o + k, none⟩ hc, hc⟩
theorem Rd.keep (h : Rd w A n c l) (hk : ∀ a v, w.cell? a = some v → w'.cell? a = some v) : Rd w' A n c l :=
  ⟨h.1, h.2.1, h.2.2.1, h.2.2.2.1, fun j z hz => by
    obtain ⟨b, o, hA, hc⟩ := h.2.2.2.2 j z hz
    exact ⟨b, o, hA, hk _ _ hc⟩⟩
theorem Rd.below (h : Rd w A n c l) (hb : Below w.heap.size w w') : Rd w' A n c l :=
  h.keep fun a v hc => (hb.cell (World.block_lt_of_cell? w a hc)).trans hc
theorem Rd.drew (h : Rd w A n c l) : Rd w.drew A n c l := h
theorem Rd.drewN (h : Rd w A n c l) (k : Nat) : Rd (w.drewN k) A n c l := h
theorem Rd.take (h : Rd w A n c l) {k : Nat} (hk : k ≤ n) : Rd w A k c (l.take k) := by
  refine ⟨by rw [List.length_take, h.1]; omega, Nat.le_trans hk h.2.1, h.2.2.1, fun z hz => h.bytes z (List.mem_of_mem_take hz), fun j z hz => ?_⟩
  rw [List.getElem?_take] at hz
  split at hz
  · exact h.2.2.2.2 j z hz
  · cases hz
theorem Rd.nil (w : World) (A : Option Addr) (c : Nat) (hc : c ≤ maxLen) : Rd w A 0 c [] :=
  ⟨rfl, Nat.zero_le _, hc, fun z hz => absurd hz (by simp), fun j z hz => by simp at hz⟩
theorem Rd.one (w : World) (t : TypeId) (z : Int) (hz : 0 ≤ z ∧ z ≤ 255) : Rd (w.alloc (.cells #[.int .u8 z] t)) (some ⟨w.heap.size, 0, none⟩) 1 1 [z] :=
  ⟨rfl, Nat.le_refl _, by simp [maxLen], fun y hy => by simp at hy; subst hy; exact hz, fun j y hy => by
    match j, hy with
    | 0, hy =>
      simp at hy; subst hy
      refine ⟨_, _, rfl, ?_⟩
      rw [World.cell?_alloc_at _ _ _ _ rfl]; rfl
    | j + 1, hy => simp at hy⟩
theorem Rd.alloc (h : Rd w A n c l) (o : Obj) : Rd (w.alloc o) A n c l := h.below ((Below.refl _ _).alloc (Nat.le_refl _) o)

theorem ints_get {l : List Int} {j : Nat} {u : Value} (h : (l.map (Value.int .u8))[j]? = some u) : ∃ z, l[j]? = some z ∧ u = .int .u8 z := by
  rw [List.getElem?_map] at h
  cases hj : l[j]? with
  | none => rw [hj] at h; cases h
  | some z => rw [hj] at h; exact ⟨z, rfl, (Option.some.inj h).symm⟩

variable {base : Nat} {v : Value}

/-- What is owned reads. -/
theorem Own.form (h : Own w base v l) : ∃ A n c, v = .slice A n c ∧ Rd w A n c l := by
  obtain ⟨hown, hb⟩ := h
  rcases hown.2 with ⟨rfl, hn⟩ | ⟨g, cap, cur, rfl, hbg, hg, hnc, hcm, hcs, htake⟩
  · have hl : l = [] := List.eq_nil_of_length_eq_zero hn
    subst hl
    exact ⟨_, _, _, rfl, Rd.nil _ _ _ (by simp [maxLen])⟩
  · refine ⟨_, _, _, rfl, rfl, hnc, hcm, hb, fun j z hz => ⟨g, 0, rfl, ?_⟩⟩
    have hc := hown.cells (g := g) rfl j (.int .u8 z) (by rw [List.getElem?_map, hz]; rfl)
    rw [Addr.add_lit] at hc
    exact hc
theorem Own.bytes (h : Own w base v l) : ∀ z ∈ l, 0 ≤ z ∧ z ≤ 255 := h.2
theorem Own.nil (w : World) (base : Nat) : Own w base (.slice none 0 0) [] := ⟨World.ownsRow_nil w base _ 1, fun z hz => absurd hz (by simp)⟩
theorem Own.empty (w : World) : Own (w.alloc (.cells #[] 5)) w.heap.size (.slice (some ⟨w.heap.size, 0, none⟩) 0 0) [] :=
  ⟨World.ownsRow_made w #[] 0 (Nat.le_refl _) (by simp [maxLen]) rfl, fun z hz => absurd hz (by simp)⟩
theorem Own.alloc (h : Own w base v l) (o : Obj) : Own (w.alloc o) base v l := ⟨h.1.alloc o, h.2⟩
theorem Own.drew (h : Own w base v l) : Own w.drew base v l := h
theorem Own.drewN (h : Own w base v l) (k : Nat) : Own (w.drewN k) base v l := h
theorem Own.lt (h : Own w base v l) : ∀ k, v.ownBlock = some k → base ≤ k ∧ k < w.heap.size := h.1.lt
theorem Own.below (h : Own w base v l) (hb : Below w.heap.size w w') : Own w' base v l :=
  ⟨h.1.kept (row := none) ⟨hb.os, hb.tape, hb.output, hb.size, fun k hk _ => hb.block k hk⟩ (by cases h : v.ownBlock <;> simp), h.2⟩

theorem Below.app {B : Nat} {w0 : World} (h : Below B w0 w) (hown : Own w base v l) (hg : w.grownBy w' v.ownBlock) (hB : B ≤ w.heap.size) (hbase : B ≤ base) : Below B w0 w' :=
  h.grown hg hB fun k hk => by have := hown.lt k hk; omega
end

theorem info_u8 : (Try.prog.info? 5).map (fun i => (i.zero, i.size, i.bytes)) = some (some (.int .u8 0), 1, 1) := by kernel_rfl

section
variable {w : World}

end
end Go.Proofs.Ytnmhgbdmjgejfaa
