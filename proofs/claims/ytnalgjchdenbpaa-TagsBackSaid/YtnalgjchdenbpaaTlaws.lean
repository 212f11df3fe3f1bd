/- What the statements about package tags share: short, awake, literal lists. Conditions: none beyond those typed. -/
import Derived.Test.YtnalgjchdenbpaaTlist
import Derived.Test.YtnalgjchdenbpaaTsplit
namespace Go.Proofs.Ytnalgjchdenbpaa
open Go.ChangeShapes Go.WideShapes Go.ChangeAt Go.RowKit
set_option linter.unusedVariables false
set_option linter.unusedSimpArgs false

/-- true comes back, and what was there stands. -/
def Yes (w : World) (e : Ending) (w' : World) : Prop := e = .returned (.bool true) ∧ Below w.heap.size w w'

theorem RdT.lit (w : World) (l : List Tg) (hl : l.length ≤ 1000) (hz : ∀ t ∈ l, t.1.size ≤ 140737488355328 ∧ t.2.size ≤ 140737488355328) :
    RdT (w.alloc (.cells (cellsT l).toArray 24)) (some ⟨w.heap.size, 0, none⟩) l.length l.length l := by
  refine ⟨rfl, Nat.le_refl _, by simp only [maxLen]; omega, hz, fun j t ht => ⟨_, _, rfl, ?_⟩⟩
  obtain ⟨a, b⟩ := cellsT_at l j t ht
  rw [World.cell?_alloc_at _ _ _ _ rfl, World.cell?_alloc_at _ _ _ _ rfl]
  simp only [Nat.zero_add, List.getElem?_toArray]
  exact ⟨a, b⟩

/-- A box stands behind a call that leaves alone what was there. -/
theorem box_next {W W' : World} {g : Nat} {p q : ByteArray} (h : W.cell? ⟨g, 0, none⟩ = some (.string p) ∧ W.cell? ⟨g, 1, none⟩ = some (.string q)) (hb : Below W.heap.size W W') :
    W'.cell? ⟨g, 0, none⟩ = some (.string p) ∧ W'.cell? ⟨g, 1, none⟩ = some (.string q) :=
  ⟨(hb.cell (p := ⟨g, 0, none⟩) (World.block_lt_of_cell? _ ⟨g, 0, none⟩ h.1)).trans h.1, (hb.cell (p := ⟨g, 1, none⟩) (World.block_lt_of_cell? _ ⟨g, 1, none⟩ h.2)).trans h.2⟩
theorem below_then {w W W' : World} (h : Below w.heap.size w W) (hb : Below W.heap.size W W') : Below w.heap.size w W' := h.trans (hb.mono h.size)
theorem same_yes (A B : Option Addr) (n c m d : Nat) (l : List Tg) (w : World) (hR : RdT w A n c l) (hS : RdT w B m d l) (hn : n ≤ 1000) (hm : m ≤ 1000) :
    Calls Try.prog 18 #[.slice A n c, .slice B m d] w fun e w' => e = .returned (.bool true) ∧ ∃ n, w' = w.drewN n :=
  (same_any A B n c m d l l w hR hS hn hm).mono fun e w' ⟨he, hj⟩ => ⟨by rw [he, decide_eq_true rfl], hj⟩
def ShortOut (w : World) (e : Ending) (w' : World) : Prop := ∃ t : ByteArray, t.size ≤ 80 ∧ e = .returned (.string t) ∧ w = w'
theorem short_any (s : ByteArray) (w : World) (hs : s.size ≤ 9223372036854775807) :
    Calls Try.prog 9 #[.string s] w (ShortOut w) := by
  have hz : (s.extract 0 (min (s.size : Int) 80).toNat).size ≤ 80 := by rw [ByteArray.size_extract]; omega
  go_enter Try.func9, Try.ntmps9
  go_wp2
  go_ret
  exact ⟨_, hz, rfl, rfl⟩

def tagsA : List Tg := [(⟨#[104, 111, 115, 116]⟩, ⟨#[97]⟩), (⟨#[97, 112, 112]⟩, ⟨#[120, 49]⟩)]
def tagsB : List Tg := [(⟨#[97, 112, 112]⟩, ⟨#[]⟩), (⟨#[97, 112, 112]⟩, ⟨#[]⟩)]
theorem keyA : keyErr tagsA = 0 ∧ (keyBy tagsA).data.toList = [3, 97, 112, 112, 2, 120, 49, 4, 104, 111, 115, 116, 1, 97] := by decide +kernel
theorem keyB : keyErr tagsB = 5 := by decide +kernel
theorem keyA' : keyBy tagsA = ⟨#[3, 97, 112, 112, 2, 120, 49, 4, 104, 111, 115, 116, 1, 97]⟩ := by
  apply ByteArray.ext; apply Array.toList_inj.1; exact keyA.2
set_option maxHeartbeats 400000 in
theorem awake_any (w : World) : Calls Try.prog 12 #[] w (Yes w) := by
  go_enter Try.func12, Try.ntmps12
  go_wp2_with fail
  refine (key_any _ _ _ tagsA _ (RdT.lit w tagsA (by decide) (by decide)) (by decide)).mono ?_
  rintro e w1 ⟨rfl, hb1⟩
  rw [keyA.1, keyA']
  have hz := hb1.size
  simp at hz
  go_wp2_with fail
  refine (key_any _ _ _ tagsB _ (RdT.lit w1 tagsB (by decide) (by decide)) (by decide)).mono ?_
  rintro e w2 ⟨rfl, hb2⟩
  rw [keyB]
  have hB1 : Below w.heap.size w w1 := ((Below.refl _ w).alloc (Nat.le_refl _) _).trans (hb1.mono (by simp))
  have hB2 : Below w.heap.size w w2 := (hB1.alloc hB1.size _).trans (hb2.mono (by simp; omega))
  clear hb1 hb2
  go_wp2
  go_ret
  exact ⟨rfl, hB2⟩
end Go.Proofs.Ytnalgjchdenbpaa
