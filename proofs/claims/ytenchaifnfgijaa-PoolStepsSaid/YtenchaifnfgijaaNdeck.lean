/- The statements about package pool: a deck beside a pool and its arena. Conditions: the program's arena keeps its contracts (ProgA). -/
import Derived.Test.YtenchaifnfgijaaNawake
import Derived.Test.YtenchaifnfgijaaQshort
import Derived.Test.YtenchaifnfgijaaQone
namespace Go.Proofs.Ytenchaifnfgijaa
open Go.ChangeShapes Go.WideShapes Go.ChangeAt Go.RowKit
set_option linter.unusedVariables false
set_option linter.unusedSimpArgs false
set_option maxRecDepth 100000

/-- Nothing elder has turned; the deck lies in a block of colour 1. -/
structure DkS (w : World) (col : Col) (W : World) (gd : Nat) (A : Option Addr) (m d : Nat) : Prop where
  since : Since w col W
  dk : Dk w W gd A m d
  dc : col gd = 1
section
variable {PA : Rep} {w W W' : World} {col col' : Col} {gd g ga m d : Nat} {A : Option Addr} {P : Nat → Prop} {q q' : PSt} {x x' : ASt}
theorem DkS.tidy (h : DkS w col W gd A m d) : Tidy col W := h.since.tidy
theorem DkS.new (h : RdI w A m d) : DkS w (dye (fun _ => 0) (some w.heap.size) 1) (w.alloc (.cells #[.slice A m d, .int .i64 0] 66)) w.heap.size A m d :=
  ⟨(Since.start w).step (StepC.new (fun _ _ => rfl) _ 1 (fun _ => False)) (fun h => h), Dk.new h, dye_of⟩
theorem DkS.step (h : DkS w col W gd A m d) (s : StepC P col W col' W') (h1 : ¬ P 1) (hz : ¬ P 0) : DkS w col' W' gd A m d := by
  have hs := h.since.step s hz
  obtain ⟨d1, d2, d3, a, hD⟩ := h.dk
  exact ⟨hs, ⟨d1, hs.below, d3, a, hD.far (s.block gd hD.lt (by rw [h.dc]; exact h1))⟩, (s.kept gd hD.lt).trans h.dc⟩
theorem DkS.below (h : DkS w col W gd A m d) (hb : Below W.heap.size W W') : DkS w col W' gd A m d := h.step (P := fun _ => False) (StepC.below h.tidy hb) (fun h => h) (fun h => h)
/-- Behind a call of the deck's. -/
theorem DkS.deck (h : DkS w col W gd A m d) (hD : Dk w W' gd A m d) (hg : W.grownBy W' (some gd)) : DkS w col W' gd A m d ∧ StepC (fun c => c = 1) col W col W' := by
  have s : StepC (fun c => c = 1) col W col W' := StepC.grownBy h.tidy hg fun q e => by injection e with e; subst e; exact h.dc
  exact ⟨⟨h.since.step s (by omega), hD, h.dc⟩, s⟩
/-- A deck, a pool and its arena. -/
structure DkQ (PA : Rep) (w : World) (gd : Nat) (A : Option Addr) (m d g ga T : Nat) (col : Col) (q : PSt) (x : ASt) (W : World) : Prop where
  ds : DkS w col W gd A m d
  pq : PqR col 16 W g ga q
  pa : PA col 32 W ga x
  lnk : Lnk q x
  t : x.t ≤ T ∧ q.t ≤ T
variable {T T' : Nat}
theorem DkQ.step (HP : ProgA PA) (h : DkQ PA w gd A m d g ga T col q x W) (s : StepC P col W col' W') (h1 : ∀ c, Rng 16 c → ¬ P c) (h2 : ∀ c, Rng 32 c → ¬ P c) (h3 : ¬ P 1) (hz : ¬ P 0) : DkQ PA w gd A m d g ga T col' q x W' :=
  ⟨h.ds.step s h3 hz, h.pq.keep s h1, HP.keep h.pa s h2 hz, h.lnk, h.t⟩
theorem DkQ.below (HP : ProgA PA) (h : DkQ PA w gd A m d g ga T col q x W) (hb : Below W.heap.size W W') : DkQ PA w gd A m d g ga T col q x W' :=
  h.step HP (P := fun _ => False) (StepC.below h.ds.tidy hb) (fun _ _ h => h) (fun _ _ h => h) (fun h => h) (fun h => h)
theorem r16 {c : Nat} (h : Rng 16 c) : 2 < c := by have := h.1; omega
theorem r32 {c : Nat} (h : Rng 32 c) : 2 < c := by have := h.1; omega
theorem DkQ.small (HP : ProgA PA) (h : DkQ PA w gd A m d g ga T col q x W) (s : StepC (fun c => c = 2) col W col' W') : DkQ PA w gd A m d g ga T col' q x W' :=
  h.step HP s (fun c hc e => by have := r16 hc; omega) (fun c hc e => by have := r32 hc; omega) (by omega) (by omega)
theorem DkQ.deck (HP : ProgA PA) (h : DkQ PA w gd A m d g ga T col q x W) (hD : Dk w W' gd A m d) (hg : W.grownBy W' (some gd)) : DkQ PA w gd A m d g ga T col q x W' ∧ StepC (fun c => c = 1) col W col W' := by
  obtain ⟨hS, s⟩ := h.ds.deck hD hg
  exact ⟨⟨hS, h.pq.keep s (fun c hc e => by have := r16 hc; omega), HP.keep h.pa s (fun c hc e => by have := r32 hc; omega) (by omega), h.lnk, h.t⟩, s⟩
/-- Behind a call of the pool's. -/
theorem DkQ.did (h : DkQ PA w gd A m d g ga T col q x W) (hd : DidQ PA col 16 32 W g ga q' x' W') (hL : Lnk q' x') (ht : x'.t ≤ x.t + 2 ∧ q'.t ≤ q.t + 2) : ∃ col', DkQ PA w gd A m d g ga (T + 2) col' q' x' W' ∧ StepC (fun c => Rng 16 c ∨ Rng 32 c) col W col' W' := by
  obtain ⟨col', h1, h2, h3⟩ := hd
  have := h.t
  exact ⟨col', ⟨h.ds.step h3 (fun e => e.elim (fun e => by have := r16 e; omega) (fun e => by have := r32 e; omega)) ap12.z, h1, h2, hL, by omega⟩, h3⟩
theorem no12 {n : Nat} (hn : n ≤ 2) : ¬ (Rng 16 n ∨ Rng 32 n) := fun e => e.elim (fun e => by have := r16 e; omega) (fun e => by have := r32 e; omega)
set_option maxHeartbeats 1000000 in
theorem pqLen_same {w : World} {k : Nat} (H : PqR col k w g ga q) :
    Calls Try.prog 17 #[.pointer (some ⟨g, 0, none⟩)] w fun e w' => e = .returned (.int .i64 (aliveN q.e : Nat)) ∧ w' = w := by
  obtain ⟨hG, b, D, vN, vF, H⟩ := H
  have x2 := H.c2
  have hown := H.ids.own
  have hsz := Lib.hid H.rel.size
  unfold MapQ at hown
  clear H
  go_enter Try.func17, Try.ntmps17
  go_wp2_with (at_len; refine wpList_len_own _ rfl _ 76 rfl 9 3 Try.underlying76 _ b (Go.Maps.size D) D rfl hown ?_)
  go_ret
  exact ⟨ret_i64 (by rw [hsz.out]), rfl⟩
end
/-- The numbers that were given, as the row of a statement has them. -/
def idsI (is : List Nat) : List Int := is.map fun i : Nat => (i : Int) + 1
theorem idsI_app (is : List Nat) (i : Nat) : idsI (is ++ [i]) = idsI is ++ [(i : Int) + 1] := by simp [idsI]
theorem idsI_at {is : List Nat} {j : Nat} {z : Int} (h : (idsI is)[j]? = some z) : ∃ i : Nat, is[j]? = some i ∧ z = (i : Int) + 1 := by
  unfold idsI at h
  rw [List.getElem?_map] at h
  cases hi : is[j]? with
  | none => rw [hi] at h; simp at h
  | some i => rw [hi] at h; simp at h; exact ⟨i, rfl, h.symm⟩
theorem idsI_len (is : List Nat) : (idsI is).length = is.length := by simp [idsI]
end Go.Proofs.Ytenchaifnfgijaa
