/- The specified order (heavykeysref08.Ranks) in memory: place, New, Count, Least. Conditions: none beyond those typed. -/
import Derived.Test.YtopjnalehllgcaaDoorRmath
import Derived.Test.YtopjnalehllgcaaDoorDref
import Derived.Test.YtopjnalehllgcaaDoorKu64
import Derived.Test.YtopjnalehllgcaaDoorKgrow
import Derived.BigQuiet
namespace Go.Proofs.YtopjnalehllgcaaDoor
open Go.ChangeShapes Go.WideShapes Go.ChangeAt Go.RowKit
set_option linter.unusedVariables false
set_option linter.unusedSimpArgs false
set_option maxRecDepth 100000

/-- A list's box and its two rows. -/
structure RefRB (col : Col) (k : Nat) (w : World) (g : Nat) (n : Nat) (N V : List Int) (vN vV : Value) : Prop where
  box : BoxC col w g k #[.int .i64 n, vN, vV] 47
  ns : OwnKc kI col w (k + 1) vN N
  vs : OwnKc kU col w (k + 2) vV V
  k1 : 1 ≤ k
/-- The specified list m lies in block g. -/
def RefR (col : Col) (k : Nat) (w : World) (g : Nat) (m : CSt Int) : Prop := GoodR m ∧ ∃ vN vV, RefRB col k w g m.n m.ns m.vals vN vV
def DidRR (col : Col) (k : Nat) (w : World) (g : Nat) (m : CSt Int) (w' : World) : Prop := ∃ col', RefR col' k w' g m ∧ StepC (Rng k) col w col' w'
section
variable {P : Nat → Prop} {col col' : Col} {w w' : World} {k g n n' : Nat} {m : CSt Int} {N N' V V' : List Int} {vN vV v' : Value} {i : Nat} {p : Nat × Int}
theorem RefRB.keep (h : RefRB col k w g n N V vN vV) (hs : StepC P col w col' w') (hp : ∀ c, Rng k c → ¬ P c) : RefRB col' k w' g n N V vN vV :=
  ⟨h.box.keep hs (hp _ ⟨Nat.le_refl _, by omega⟩), h.ns.keep hs (hp _ ⟨by omega, by omega⟩), h.vs.keep hs (hp _ ⟨by omega, by omega⟩), h.k1⟩
theorem RefR.keep (h : RefR col k w g m) (hs : StepC P col w col' w') (hp : ∀ c, Rng k c → ¬ P c) : RefR col' k w' g m := by
  obtain ⟨hG, _, _, h⟩ := h
  exact ⟨hG, _, _, h.keep hs hp⟩
theorem RefRB.below (h : RefRB col k w g n N V vN vV) (ht : Tidy col w) (hb : Below w.heap.size w w') : RefRB col k w' g n N V vN vV := h.keep (P := fun _ => False) (StepC.below ht hb) (fun _ _ h => h)
theorem RefR.below (h : RefR col k w g m) (ht : Tidy col w) (hb : Below w.heap.size w w') : RefR col k w' g m := h.keep (P := fun _ => False) (StepC.below ht hb) (fun _ _ h => h)
theorem RefRB.newN (h : RefRB col k w g n N V vN vV) (ht : Tidy col w) (hB : Below w.heap.size w w') (hO : OwnK kI w' v' N') (hN : New w v') :
    ∃ col', RefRB col' k (w'.setCell ⟨g, 1, none⟩ v') g n N' V v' vV ∧ StepC (Rng k) col w col' (w'.setCell ⟨g, 1, none⟩ v') := by
  have s1 : StepC (fun _ => False) col w (dye col v'.ownBlock (k + 1)) w' := StepC.newRow ht hB fun b e => ⟨hN b e, hO.lt b e⟩
  have b1 := h.box.keep s1 (fun h => h)
  have s2 : StepC (fun c => c = k) _ w' _ (w'.setCell ⟨g, 1, none⟩ v') := StepC.set s1.tidy (a := ⟨g, 1, none⟩) b1.col v'
  exact ⟨_, ⟨b1.put 1 v', (OwnKc.mk' (c := k + 1) kI hO).keep s2 (by omega), (h.vs.keep s1 (fun h => h)).keep s2 (by omega), h.k1⟩, (s1.mono fun _ h => h.elim).trans (s2.mono fun c e => ⟨by omega, by omega⟩)⟩
theorem RefRB.newV (h : RefRB col k w g n N V vN vV) (ht : Tidy col w) (hB : Below w.heap.size w w') (hO : OwnK kU w' v' V') (hN : New w v') :
    ∃ col', RefRB col' k (w'.setCell ⟨g, 2, none⟩ v') g n N V' vN v' ∧ StepC (Rng k) col w col' (w'.setCell ⟨g, 2, none⟩ v') := by
  have s1 : StepC (fun _ => False) col w (dye col v'.ownBlock (k + 2)) w' := StepC.newRow ht hB fun b e => ⟨hN b e, hO.lt b e⟩
  have b1 := h.box.keep s1 (fun h => h)
  have s2 : StepC (fun c => c = k) _ w' _ (w'.setCell ⟨g, 2, none⟩ v') := StepC.set s1.tidy (a := ⟨g, 2, none⟩) b1.col v'
  exact ⟨_, ⟨b1.put 2 v', (h.ns.keep s1 (fun h => h)).keep s2 (by omega), (OwnKc.mk' (c := k + 2) kU hO).keep s2 (by omega), h.k1⟩, (s1.mono fun _ h => h.elim).trans (s2.mono fun c e => ⟨by omega, by omega⟩)⟩
theorem RefR.tuck (hG : GoodR m) {N V : List Int} (h : RefRB col k w g m.n N V vN vV) (hN : N = m.ns) (hV : V = m.vals) : RefR col k w g m := by subst hN hV; exact ⟨hG, _, _, h⟩
theorem RefRB.atN (h : RefRB col k w g n m.ns V vN vV) (hp : m.l[i]? = some p) : ∃ b c, vN = .slice (some ⟨b, 0, none⟩) m.l.length c ∧ w.cell? ⟨b, i, none⟩ = some (.int .i64 (p.1 : Int)) ∧ (m.l.length ≤ c ∧ c ≤ 9223372036854775807) := by
  have hl := (List.getElem?_eq_some_iff.1 hp).1
  obtain ⟨A, c, rfl, hR, _⟩ := h.ns.own.form (ns_len m)
  have hown := h.ns.own
  obtain ⟨b, rfl, _⟩ := hown.head (by omega)
  have := hown.cell (j := i) (i := 0) (a := (p.1 : Int)) (u := .int .i64 (p.1 : Int)) (by simp [CSt.ns, hp]) rfl
  exact ⟨b, c, rfl, by simpa [kI] using this, ⟨hR.cap, hR.max⟩⟩
theorem RefRB.atV (h : RefRB col k w g n N m.vals vN vV) (hp : m.l[i]? = some p) : ∃ b c, vV = .slice (some ⟨b, 0, none⟩) m.l.length c ∧ w.cell? ⟨b, i, none⟩ = some (.int .u64 p.2) ∧ (m.l.length ≤ c ∧ c ≤ 9223372036854775807) := by
  have hl := (List.getElem?_eq_some_iff.1 hp).1
  obtain ⟨A, c, rfl, hR, _⟩ := h.vs.own.form (vs_len m)
  have hown := h.vs.own
  obtain ⟨b, rfl, _⟩ := hown.head (by omega)
  have := hown.cell (j := i) (i := 0) (a := p.2) (u := .int .u64 p.2) (by simp [CSt.vals, hp]) rfl
  exact ⟨b, c, rfl, by simpa [kU] using this, ⟨hR.cap, hR.max⟩⟩
set_option maxHeartbeats 1000000 in
theorem rrPlace (H : RefR col k w g m) (z : Int) (hz : -9223372036854775808 ≤ z ∧ z ≤ 9223372036854775807) :
    Calls Tryd.prog 35 #[.pointer (some ⟨g, 0, none⟩), .int .i64 z] w fun e w' => e = .returned (.int .i64 (plC m.l z)) ∧ w' = w := by
  obtain ⟨hG, vN, vV, H⟩ := H
  have hlen := hG.c.len
  have hn8 := hG.c.n8
  have HH := Lib.hid H
  obtain ⟨A, c, hv, hR, _⟩ := H.ns.own.form (ns_len m)
  subst hv
  have x1 : w.cell? ⟨g, 1, none⟩ = some (.slice A m.l.length c) := H.box.cell 1 rfl
  have hcap := hR.cap
  have hmax := hR.max
  clear H hG hR
  go_enter Tryd.func35, Tryd.ntmps35
  go_wp2
  go_loopw [12] (fun i wr => ∃ j : Nat, j ≤ m.l.length ∧ i = .int .i64 (j : Int) ∧ wr = w ∧ ∀ i q, i < j → m.l[i]? = some q → (q.1 : Int) ≠ z) (fun i _ => m.l.length - (intOf i).toNat)
  case atStart => exact ⟨0, Nat.zero_le _, rfl, rfl, fun i q h => absurd h (by omega)⟩
  case round =>
    obtain ⟨j, hj, rfl, hwr, hb⟩ := hrel
    subst hwr
    by_cases hlt : j < m.l.length
    · obtain ⟨p, hp⟩ : ∃ p, m.l[j]? = some p := ⟨_, List.getElem?_eq_getElem hlt⟩
      obtain ⟨b, c', he, y1, _⟩ := HH.out.atN hp
      injection he with he _ _
      subst he
      have hlt2 : (j : Int) < (m.l.length : Int) := by omega
      by_cases hz : (p.1 : Int) = z
      · have HE := Lib.hid (plC_scan hp hb hz)
        have hbe : ((p.1 : Int) == z) = true := by rw [beq_iff_eq]; exact hz
        clear hb hp hz HH
        go_wp2
        go_ret
        exact ⟨ret_i64 (by unfold plC; rw [HE.out]), rfl⟩
      · have hb2 := Lib.hid (show ∀ i q, i < j + 1 → m.l[i]? = some q → (q.1 : Int) ≠ z from fun i q hi hq => by
          rcases Nat.lt_or_ge i j with h1 | h1
          · exact hb i q h1 hq
          · obtain rfl : i = j := by omega
            rw [hp] at hq; injection hq with hq; rw [← hq]; exact hz)
        have hbe : ((p.1 : Int) == z) = false := by rw [beq_eq_false_iff_ne]; exact hz
        clear hb hp hz
        go_wp2
        go_roundw
        case rel => exact ⟨j + 1, by omega, by go_num, by first | rfl | trivial, hb2.out⟩
        case measure => (simp [intOf] <;> omega)
    · have HE := Lib.hid (plC_end (z := z) (l := m.l) fun i q hi hq => hb i q (by omega) hq)
      have hlt2 : ¬ (j : Int) < (m.l.length : Int) := by omega
      clear hb HH
      go_wp2
      go_ret
      exact ⟨ret_i64 (by unfold plC; rw [HE.out]), rfl⟩
end
end Go.Proofs.YtopjnalehllgcaaDoor
