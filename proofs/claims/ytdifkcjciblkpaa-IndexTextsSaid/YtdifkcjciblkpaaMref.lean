/- The specified table (heavykeysref08.Map) in memory: at, Get. Conditions: none beyond those typed. -/
import Derived.Test.YtdifkcjciblkpaaMmath
import Derived.Test.YtdifkcjciblkpaaZcol
import Derived.Test.YtdifkcjciblkpaaAm
import Derived.Test.YtdifkcjciblkpaaKtext
import Derived.Test.YtdifkcjciblkpaaTm
import Derived.BigQuiet
namespace Go.Proofs.Ytdifkcjciblkpaa
open Go.ChangeShapes Go.WideShapes Go.ChangeAt Go.RowKit
set_option linter.unusedVariables false
set_option linter.unusedSimpArgs false
set_option maxRecDepth 100000

/-- A table's box and its two rows. -/
structure RefMB (col : Col) (k : Nat) (w : World) (g : Nat) (n : Nat) (K : List ByteArray) (V : List Int) (vK vV : Value) : Prop where
  box : BoxC col w g k #[.int .i64 n, vK, vV] 65
  ks : OwnKc kT col w (k + 1) vK K
  vs : OwnKc kI col w (k + 2) vV V
  k1 : 1 ≤ k
/-- The specified table m lies in block g. -/
def RefM (col : Col) (k : Nat) (w : World) (g : Nat) (m : MSt Int) : Prop := GoodM m ∧ ∃ vK vV, RefMB col k w g m.n m.keys m.vals vK vV
def DidRM (col : Col) (k : Nat) (w : World) (g : Nat) (m : MSt Int) (w' : World) : Prop := ∃ col', RefM col' k w' g m ∧ StepC (Rng k) col w col' w'
section
variable {P : Nat → Prop} {col col' : Col} {w w' : World} {k g n n' : Nat} {m : MSt Int} {K K' : List ByteArray} {V V' : List Int} {vK vV v' : Value} {s : ByteArray} {i : Nat} {p : ByteArray × Int}
theorem RefMB.keep (h : RefMB col k w g n K V vK vV) (hs : StepC P col w col' w') (hp : ∀ c, Rng k c → ¬ P c) : RefMB col' k w' g n K V vK vV :=
  ⟨h.box.keep hs (hp _ ⟨Nat.le_refl _, by omega⟩), h.ks.keep hs (hp _ ⟨by omega, by omega⟩), h.vs.keep hs (hp _ ⟨by omega, by omega⟩), h.k1⟩
theorem RefM.keep (h : RefM col k w g m) (hs : StepC P col w col' w') (hp : ∀ c, Rng k c → ¬ P c) : RefM col' k w' g m := by
  obtain ⟨hG, _, _, h⟩ := h
  exact ⟨hG, _, _, h.keep hs hp⟩
theorem RefMB.below (h : RefMB col k w g n K V vK vV) (ht : Tidy col w) (hb : Below w.heap.size w w') : RefMB col k w' g n K V vK vV := h.keep (P := fun _ => False) (StepC.below ht hb) (fun _ _ h => h)
theorem RefM.below (h : RefM col k w g m) (ht : Tidy col w) (hb : Below w.heap.size w w') : RefM col k w' g m := h.keep (P := fun _ => False) (StepC.below ht hb) (fun _ _ h => h)
/-- The row of keys, of values is another one, in new memory. -/
theorem RefMB.newK (h : RefMB col k w g n K V vK vV) (ht : Tidy col w) (hB : Below w.heap.size w w') (hO : OwnK kT w' v' K') (hN : New w v') :
    ∃ col', RefMB col' k (w'.setCell ⟨g, 1, none⟩ v') g n K' V v' vV ∧ StepC (Rng k) col w col' (w'.setCell ⟨g, 1, none⟩ v') := by
  have s1 : StepC (fun _ => False) col w (dye col v'.ownBlock (k + 1)) w' := StepC.newRow ht hB fun b e => ⟨hN b e, hO.lt b e⟩
  have b1 := h.box.keep s1 (fun h => h)
  have s2 : StepC (fun c => c = k) _ w' _ (w'.setCell ⟨g, 1, none⟩ v') := StepC.set s1.tidy (a := ⟨g, 1, none⟩) b1.col v'
  exact ⟨_, ⟨b1.put 1 v', (OwnKc.mk' (c := k + 1) kT hO).keep s2 (by omega), (h.vs.keep s1 (fun h => h)).keep s2 (by omega), h.k1⟩, (s1.mono fun _ h => h.elim).trans (s2.mono fun c e => ⟨by omega, by omega⟩)⟩
theorem RefMB.newV (h : RefMB col k w g n K V vK vV) (ht : Tidy col w) (hB : Below w.heap.size w w') (hO : OwnK kI w' v' V') (hN : New w v') :
    ∃ col', RefMB col' k (w'.setCell ⟨g, 2, none⟩ v') g n K V' vK v' ∧ StepC (Rng k) col w col' (w'.setCell ⟨g, 2, none⟩ v') := by
  have s1 : StepC (fun _ => False) col w (dye col v'.ownBlock (k + 2)) w' := StepC.newRow ht hB fun b e => ⟨hN b e, hO.lt b e⟩
  have b1 := h.box.keep s1 (fun h => h)
  have s2 : StepC (fun c => c = k) _ w' _ (w'.setCell ⟨g, 2, none⟩ v') := StepC.set s1.tidy (a := ⟨g, 2, none⟩) b1.col v'
  exact ⟨_, ⟨b1.put 2 v', (h.ks.keep s1 (fun h => h)).keep s2 (by omega), (OwnKc.mk' (c := k + 2) kI hO).keep s2 (by omega), h.k1⟩, (s1.mono fun _ h => h.elim).trans (s2.mono fun c e => ⟨by omega, by omega⟩)⟩
theorem RefMB.setV {b d : Nat} {z : Int} (h : RefMB col k w g n K V vK (.slice (some ⟨b, 0, none⟩) n' d)) (ht : Tidy col w) (hi : i < V.length) :
    RefMB col k (w.setCell ⟨b, i, none⟩ (.int .i64 z)) g n K (V.set i z) vK (.slice (some ⟨b, 0, none⟩) n' d) ∧ StepC (Rng k) col w col (w.setCell ⟨b, i, none⟩ (.int .i64 z)) := by
  have s : StepC (fun c => c = k + 2) col w col (w.setCell ⟨b, i, none⟩ (.int .i64 z)) := StepC.set ht (a := ⟨b, i, none⟩) h.vs.col.of _
  have h2 := h.vs.set (j := i) (i := 0) (a' := z) (u := .int .i64 z) (List.getElem?_eq_getElem hi) (by simp [kI]) rfl
  rw [show i * kI.k + 0 = i by simp [kI]] at h2
  exact ⟨⟨h.box.keep s (by omega), h.ks.keep s (by omega), h2, h.k1⟩, s.mono fun c e => ⟨by omega, by omega⟩⟩
theorem keys_len (m : MSt Int) : m.keys.length = m.l.length := by simp [MSt.keys]
theorem vals_len (m : MSt Int) : m.vals.length = m.l.length := by simp [MSt.vals]
theorem look_is {l : List (ByteArray × Int)} {p : ByteArray × Int} (h : Srt l) (hp : l[placeM l s]? = some p) : (lookM l s).isSome = decide (p.1 = s) := by
  rw [look_place h, hp]
  by_cases e : p.1 = s
  · simp [e]
  · simp [e]
theorem look_off {l : List (ByteArray × Int)} (h : Srt l) (hp : l.length ≤ placeM l s) : lookM l s = none := by
  rw [look_place h, List.getElem?_eq_none hp]
set_option maxHeartbeats 1000000 in
theorem rmAt (H : RefM col k w g m) (s : ByteArray) :
    Calls Try.prog 39 #[.pointer (some ⟨g, 0, none⟩), .string s] w fun e w' => e = .returned (.tuple #[.int .i64 (placeM m.l s : Nat), .bool (m.look s).isSome]) ∧ Below w.heap.size w w' := by
  obtain ⟨hG, vK, vV, H⟩ := H
  have hlen := hG.len
  have hn8 := hG.n8
  obtain ⟨A, c, rfl, hR, hA⟩ := H.ks.own.form (keys_len m)
  have x1 : w.cell? ⟨g, 1, none⟩ = some (.slice A m.l.length c) := H.box.cell 1 rfl
  have hown := H.ks.own
  have hcap := hR.cap
  have hmax := hR.max
  have hple := place_le m.l s
  have hS := hG.srt
  clear H hG
  go_enter Try.func39, Try.ntmps39
  go_wp2
  go_loopw [6] (fun i wr => ∃ j : Nat, j ≤ placeM m.l s ∧ i = .int .i64 (j : Int) ∧ wr = w) (fun i _ => m.l.length - (intOf i).toNat)
  case atStart => exact ⟨0, Nat.zero_le _, rfl, rfl⟩
  case round =>
    obtain ⟨j, hj, rfl, hwr⟩ := hrel
    subst hwr
    have hj8 : (j : Int) ≤ 8192 := by omega
    by_cases hlt : j < m.l.length
    · obtain ⟨p, hp⟩ : ∃ p, m.l[j]? = some p := ⟨_, List.getElem?_eq_getElem hlt⟩
      obtain ⟨b, rfl, _⟩ := hown.head (by omega)
      have y1 : wr.cell? ⟨b, j, none⟩ = some (.string p.1) := by
        have := hown.cell (j := j) (i := 0) (a := p.1) (u := .string p.1) (by simp [MSt.keys, hp]) rfl
        simpa [kT] using this
      have hlt2 : (j : Int) < (m.l.length : Int) := by omega
      have hw : IntKind.i64.wrap ((j : Int) + 1) = (j : Int) + 1 := by rw [IntKind.wrap_i64]; omega
      cases hb : Op.bytesLess p.1.toList s.toList with
      | true =>
        have hj2 : j + 1 ≤ placeM m.l s := by
          rcases Nat.lt_or_ge j (placeM m.l s) with h1 | h1
          · exact h1
          · obtain rfl : j = placeM m.l s := by omega
            have h2 : Op.bytesLess p.1.toList s.toList = false := place_at hp
            rw [hb] at h2; cases h2
        clear hS hp hA hown hR
        go_wp2
        go_roundw
        case rel => exact ⟨j + 1, hj2, by go_num, by first | rfl | trivial⟩
        case measure => (simp [intOf] <;> omega)
      | false =>
        have hj2 : j = placeM m.l s := by
          rcases Nat.lt_or_ge j (placeM m.l s) with h1 | h1
          · have h2 : Op.bytesLess p.1.toList s.toList = true := place_before h1 hp
            rw [hb] at h2; cases h2
          · omega
        have HL := Lib.hid (show (m.look s).isSome = decide (p.1 = s) by rw [hj2] at hp; exact look_is hS hp)
        have HJ := Lib.hid hj2
        by_cases he : p.1 = s
        · have hbe : (p.1.toList == s.toList) = true := by rw [str_beq]; exact decide_eq_true he
          have HE := Lib.hid he
          clear hS hp hA hown hR hj2 hple he hj
          go_wp2
          go_quiet (fail)
          go_wp2
          go_ret2
          rw [HL.out, ← HJ.out, decide_eq_true HE.out]
          exact ⟨rfl, below_drewN (Below.refl _ _) _⟩
        · have hbe : (p.1.toList == s.toList) = false := by rw [str_beq]; exact decide_eq_false he
          have HE := Lib.hid he
          clear hS hp hA hown hR hj2 hple he hj
          go_wp2
          go_quiet (fail)
          go_wp2
          go_ret2
          rw [HL.out, ← HJ.out, decide_eq_false HE.out]
          exact ⟨rfl, below_drewN (Below.refl _ _) _⟩
    · have hj2 : j = placeM m.l s := by omega
      have HL := Lib.hid (show m.look s = none from look_off hS (by omega))
      have HJ := Lib.hid hj2
      have hjl : j = m.l.length := by omega
      have hlt2 : ¬ (j : Int) < (m.l.length : Int) := by omega
      have hd1 := Lib.hid (show decide ((j : Int) < (m.l.length : Int)) = false by simp; omega)
      have hd2 := Lib.hid (show decide (j < m.l.length) = false by simp; omega)
      clear hS hA hown hR hj2 hple hj hlt hjl
      go_wp2
      clear hlt2
      replace hd1 := hd1.out
      replace hd2 := hd2.out
      go_quiet (fail)
      go_wp2
      go_ret2
      rw [HL.out, ← HJ.out]
      exact ⟨rfl, below_drewN (Below.refl _ _) _⟩
/-- What Get returns. -/
def getV (m : MSt Int) (s : ByteArray) : Int × Bool := ((m.look s).getD 0, (m.look s).isSome)
theorem RefMB.at_ (h : RefMB col k w g n K m.vals vK vV) (hp : m.l[i]? = some p) : ∃ b c, vV = .slice (some ⟨b, 0, none⟩) m.l.length c ∧ w.cell? ⟨b, i, none⟩ = some (.int .i64 p.2) ∧ (m.l.length ≤ c ∧ c ≤ 9223372036854775807) ∧ w.frozen? ⟨b, i, none⟩ = false := by
  have hl := (List.getElem?_eq_some_iff.1 hp).1
  obtain ⟨A, c, rfl, hR, _⟩ := h.vs.own.form (vals_len m)
  have hown := h.vs.own
  obtain ⟨b, rfl, _⟩ := hown.head (by omega)
  have := hown.cell (j := i) (i := 0) (a := p.2) (u := .int .i64 p.2) (by simp [MSt.vals, hp]) rfl
  exact ⟨b, c, rfl, by simpa [kI] using this, ⟨hR.cap, hR.max⟩, hown.free i⟩
set_option maxHeartbeats 1000000 in
theorem rmGet (H : RefM col k w g m) (ht : Tidy col w) (s : ByteArray) :
    Calls Try.prog 22 #[.pointer (some ⟨g, 0, none⟩), .string s] w fun e w' => e = .returned (.tuple #[.int .i64 (getV m s).1, .bool (getV m s).2]) ∧ Below w.heap.size w w' := by
  unfold getV
  go_enter Try.func22, Try.ntmps22
  go_wp2_with fail
  refine (rmAt H s).mono ?_
  rintro e w1 ⟨rfl, hb1⟩
  obtain ⟨hG, vK, vV, H1⟩ := H.below ht hb1
  cases hl : m.look s with
  | some u =>
    have HL := Lib.hid hl
    have hp := look_some hG.srt hl
    obtain ⟨b, c, rfl, y1, ⟨q1, q2⟩, _⟩ := H1.at_ hp
    have hlt := (List.getElem?_eq_some_iff.1 hp).1
    have hlen := hG.len
    have hn8 := hG.n8
    have x2 : w1.cell? ⟨g, 2, none⟩ = some (.slice (some ⟨b, 0, none⟩) m.l.length c) := H1.box.cell 2 rfl
    generalize placeM m.l s = j at *
    have hj2 : (j : Int) < (m.l.length : Int) := by omega
    clear H H1 hp hl hG hlt hlen
    go_wp2
    go_ret2
    rw [HL.out]
    exact ⟨rfl, hb1⟩
  | none =>
    have HL := Lib.hid hl
    clear H H1 hG hl
    go_wp2
    go_ret2
    rw [HL.out]
    exact ⟨rfl, hb1⟩
end
end Go.Proofs.Ytdifkcjciblkpaa
