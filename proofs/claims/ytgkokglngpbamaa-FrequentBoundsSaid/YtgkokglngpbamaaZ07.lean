/- Words laid together in one text. Conditions: none beyond those typed. -/
import Derived.Test.YtgkokglngpbamaaZ06
import Derived.Test.YtgkokglngpbamaaZ04
import Derived.Deep.RegionHeld3
import Derived.Deep.CutRange
import Derived.BigQuiet
/- == on entries; SameEntries on equal lists; the specified table: Entries; Deck.Entry. Conditions: none beyond those typed. -/
namespace Go.Proofs.Ytgkokglngpbamaa
open Go.ChangeShapes Go.WideShapes Go.ChangeAt Go.RowKit
set_option linter.unusedVariables false
set_option linter.unusedSimpArgs false
set_option maxRecDepth 100000

theorem fields_entry : Try.prog.underlying 32 = some (.struct (Try.prog.fieldsOf 32)) := by
  unfold Program.fieldsOf; rw [Try.underlying32]
theorem eqIn_entry (s s' : ByteArray) (t t' x x' : Int) (w : World) : (Op.equalIn 10000 32 (.agg #[.string s, .int .u64 t, .int .u64 x]) (.agg #[.string s', .int .u64 t', .int .u64 x'])).run Try.prog w = .ok (decide (((s, t, x) : En) = (s', t', x'))) w := by
  have h9 := fun w => Try.isAgg9 w
  have h7 := fun w => Try.isAgg30 w
  rw [run_equalIn_agg w 9999 _ _ _ fields_entry (by kernel_rfl)]
  unfold Program.fieldsOf
  rw [Try.underlying32]
  have e1 : ∀ (a b : ByteArray) (d : Nat) (w : World), (Op.equalIn (d + 1) 9 (.string a) (.string b)).run Try.prog w = .ok (decide (a = b)) w := fun a b d w => by
    rw [run_equalIn_string w d _ a b Try.underlying9, str_beq]
  simp [Op.eqFields, part, h9, h7]
  rw [e1]
  simp [Result.andThen, run_equalIn_int]
  by_cases hs : s = s'
  · by_cases ht : t = t'
    · by_cases hx : x = x' <;> simp [hs, ht, hx]
    · simp [hs, ht]
  · simp [hs]
set_option maxHeartbeats 1000000 in
theorem sameEntries_yes (A A' : Option Addr) (n c c' : Nat) (l : List En) (w : World) (h : RdG kEn w A n c l) (h' : RdG kEn w A' n c' l) :
    Calls Try.prog 27 #[.slice A n c, .slice A' n c'] w fun e w' => e = .returned (.bool true) ∧ Below w.heap.size w w' := by
  have hcap := h.cap
  have hmax := h.max
  have hcap' := h'.cap
  have hmax' := h'.max
  go_enter Try.func27, Try.ntmps27
  go_wp2
  go_loopw [13] (fun i wr => ∃ k j : Nat, k ≤ n ∧ i = .int .i64 k ∧ wr = w.drewN j) (fun i _ => n - (intOf i).toNat)
  case atStart => exact ⟨0, 0, Nat.zero_le _, rfl, rfl⟩
  case round =>
    obtain ⟨k, j, hk, rfl, rfl⟩ := hrel
    by_cases hlt : k < n
    · obtain ⟨b, o, p, rfl, hp, z0, z1, z2⟩ := h.atEn hlt
      obtain ⟨b', o', p', rfl, hp', y0, y1, y2⟩ := h'.atEn hlt
      rw [hp] at hp'; injection hp' with hp'; subst hp'
      have hki : (k : Int) < (n : Int) := by omega
      have hQ := eqIn_entry p.1 p.1 p.2.1 p.2.1 p.2.2 p.2.2
      rw [decide_eq_true rfl] at hQ
      clear hp
      go_wp2
      go_quiet (fail)
      go_wp2
      go_roundw
      case rel => exact ⟨k + 1, _, by omega, by go_num, rfl⟩
      case measure => (simp [intOf] <;> omega)
    · have hki : ¬ (k : Int) < (n : Int) := by omega
      go_wp2
      go_ret
      exact ⟨rfl, below_drewN (Below.refl _ _) j⟩
theorem get_own {t : TSt} (G : GoodT t) {i : Nat} {e : En} (he : t.l[i]? = some e) : t.get e.1 = (e, true) := by
  have hp : placeE t.l e.1 = some i := placeE_at he rfl fun j x hj hx hxe => by
    have hn := G.nd
    have h1 : (t.l.map Prod.fst)[j]? = some e.1 := by rw [List.getElem?_map, hx, ← hxe]; rfl
    have h2 : (t.l.map Prod.fst)[i]? = some e.1 := by rw [List.getElem?_map, he]; rfl
    obtain ⟨a, ha⟩ := List.getElem?_eq_some_iff.1 h1
    obtain ⟨b, hb⟩ := List.getElem?_eq_some_iff.1 h2
    exact List.pairwise_iff_getElem.1 hn j i a b hj (ha.trans hb.symm)
  unfold TSt.get
  rw [hp]
  show ((t.l[i]?).getD zeroE, true) = _
  rw [he]; rfl
section
variable {col : Col} {w w' : World} {k g : Nat} {t : TSt}
set_option maxHeartbeats 2000000 in
theorem rtEntries (H : RefT col k w g t) (ht : Tidy col w) : Calls Try.prog 28 #[.pointer (some ⟨g, 0, none⟩)] w (RowOut kEn w (sortE t.l)) := by
  have HH := Lib.hid H
  obtain ⟨A, c, x2, R, hl6, _⟩ := H.rows
  have hcap := R.cap
  have hmax := R.max
  obtain ⟨N, hN⟩ : ∃ N, t.l.length = N := ⟨_, rfl⟩
  rw [hN] at x2 R hcap hl6
  have hG := Lib.hid H.1
  clear H
  go_enter Try.func28, Try.ntmps28
  go_wp2
  go_loopw [3, 13] (fun v iv wr => ∃ i : Nat, i ≤ N ∧ iv = .int .i64 (i : Int) ∧ OwnK kEn wr v (t.l.take i) ∧ New w v ∧ Below w.heap.size w wr) (fun _ iv _ => N - (intOf iv).toNat)
  case atStart => exact ⟨0, Nat.zero_le _, rfl, OwnK.nil kEn _, fun q hq => by simp [Value.ownBlock] at hq, Below.refl _ _⟩
  case round =>
    obtain ⟨i, hi, rfl, hO, hNw, hB⟩ := hrel
    by_cases hlt : i < N
    · obtain ⟨b, o, e, rfl, he, z0, z1, z2⟩ := (R.below hB).atEn hlt
      have hiI : (i : Int) < (N : Int) := by omega
      have hbW1 : Below w.heap.size w (wr.alloc (.cells (VE e) 32)) := hB.alloc hB.size _
      have c0 : (wr.alloc (.cells (VE e) 32)).cell? ⟨wr.heap.size, 0, none⟩ = some (.string e.1) := (World.cell?_alloc_at (w := wr) _ _ _ _ rfl).trans rfl
      have hGt := rtGet (HH.out.below ht hbW1) (ht.size hbW1.size) e.1
      rw [get_own hG.out he] at hGt
      have hTk := Lib.hid (show t.l.take i ++ [e] = t.l.take (i + 1) by rw [List.take_add_one, he]; rfl)
      have hlo : (t.l.take i).length = i := by rw [List.length_take]; omega
      obtain ⟨lo, hlo2⟩ : ∃ lo, t.l.take i = lo := ⟨_, rfl⟩
      rw [hlo2] at hO hTk hlo
      obtain ⟨Ao, co, rfl, _, _⟩ := hO.form hlo
      obtain ⟨W1, hW1⟩ : ∃ W, W = wr.alloc (.cells (VE e) 32) := ⟨_, rfl⟩
      have O1 : OwnK kEn W1 (.slice Ao i co) lo := by rw [hW1]; exact hO.alloc _
      rw [← hW1] at hGt hbW1
      clear hB hO he hlo2
      go_wp2_with fail
      rw [← hW1]
      clear hW1 c0 z0 z1 z2
      refine hGt.mono ?_
      rintro e' w2 ⟨rfl, b2⟩
      clear hGt
      have O2 := O1.below b2
      have B2 := below_then hbW1 b2
      clear O1 b2 hbW1
      have B3 := B2.alloc B2.size (.cells (VE e) 32)
      have n0 : (w2.alloc (.cells (VE e) 32)).cell? ⟨w2.heap.size, 0, none⟩ = some (.string e.1) := (World.cell?_alloc_at (w := w2) _ _ _ _ rfl).trans rfl
      have n1 : (w2.alloc (.cells (VE e) 32)).cell? ⟨w2.heap.size, 1, none⟩ = some (.int .u64 e.2.1) := (World.cell?_alloc_at (w := w2) _ _ _ _ rfl).trans rfl
      have n2 : (w2.alloc (.cells (VE e) 32)).cell? ⟨w2.heap.size, 2, none⟩ = some (.int .u64 e.2.2) := (World.cell?_alloc_at (w := w2) _ _ _ _ rfl).trans rfl
      have B4 := B3.alloc B3.size (.cells (VE e) 32)
      have O4 : OwnK kEn ((w2.alloc (.cells (VE e) 32)).alloc (.cells (VE e) 32)) (.slice Ao i co) lo := (O2.alloc _).alloc _
      have R4 : RdG kEn ((w2.alloc (.cells (VE e) 32)).alloc (.cells (VE e) 32)) (some ⟨w2.heap.size + 1, 0, none⟩) 1 1 [e] := RdG.one2 kEn e rfl rfl (by simp)
      have hby : lo.length + 1 ≤ 1000000000 := by omega
      clear O2 B2 B3
      go_wp2_with (at_builtin; refine wpList_appK kEn rfl (.tmp 24) (.tmp 26) rfl _ lo rfl _ 1 1 [e] rfl O4 R4 hby ?_; intro v7 w7 O7 G7 hat7; have N7 : New w v7 := New.app hNw B4 hat7; have B7 := B4.grown G7 B4.size (fun q hq => hNw q hq); rw [hTk.out] at O7; clear O4 R4 G7 hat7 B4)
      go_roundw
      case rel => exact ⟨i + 1, by omega, by go_num, O7, N7, B7⟩
      case measure => (simp [intOf] <;> omega)
    · have hin : i = N := by omega
      have hiI : ¬ (i : Int) < (N : Int) := by omega
      rw [hin, List.take_of_length_le (by omega)] at hO
      obtain ⟨Ao, co, rfl, hR, hform⟩ := hO.form (n := N) hN
      have hS := sorted_any hR (by omega)
      clear hO hform hR R hNw
      go_wp2_with fail
      refine hS.mono ?_
      rintro e' w2 ⟨A2, n2, d2, hl2, rfl, R2, hA2, b2⟩
      have HR := Lib.hid (And.intro R2 (And.intro (fun b o sp e => Nat.le_trans hB.size (hA2 b o sp e)) (below_then hB b2)))
      clear hS R2 hA2 b2 hB
      go_wp2
      go_ret
      exact ⟨A2, n2, d2, hl2, rfl, HR.out.1, HR.out.2.1, HR.out.2.2⟩
end
end Go.Proofs.Ytgkokglngpbamaa

/- The specified table (mode Frequent): Entries. Conditions: none beyond those typed. -/
namespace Go.Proofs.Ytgkokglngpbamaa
open Go.ChangeShapes Go.WideShapes Go.ChangeAt Go.RowKit
set_option linter.unusedVariables false
set_option linter.unusedSimpArgs false
set_option maxRecDepth 100000

theorem get_ownF {t : TSt} (G : GoodF t) {i : Nat} {e : En} (he : t.l[i]? = some e) : t.getF e.1 = (t.tellF e, true) := by
  have hp : placeE t.l e.1 = some i := placeE_at he rfl fun j x hj hx hxe => by
    have hn := G.nd
    have h1 : (t.l.map Prod.fst)[j]? = some e.1 := by rw [List.getElem?_map, hx, ← hxe]; rfl
    have h2 : (t.l.map Prod.fst)[i]? = some e.1 := by rw [List.getElem?_map, he]; rfl
    obtain ⟨a, ha⟩ := List.getElem?_eq_some_iff.1 h1
    obtain ⟨b, hb⟩ := List.getElem?_eq_some_iff.1 h2
    exact List.pairwise_iff_getElem.1 hn j i a b hj (ha.trans hb.symm)
  unfold TSt.getF
  rw [hp]
  show (t.tellF ((t.l[i]?).getD zeroE), true) = _
  rw [he]; rfl
section
variable {col : Col} {w w' : World} {k g : Nat} {t : TSt}
set_option maxHeartbeats 2000000 in
theorem rfEntries (H : RefF col k w g t) (ht : Tidy col w) : Calls Try.prog 28 #[.pointer (some ⟨g, 0, none⟩)] w (RowOut kEn w (sortE (t.l.map t.tellF))) := by
  have HH := Lib.hid H
  obtain ⟨A, c, x2, R, hl6, _, _⟩ := H.rows
  have hcap := R.cap
  have hmax := R.max
  obtain ⟨N, hN⟩ : ∃ N, t.l.length = N := ⟨_, rfl⟩
  rw [hN] at x2 R hcap hl6
  have hG := Lib.hid H.1
  clear H
  go_enter Try.func28, Try.ntmps28
  go_wp2
  go_loopw [3, 13] (fun v iv wr => ∃ i : Nat, i ≤ N ∧ iv = .int .i64 (i : Int) ∧ OwnK kEn wr v ((t.l.map t.tellF).take i) ∧ New w v ∧ Below w.heap.size w wr) (fun _ iv _ => N - (intOf iv).toNat)
  case atStart => exact ⟨0, Nat.zero_le _, rfl, OwnK.nil kEn _, fun q hq => by simp [Value.ownBlock] at hq, Below.refl _ _⟩
  case round =>
    obtain ⟨i, hi, rfl, hO, hNw, hB⟩ := hrel
    by_cases hlt : i < N
    · obtain ⟨b, o, e, rfl, he, z0, z1, z2⟩ := (R.below hB).atEn hlt
      have hiI : (i : Int) < (N : Int) := by omega
      have hbW1 : Below w.heap.size w (wr.alloc (.cells (VE e) 32)) := hB.alloc hB.size _
      have c0 : (wr.alloc (.cells (VE e) 32)).cell? ⟨wr.heap.size, 0, none⟩ = some (.string e.1) := (World.cell?_alloc_at (w := wr) _ _ _ _ rfl).trans rfl
      have hGt := rfGet (HH.out.below ht hbW1) (ht.size hbW1.size) e.1
      rw [get_ownF hG.out he] at hGt
      have hTk := Lib.hid (show (t.l.map t.tellF).take i ++ [t.tellF e] = (t.l.map t.tellF).take (i + 1) by rw [List.take_add_one, List.getElem?_map, he]; rfl)
      have hlo : ((t.l.map t.tellF).take i).length = i := by rw [List.length_take, List.length_map]; omega
      obtain ⟨te, hte⟩ : ∃ te, t.tellF e = te := ⟨_, rfl⟩
      rw [hte] at hTk hGt
      obtain ⟨lo, hlo2⟩ : ∃ lo, (t.l.map t.tellF).take i = lo := ⟨_, rfl⟩
      rw [hlo2] at hO hTk hlo
      obtain ⟨Ao, co, rfl, _, _⟩ := hO.form hlo
      obtain ⟨W1, hW1⟩ : ∃ W, W = wr.alloc (.cells (VE e) 32) := ⟨_, rfl⟩
      have O1 : OwnK kEn W1 (.slice Ao i co) lo := by rw [hW1]; exact hO.alloc _
      rw [← hW1] at hGt hbW1
      clear hB hO he hlo2 hte
      go_wp2_with fail
      rw [← hW1]
      clear hW1 c0 z0 z1 z2
      refine hGt.mono ?_
      rintro e' w2 ⟨rfl, b2⟩
      clear hGt
      have O2 := O1.below b2
      have B2 := below_then hbW1 b2
      clear O1 b2 hbW1
      have B3 := B2.alloc B2.size (.cells (VE te) 32)
      have n0 : (w2.alloc (.cells (VE te) 32)).cell? ⟨w2.heap.size, 0, none⟩ = some (.string te.1) := (World.cell?_alloc_at (w := w2) _ _ _ _ rfl).trans rfl
      have n1 : (w2.alloc (.cells (VE te) 32)).cell? ⟨w2.heap.size, 1, none⟩ = some (.int .u64 te.2.1) := (World.cell?_alloc_at (w := w2) _ _ _ _ rfl).trans rfl
      have n2 : (w2.alloc (.cells (VE te) 32)).cell? ⟨w2.heap.size, 2, none⟩ = some (.int .u64 te.2.2) := (World.cell?_alloc_at (w := w2) _ _ _ _ rfl).trans rfl
      have B4 := B3.alloc B3.size (.cells (VE te) 32)
      have O4 : OwnK kEn ((w2.alloc (.cells (VE te) 32)).alloc (.cells (VE te) 32)) (.slice Ao i co) lo := (O2.alloc _).alloc _
      have R4 : RdG kEn ((w2.alloc (.cells (VE te) 32)).alloc (.cells (VE te) 32)) (some ⟨w2.heap.size + 1, 0, none⟩) 1 1 [te] := RdG.one2 kEn te rfl rfl (by simp)
      have hby : lo.length + 1 ≤ 1000000000 := by omega
      clear O2 B2 B3
      go_wp2_with (at_builtin; refine wpList_appK kEn rfl (.tmp 24) (.tmp 26) rfl _ lo rfl _ 1 1 [te] rfl O4 R4 hby ?_; intro v7 w7 O7 G7 hat7; have N7 : New w v7 := New.app hNw B4 hat7; have B7 := B4.grown G7 B4.size (fun q hq => hNw q hq); rw [hTk.out] at O7; clear O4 R4 G7 hat7 B4)
      go_roundw
      case rel => exact ⟨i + 1, by omega, by go_num, O7, N7, B7⟩
      case measure => (simp [intOf] <;> omega)
    · have hin : i = N := by omega
      have hiI : ¬ (i : Int) < (N : Int) := by omega
      rw [hin, List.take_of_length_le (by rw [List.length_map]; omega)] at hO
      obtain ⟨Ao, co, rfl, hR, hform⟩ := hO.form (n := N) (by rw [List.length_map]; exact hN)
      have hS := sorted_any hR (by omega)
      clear hO hform hR R hNw
      go_wp2_with fail
      refine hS.mono ?_
      rintro e' w2 ⟨A2, n2, d2, hl2, rfl, R2, hA2, b2⟩
      have HR := Lib.hid (And.intro R2 (And.intro (fun b o sp e => Nat.le_trans hB.size (hA2 b o sp e)) (below_then hB b2)))
      clear hS R2 hA2 b2 hB
      go_wp2
      go_ret
      exact ⟨A2, n2, d2, hl2, rfl, HR.out.1, HR.out.2.1, HR.out.2.2⟩
end
end Go.Proofs.Ytgkokglngpbamaa

/- The specified table (mode Frequent): stores. Conditions: none beyond those typed. -/
namespace Go.Proofs.Ytgkokglngpbamaa
open Go.ChangeShapes Go.WideShapes Go.ChangeAt Go.RowKit
set_option linter.unusedVariables false
set_option linter.unusedSimpArgs false
set_option maxRecDepth 100000

section
variable {P : Nat → Prop} {col col' : Col} {w w' : World} {k g : Nat} {t : TSt}
theorem RefFB.setSum {A : Option Addr} {c : Nat} (h : RefFB col k w g t A c) (ht : Tidy col w) (y : Int) :
    RefFB col k (w.setCell ⟨g, 4, none⟩ (.int .u64 y)) g { t with sum := y } A c ∧ StepC (Rng k) col w col (w.setCell ⟨g, 4, none⟩ (.int .u64 y)) := by
  have hk := h.k1
  have s1 := StepC.set (P := fun d => d = k) ht (a := ⟨g, 4, none⟩) h.box.col (.int .u64 y)
  exact ⟨⟨h.box.put 4 _, h.row.keep s1 (by omega), hk⟩, s1.mono fun c e => ⟨by omega, by omega⟩⟩
theorem RefFB.setBase {A : Option Addr} {c : Nat} (h : RefFB col k w g t A c) (ht : Tidy col w) (y : Int) :
    RefFB col k (w.setCell ⟨g, 3, none⟩ (.int .u64 y)) g { t with base := y } A c ∧ StepC (Rng k) col w col (w.setCell ⟨g, 3, none⟩ (.int .u64 y)) := by
  have hk := h.k1
  have s1 := StepC.set (P := fun d => d = k) ht (a := ⟨g, 3, none⟩) h.box.col (.int .u64 y)
  exact ⟨⟨h.box.put 3 _, h.row.keep s1 (by omega), hk⟩, s1.mono fun c e => ⟨by omega, by omega⟩⟩
theorem RefFB.grown {A A' : Option Addr} {c c' N : Nat} {e : En} (h : RefFB col k w g t A c) (ht : Tidy col w) (hN : (t.l ++ [e]).length = N) (hO : OwnK kEn w' (.slice A' N c') (t.l ++ [e])) (hg : w.grownBy w' (Value.slice A t.l.length c).ownBlock) (hv : (Value.slice A' N c').ownBlock = (Value.slice A t.l.length c).ownBlock ∨ (Value.slice A' N c').ownBlock = some w.heap.size) :
    ∃ col', RefFB col' k (w'.setCell ⟨g, 2, none⟩ (.slice A' N c')) g { t with l := t.l ++ [e] } A' c' ∧ StepC (Rng k) col w col' (w'.setCell ⟨g, 2, none⟩ (.slice A' N c')) := by
  subst hN
  have hk := h.k1
  have s1 := StepC.app (P := fun d => d = k + 1) ht hg h.row.col rfl hv hO.lt
  have b1 := h.box.keep s1 (by omega)
  have s2 := StepC.set (P := fun d => d = k) s1.tidy (a := ⟨g, 2, none⟩) b1.col (.slice A' (t.l ++ [e]).length c')
  exact ⟨_, ⟨b1.put 2 _, (OwnKc.mk' (c := k + 1) kEn hO).keep s2 (by omega), hk⟩, (s1.mono fun c e => ⟨by omega, by omega⟩).trans (s2.mono fun c e => ⟨by omega, by omega⟩)⟩
/-- Nothing but new memory between: the cell of the row, after an append that grew the row alone. -/
theorem RefFB.far {A : Option Addr} {c : Nat} {v : Value} {w' : World} (h : RefFB col k w g t A c) (ht : Tidy col w) (hg : w.grownBy w' (Value.slice A t.l.length c).ownBlock) : w'.cell? ⟨g, 2, none⟩ = some (.slice A t.l.length c) ∧ (w'.setCell ⟨g, 2, none⟩ v).cell? ⟨g, 2, none⟩ = some v := by
  have s1 := StepC.grownBy (P := fun d => d = k + 1) ht hg fun q hq => h.row.col q hq
  have b1 := h.box.keep s1 (by omega)
  exact ⟨b1.cell 2 rfl, (b1.put 2 v).cell 2 rfl⟩
end
end Go.Proofs.Ytgkokglngpbamaa

/- The specified table (mode Frequent): deduct. Conditions: none beyond those typed. -/
namespace Go.Proofs.Ytgkokglngpbamaa
open Go.ChangeShapes Go.WideShapes Go.ChangeAt Go.RowKit
set_option linter.unusedVariables false
set_option linter.unusedSimpArgs false
set_option maxRecDepth 100000

theorem minO_app (l l' : List En) : ∀ w : Int, minO w (l ++ l') = minO (minO w l) l' := by
  induction l with
  | nil => intro w; rfl
  | cons x l ih => intro w; exact ih (min w x.2.1)
theorem minO_next {l : List En} {j : Nat} {e : En} (h : l[j]? = some e) (w : Int) : minO w (l.take (j + 1)) = min (minO w (l.take j)) e.2.1 := by
  rw [List.take_add_one, h, minO_app]; rfl
theorem dedE_app (d : Int) (l l' : List En) : dedE d (l ++ l') = dedE d l ++ dedE d l' := by
  induction l with
  | nil => rfl
  | cons x a ih =>
    show (if _ then _ else _) = (if _ then _ else _) ++ _
    split <;> simp [ih]
theorem dedE_next {d : Int} {l : List En} {j : Nat} {e : En} (h : l[j]? = some e) : dedE d (l.take (j + 1)) = dedE d (l.take j) ++ if 0 < e.2.1 - d then [(e.1, e.2.1 - d, e.2.2)] else [] := by
  rw [List.take_add_one, h, dedE_app]; rfl
section
variable {P : Nat → Prop} {col col' : Col} {w w' : World} {k g : Nat} {t : TSt}
set_option maxHeartbeats 8000000 in
theorem rfDeduct {A : Option Addr} {c : Nat} {s : ByteArray} {x y : Int} (G : GoodF t) (hf : fitsB t.sum x = true) (hx0 : 0 < x) (hks : s.size ≠ 0) (hp : placeE t.l s = none) (hy : t.sum + x = y) (HB : RefFB col k w g { t with sum := y } A c) (ht : Tidy col w) :
    Calls Try.prog 47 #[.pointer (some ⟨g, 0, none⟩), .string s, .int .u64 x] w fun e w' => e = .returned (.tuple #[]) ∧ DidRF col k w g (t.addF s x).2 w' := by
  have hfl := fits_le hf
  obtain ⟨hs1, hs2, hs3, _⟩ := G.sums
  obtain ⟨n, hn⟩ : ∃ n, t.l.length = n := ⟨_, rfl⟩
  have hm := G.m1
  have hlen := G.len
  have hn6 : n ≤ 64 := by omega
  have hx8 : x ≤ 9223372036854775808 := by omega
  have x1 : w.cell? ⟨g, 1, none⟩ = some (.int .i64 t.m) := HB.box.cell 1 rfl
  have x2 : w.cell? ⟨g, 2, none⟩ = some (.slice A n c) := by rw [← hn]; exact HB.box.cell 2 rfl
  have hRow : RdG kEn w A n c t.l := by rw [← hn]; exact HB.row.own.reads
  have hcap := hRow.cap
  have hmax := hRow.max
  have hxg : x > 0 := hx0
  by_cases hfull : n = t.m
  rotate_left
  · have hF := addF_room (w := x) hks (by omega) hf hp (by omega)
    have hGA := G.addF s (Int.le_of_lt hx0)
    rw [hF] at hGA ⊢
    rw [hy] at hGA ⊢
    have hnm : ((n : Int) == (t.m : Int)) = false := beq_false_of_ne (by omega)
    have hby : t.l.length + 1 ≤ 1000000000 := by omega
    have hl1 : (t.l ++ [((s, x, 0) : En)]).length = n + 1 := by simp [hn]
    have hPk := Lib.hid (show ∀ (w2 : World) (j : Nat) (v7 : Value) (w7 : World), w2 = (w.drewN j).alloc (.cells #[.string s, .int .u64 x, .int .u64 0] 32) → OwnK kEn w7 v7 (t.l ++ [((s, x, 0) : En)]) → w2.grownBy w7 (Value.slice A n c).ownBlock → (v7.ownBlock = (Value.slice A n c).ownBlock ∨ v7.ownBlock = some w2.heap.size) →
        ∃ A7 c7, v7 = .slice A7 (n + 1) c7 ∧ w7.cell? ⟨g, 2, none⟩ = some (.slice A n c) ∧ w7.frozen? ⟨g, 2, none⟩ = false ∧ DidRF col k w g { t with sum := y, l := t.l ++ [(s, x, 0)] } (w7.setCell ⟨g, 2, none⟩ (.slice A7 (n + 1) c7)) from fun w2 j v7 w7 hw2 O7 G7 hat => by
      have b2 : Below w.heap.size w w2 := by rw [hw2]; exact (below_drewN (Below.refl _ _) j).alloc (Nat.le_refl _) _
      have H2 := HB.below ht b2
      have t2 := ht.size b2.size
      obtain ⟨A7, c7, rfl, _, _⟩ := O7.form hl1
      have hn' : ({ t with sum := y } : TSt).l.length = n := hn
      obtain ⟨col7, H7, S7⟩ := H2.grown (e := (s, x, 0)) t2 hl1 O7 (by rw [hn']; exact G7) (by rw [hn']; exact hat)
      have s1 := StepC.grownBy (P := fun d => d = k + 1) t2 G7 fun q hq => H2.row.col q (by rw [hn']; exact hq)
      have hb7 := H2.box.keep s1 (by omega)
      exact ⟨A7, c7, rfl, by rw [← hn']; exact hb7.cell 2 rfl, hb7.free 2, col7, ⟨hGA, A7, c7, H7⟩, (StepC.below ht b2).trans S7⟩)
    have hO := Lib.hid (fun j => (show OwnK kEn ((w.drewN j).alloc (.cells #[.string s, .int .u64 x, .int .u64 0] 32)) (.slice A n c) t.l from by rw [← hn]; exact (HB.row.own.drewN j).alloc _))
    have hR1 := Lib.hid (fun j => RdG.one2 (w := w.drewN j) kEn ((s, x, 0) : En) rfl rfl rfl)
    clear HB hGA hF hRow hp hfull
    go_enter Try.func47, Try.ntmps47
    go_wp2
    go_quiet (fail)
    go_wp2_with (at_builtin; refine wpList_appK kEn rfl (.tmp 80) (.tmp 84) rfl _ t.l rfl _ 1 1 [((s, x, 0) : En)] rfl (hO.out _) (hR1.out _) hby ?_; intro v7 w7 O7 G7 hat7; obtain ⟨A7, c7, rfl, y7, f7, D7⟩ := hPk.out _ _ _ _ rfl O7 G7 hat7; have HD := Lib.hid D7; clear D7 O7 G7 hat7)
    go_end0
    exact ⟨rfl, HD.out⟩
  · have hF := addF_full (w := x) hks (by omega) hf hp (by omega)
    obtain ⟨GF, _⟩ := G.full (by omega) hx0 hf hp (by omega)
    rw [hF]
    obtain ⟨m1, m2⟩ := minO_le t.l x
    have m3 := minO_pos t.l x hx0 fun e he => (G.pos e he).1
    have hbase : (fullF t s x).base = t.base + minO x t.l := rfl
    have hsum : (fullF t s x).sum = y := hy
    have hbs := GF.sums.2.1
    rw [hbase, hsum] at hbs
    have hfl2 : fullF t s x = { t with sum := y, base := t.base + minO x t.l, l := dedE (minO x t.l) t.l ++ if 0 < x - minO x t.l then [(s, x - minO x t.l, 0)] else [] } := by unfold fullF; rw [hy]
    rw [hfl2] at GF ⊢
    obtain ⟨d, hd⟩ : ∃ d, minO x t.l = d := ⟨_, rfl⟩
    rw [hd] at m1 m2 m3 hbs GF ⊢
    obtain ⟨bd, hbd⟩ : ∃ z, t.base + d = z := ⟨_, rfl⟩
    rw [hbd] at hbs GF ⊢
    have hb0 := G.base0
    have hwb : IntKind.u64.wrap (t.base + d) = bd := by rw [hbd]; exact IntWalk.u64_in _ ⟨by omega, by omega⟩
    obtain ⟨xd, hxd⟩ : ∃ z, x - d = z := ⟨_, rfl⟩
    rw [hxd] at GF ⊢
    have hwx : IntKind.u64.wrap (x - d) = xd := by rw [hxd]; exact IntWalk.u64_in _ ⟨by omega, by omega⟩
    have hnm : ((n : Int) == (t.m : Int)) = true := beq_iff_eq.2 (by omega)
    have hpos := Lib.hid (fun (e : En) (he : e ∈ t.l) => And.intro (G.pos e he).1 (G.bd he).2.1)
    have HG := Lib.hid GF
    have HD := Lib.hid (And.intro hd (And.intro m2 (And.intro hxd hn)))
    have HHB := Lib.hid HB
    clear hF GF hbase hsum hfl2 hd m2 hfull hp HB hbd hxd hbs
    go_enter Try.func47, Try.ntmps47
    go_wp2
    go_quiet (fail)
    go_wp2
    go_loopw [6, 28] (fun dv jv wr => ∃ (j : Nat) (z : Int), j ≤ n ∧ dv = .int .u64 z ∧ z = minO x (t.l.take j) ∧ jv = .int .i64 (j : Int) ∧ Below w.heap.size w wr) (fun _ jv _ => n - (intOf jv).toNat)
    case atStart => exact ⟨0, x, Nat.zero_le _, rfl, by simp [minO], rfl, below_drewN (Below.refl _ _) _⟩
    case round =>
      obtain ⟨j, z, hj, rfl, hz, rfl, hb⟩ := hrel
      by_cases hjl : j < n
      · obtain ⟨b, o, e, rfl, he, z0, z1, z2⟩ := (hRow.below hb).atEn hjl
        have hjI : (j : Int) < (n : Int) := by omega
        obtain ⟨z', hz'⟩ : ∃ z', min z e.2.1 = z' := ⟨_, rfl⟩
        have HZ := Lib.hid (show z' = minO x (t.l.take (j + 1)) by rw [minO_next he, ← hz, hz'])
        have v1 : (wr.alloc (.cells (VE e) 32)).cell? ⟨wr.heap.size, 1, none⟩ = some (.int .u64 e.2.1) := (World.cell?_alloc_at (w := wr) _ _ _ _ rfl).trans rfl
        have b1 := hb.alloc hb.size (.cells (VE e) 32)
        clear hz he hb
        go_wp2
        go_roundw
        case rel => exact ⟨j + 1, z', by omega, rfl, HZ.out, by go_num, b1⟩
        case measure => (simp [intOf] <;> omega)
      · have hjI : ¬ (j : Int) < (n : Int) := by omega
        have hzd : z = d := by rw [hz, List.take_of_length_le (by have := HD.out.2.2.2; omega)]; exact HD.out.1
        subst hzd
        have H1 := HHB.out.below ht hb
        have t1 := ht.size hb.size
        have x3 : wr.cell? ⟨g, 3, none⟩ = some (.int .u64 t.base) := H1.box.cell 3 rfl
        have f3 := H1.box.free 3
        obtain ⟨H2, S2⟩ := H1.setBase t1 bd
        have S2' := (StepC.below (P := Rng k) ht hb).trans S2
        have t2 := S2.tidy
        have HH2 := Lib.hid (And.intro H2 (And.intro S2' t2))
        have y2 : (wr.setCell ⟨g, 3, none⟩ (.int .u64 bd)).cell? ⟨g, 2, none⟩ = some (.slice A n c) := by rw [← HD.out.2.2.2]; exact H2.box.cell 2 rfl
        have hRow2 : RdG kEn (wr.setCell ⟨g, 3, none⟩ (.int .u64 bd)) A n c t.l := by rw [← HD.out.2.2.2]; exact H2.row.own.reads
        clear hz H1 t1 H2 S2 S2' t2 hb HHB hRow
        go_wp2
        generalize wr.setCell ⟨g, 3, none⟩ (.int .u64 bd) = W2 at *
        go_loopw [9, 53] (fun v jv wx => ∃ (j : Nat) (lo : List En), j ≤ n ∧ jv = .int .i64 (j : Int) ∧ lo = dedE z (t.l.take j) ∧ OwnK kEn wx v lo ∧ New W2 v ∧ Below W2.heap.size W2 wx) (fun _ jv _ => n - (intOf jv).toNat)
        case atStart => exact ⟨0, [], Nat.zero_le _, rfl, by simp [dedE], OwnK.nil kEn _, fun q hq => by simp [Value.ownBlock] at hq, Below.refl _ _⟩
        case round =>
          obtain ⟨j, lo, hj, rfl, hlo, hO, hNw, hB⟩ := hrel
          obtain ⟨N1, hN1⟩ : ∃ N1, lo.length = N1 := ⟨_, rfl⟩
          obtain ⟨Ao, co, rfl, _, _⟩ := hO.form hN1
          by_cases hjl : j < n
          · obtain ⟨b, o, e, rfl, he, z0, z1, z2⟩ := (hRow2.below hB).atEn hjl
            have hjI : (j : Int) < (n : Int) := by omega
            have hle := HD.out.2.1 e (List.mem_of_getElem? he)
            have hp2 := hpos.out e (List.mem_of_getElem? he)
            obtain ⟨o2, ho2⟩ : ∃ o2, e.2.1 - z = o2 := ⟨_, rfl⟩
            have hwo : IntKind.u64.wrap (e.2.1 - z) = o2 := by rw [ho2]; exact IntWalk.u64_in _ ⟨by omega, by omega⟩
            have hnx := dedE_next (d := z) he
            rw [ho2, ← hlo] at hnx
            have hlN : N1 ≤ 64 := by
              rw [← hN1, hlo]
              have := ded_len (d := z) (t.l.take j)
              rw [List.length_take] at this
              omega
            have q1 : (wr.alloc (.cells (VE e) 32)).cell? ⟨wr.heap.size, 1, none⟩ = some (.int .u64 e.2.1) := (World.cell?_alloc_at (w := wr) _ _ _ _ rfl).trans rfl
            have n0 : (wr.alloc (.cells (VE (e.1, o2, e.2.2)) 32)).cell? ⟨wr.heap.size, 0, none⟩ = some (.string e.1) := (World.cell?_alloc_at (w := wr) _ _ _ _ rfl).trans rfl
            have n1 : (wr.alloc (.cells (VE (e.1, o2, e.2.2)) 32)).cell? ⟨wr.heap.size, 1, none⟩ = some (.int .u64 o2) := (World.cell?_alloc_at (w := wr) _ _ _ _ rfl).trans rfl
            have n2 : (wr.alloc (.cells (VE (e.1, o2, e.2.2)) 32)).cell? ⟨wr.heap.size, 2, none⟩ = some (.int .u64 e.2.2) := (World.cell?_alloc_at (w := wr) _ _ _ _ rfl).trans rfl
            have b1 := hB.alloc hB.size (.cells (VE (e.1, o2, e.2.2)) 32)
            have O1 : OwnK kEn (wr.alloc (.cells (VE (e.1, o2, e.2.2)) 32)) (.slice Ao N1 co) lo := hO.alloc _
            by_cases hgt : o2 > 0
            · rw [if_pos hgt] at hnx
              have HN := Lib.hid hnx
              have b2 := b1.alloc b1.size (.cells (VE (e.1, o2, e.2.2)) 32)
              have O4 : OwnK kEn ((wr.alloc (.cells (VE (e.1, o2, e.2.2)) 32)).alloc (.cells (VE (e.1, o2, e.2.2)) 32)) (.slice Ao N1 co) lo := O1.alloc _
              have R4 : RdG kEn ((wr.alloc (.cells (VE (e.1, o2, e.2.2)) 32)).alloc (.cells (VE (e.1, o2, e.2.2)) 32)) (some ⟨wr.heap.size + 1, 0, none⟩) 1 1 [(e.1, o2, e.2.2)] := RdG.one2 kEn (e.1, o2, e.2.2) rfl rfl (by simp)
              have hby : lo.length + 1 ≤ 1000000000 := by omega
              clear hnx hO hB b1 O1 he hlo hle hp2 ho2 hN1 hlN
              go_wp2_with (at_builtin; refine wpList_appK kEn rfl (.tmp 65) (.tmp 67) rfl _ lo rfl _ 1 1 [(e.1, o2, e.2.2)] rfl O4 R4 hby ?_; intro v7 w7 O7 G7 hat7; have N7 : New W2 v7 := New.app hNw b2 hat7; have B7 := b2.grown G7 b2.size (fun q hq => hNw q hq); clear O4 R4 G7 hat7 b2)
              go_roundw
              case rel => exact ⟨j + 1, _, by omega, by go_num, HN.out.symm, O7, N7, B7⟩
              case measure => (simp [intOf] <;> omega)
            · rw [if_neg (by omega), List.append_nil] at hnx
              have HN := Lib.hid hnx
              clear hnx hO hB he hlo hle hp2 ho2 hN1 hlN
              go_wp2
              go_roundw
              case rel => exact ⟨j + 1, lo, by omega, by go_num, HN.out.symm, O1, hNw, b1⟩
              case measure => (simp [intOf] <;> omega)
          · have hjI : ¬ (j : Int) < (n : Int) := by omega
            have hlo2 : lo = dedE z t.l := by rw [hlo, List.take_of_length_le (by have := HD.out.2.2.2; omega)]
            have hN64 : N1 ≤ 64 := by
              rw [← hN1, hlo2]
              have := ded_len (d := z) t.l
              have := HD.out.2.2.2
              omega
            have H3 := HH2.out.1.below HH2.out.2.2 hB
            have f2 := H3.box.free 2
            have c2 : wr.cell? ⟨g, 2, none⟩ = some (.slice A n c) := by rw [← HD.out.2.2.2]; exact H3.box.cell 2 rfl
            obtain ⟨col4, H4, S4⟩ := HH2.out.1.newRow HH2.out.2.2 hB hN1 hO hNw
            have T4 := S4.tidy
            have S5 := HH2.out.2.1.trans S4
            have c4 : (wr.setCell ⟨g, 2, none⟩ (.slice Ao N1 co)).cell? ⟨g, 2, none⟩ = some (.slice Ao N1 co) := by
              have h : (wr.setCell ⟨g, 2, none⟩ (.slice Ao N1 co)).cell? ⟨g, 2, none⟩ = some (.slice Ao lo.length co) := H4.box.cell 2 rfl
              rw [hN1] at h
              exact h
            have HH4 := Lib.hid (And.intro H4 (And.intro S5 T4))
            have HLo := Lib.hid (And.intro hlo2 hN1)
            clear H3 hB hO hNw hlo hlo2 H4 S4 T4 S5 HH2 hRow2 hpos hN1
            by_cases hgt : xd > 0
            · have hby : lo.length + 1 ≤ 1000000000 := by rw [HLo.out.2]; omega
              have hl1 : (lo ++ [((s, xd, 0) : En)]).length = N1 + 1 := by simp [HLo.out.2]
              have hPk := Lib.hid (show ∀ (v7 : Value) (w7 : World), OwnK kEn w7 v7 (lo ++ [((s, xd, 0) : En)]) → ((wr.setCell ⟨g, 2, none⟩ (.slice Ao N1 co)).alloc (.cells #[.string s, .int .u64 xd, .int .u64 0] 32)).grownBy w7 (Value.slice Ao N1 co).ownBlock → (v7.ownBlock = (Value.slice Ao N1 co).ownBlock ∨ v7.ownBlock = some ((wr.setCell ⟨g, 2, none⟩ (.slice Ao N1 co)).alloc (.cells #[.string s, .int .u64 xd, .int .u64 0] 32)).heap.size) →
                  ∃ A7 c7, v7 = .slice A7 (N1 + 1) c7 ∧ w7.cell? ⟨g, 2, none⟩ = some (.slice Ao N1 co) ∧ w7.frozen? ⟨g, 2, none⟩ = false ∧ DidRF col k w g { t with sum := y, base := bd, l := dedE z t.l ++ [(s, xd, 0)] } (w7.setCell ⟨g, 2, none⟩ (.slice A7 (N1 + 1) c7)) from fun v7 w7 O7 G7 hat => by
                obtain ⟨H4, S5, T4⟩ := HH4.out
                have b5 : Below (wr.setCell ⟨g, 2, none⟩ (.slice Ao N1 co)).heap.size (wr.setCell ⟨g, 2, none⟩ (.slice Ao N1 co)) ((wr.setCell ⟨g, 2, none⟩ (.slice Ao N1 co)).alloc (.cells #[.string s, .int .u64 xd, .int .u64 0] 32)) := (Below.refl _ _).alloc (Nat.le_refl _) _
                have H6 := H4.below T4 b5
                have t6 := T4.size b5.size
                obtain ⟨A7, c7, rfl, _, _⟩ := O7.form hl1
                have hn' : ({ t with sum := y, base := bd, l := lo } : TSt).l.length = N1 := HLo.out.2
                obtain ⟨col7, H7, S7⟩ := H6.grown (e := (s, xd, 0)) t6 hl1 O7 (by rw [hn']; exact G7) (by rw [hn']; exact hat)
                have s1 := StepC.grownBy (P := fun d => d = k + 1) t6 G7 fun q hq => H6.row.col q (by rw [hn']; exact hq)
                have hb7 := H6.box.keep s1 (by omega)
                have hgo := HG.out
                rw [if_pos hgt] at hgo
                refine ⟨A7, c7, rfl, by rw [← hn']; exact hb7.cell 2 rfl, hb7.free 2, col7, ⟨hgo, A7, c7, ?_⟩, (S5.trans (StepC.below T4 b5)).trans S7⟩
                rw [← HLo.out.1]
                exact H7)
              have hO5 : OwnK kEn ((wr.setCell ⟨g, 2, none⟩ (.slice Ao N1 co)).alloc (.cells #[.string s, .int .u64 xd, .int .u64 0] 32)) (.slice Ao N1 co) lo := by
                have := HH4.out.1.row.own
                rw [show ({ t with sum := y, base := bd, l := lo } : TSt).l.length = N1 from HLo.out.2] at this
                exact this.alloc _
              have hR5 : RdG kEn ((wr.setCell ⟨g, 2, none⟩ (.slice Ao N1 co)).alloc (.cells #[.string s, .int .u64 xd, .int .u64 0] 32)) (some ⟨wr.heap.size, 0, none⟩) 1 1 [((s, xd, 0) : En)] := RdG.one2 kEn ((s, xd, 0) : En) rfl rfl (by simp [World.setCell])
              clear HH4 HG
              go_wp2_with (at_builtin; refine wpList_appK kEn rfl (.tmp 80) (.tmp 84) rfl _ lo rfl _ 1 1 [((s, xd, 0) : En)] rfl hO5 hR5 hby ?_; intro v7 w7 O7 G7 hat7; obtain ⟨A7, c7, rfl, y7, f7, D7⟩ := hPk.out _ _ O7 G7 hat7; have HDD := Lib.hid D7; clear D7 O7 G7 hat7)
              go_end0
              exact ⟨rfl, HDD.out⟩
            · have HDD := Lib.hid (show DidRF col k w g { t with sum := y, base := bd, l := dedE z t.l } (wr.setCell ⟨g, 2, none⟩ (.slice Ao N1 co)) from by
                have hgo := HG.out
                rw [if_neg hgt, List.append_nil] at hgo
                refine ⟨col4, ⟨hgo, Ao, co, ?_⟩, HH4.out.2.1⟩
                rw [← HLo.out.1]
                exact HLo.out.2 ▸ HH4.out.1)
              clear HH4 HG
              go_wp2
              go_end0
              exact ⟨rfl, HDD.out⟩
end
end Go.Proofs.Ytgkokglngpbamaa
