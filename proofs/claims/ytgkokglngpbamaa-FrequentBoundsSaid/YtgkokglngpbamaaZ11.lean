/- Words laid together in one text. Conditions: none beyond those typed. -/
import Derived.Test.YtgkokglngpbamaaZ02
import Derived.Test.YtgkokglngpbamaaZ06
import Derived.Test.YtgkokglngpbamaaZ07
import Derived.Test.YtgkokglngpbamaaMmath
import Derived.Test.YtgkokglngpbamaaZ05
import Derived.Test.YtgkokglngpbamaaTm
import Derived.BigQuiet
import Derived.Test.YtgkokglngpbamaaZ03
import Derived.Deep.RegionHeld3
import Derived.Deep.CutRange
import Derived.Test.YtgkokglngpbamaaBase
import Derived.Test.YtgkokglngpbamaaBm
import Derived.Laws.Closers25b
/- A deck beside other objects: it lies in a block of colour 1. Conditions: none beyond those typed. -/
namespace Go.Proofs.Ytgkokglngpbamaa
open Go.ChangeShapes Go.WideShapes Go.ChangeAt Go.RowKit
set_option linter.unusedVariables false
set_option linter.unusedSimpArgs false

/-- Nothing elder has turned; the deck lies in a block of colour 1. -/
structure DkS (w : World) (col : Col) (W : World) (gd : Nat) (A : Option Addr) (m d : Nat) : Prop where
  since : Since w col W
  dk : Dk w W gd A m d
  dc : col gd = 1
section
variable {w W W' : World} {col col' : Col} {gd m d : Nat} {A : Option Addr} {P : Nat → Prop}
theorem DkS.tidy (h : DkS w col W gd A m d) : Tidy col W := h.since.tidy
theorem DkS.new (h : RdI w A m d) : DkS w (dye (fun _ => 0) (some w.heap.size) 1) (w.alloc (.cells #[.slice A m d, .int .i64 0] 77)) w.heap.size A m d :=
  ⟨(Since.start w).step (StepC.new (fun _ _ => rfl) _ 1 (fun _ => False)) (fun h => h), Dk.new h, dye_of⟩
theorem DkS.step (h : DkS w col W gd A m d) (s : StepC P col W col' W') (h1 : ¬ P 1) (hz : ¬ P 0) : DkS w col' W' gd A m d := by
  have hs := h.since.step s hz
  obtain ⟨d1, d2, d3, a, hD⟩ := h.dk
  exact ⟨hs, ⟨d1, hs.below, d3, a, hD.far (s.block gd hD.lt (by rw [h.dc]; exact h1))⟩, (s.kept gd hD.lt).trans h.dc⟩
theorem DkS.below (h : DkS w col W gd A m d) (hb : Below W.heap.size W W') : DkS w col W' gd A m d := h.step (P := fun _ => False) (StepC.below h.tidy hb) (fun h => h) (fun h => h)
/-- Behind a call of the deck's. -/
theorem DkS.deck (h : DkS w col W gd A m d) (hD : Dk w W' gd A m d) (hg : W.grownBy W' (some gd)) : DkS w col W' gd A m d ∧ StepC (fun c => c = 1) col W col W' := by
  have s : StepC (fun c => c = 1) col W col W' := StepC.grownBy h.tidy hg fun q e => by injection e with e; subst e; exact h.dc
  exact ⟨⟨h.since.step s (by omega), hD, h.dc⟩, s⟩
end
end Go.Proofs.Ytgkokglngpbamaa

/- Deck.Entry. Conditions: none beyond those typed. -/
namespace Go.Proofs.Ytgkokglngpbamaa
open Go.ChangeShapes Go.WideShapes Go.ChangeAt Go.RowKit
set_option linter.unusedVariables false
set_option linter.unusedSimpArgs false
set_option maxRecDepth 100000

/-- A small entry comes back, and the deck; nothing else has turned. -/
def EntryDk (B : World) (g : Nat) (A : Option Addr) (n c : Nat) (W : World) (e : Ending) (W' : World) : Prop :=
  ∃ x : En, (2 ≤ x.1.size ∧ x.1.size ≤ 3) ∧ (0 ≤ x.2.1 ∧ x.2.1 < 30) ∧ (0 ≤ x.2.2 ∧ x.2.2 < 10) ∧ e = .returned (.agg (VE x)) ∧ Dk B W' g A n c ∧ W.grownBy W' (some g)
theorem grow_pre {w w1 w2 : World} {row : Option Nat} (h : Below w.heap.size w w1) (hg : w1.grownBy w2 row) : w.grownBy w2 row :=
  ⟨hg.os.trans h.os, hg.tape.trans h.tape, hg.output.trans h.output, Nat.le_trans h.size hg.size, fun k hk hr => (hg.block k (Nat.lt_of_lt_of_le hk h.size) hr).trans (h.block k hk)⟩
theorem grow_two {w w1 w2 : World} {row : Option Nat} (h : w.grownBy w1 row) (hg : w1.grownBy w2 row) : w.grownBy w2 row :=
  ⟨hg.os.trans h.os, hg.tape.trans h.tape, hg.output.trans h.output, Nat.le_trans h.size hg.size, fun k hk hr => (hg.block k (Nat.lt_of_lt_of_le hk h.size) hr).trans (h.block k hk hr)⟩
theorem grow_new {w w1 : World} {row : Option Nat} (h : w.grownBy w1 row) {a : Addr} (ha : w.heap.size ≤ a.block) (v : Value) : w.grownBy (w1.setCell a v) row :=
  ⟨h.os, h.tape, h.output, by have := h.size; simpa [World.setCell] using this, fun k hk hr => (Below.heap_setCell _ _ _ _ (by omega)).trans (h.block k hk hr)⟩
set_option maxHeartbeats 1000000 in
theorem entry_dk {B W : World} {g n c : Nat} {A : Option Addr} (h : Dk B W g A n c) : Calls Try.prog 24 #[.pointer (some ⟨g, 0, none⟩)] W (EntryDk B g A n c W) := by
  have b1 : Below W.heap.size W (W.alloc (.cells #[.string ⟨#[]⟩, .int .u64 0, .int .u64 0] 32)) := (Below.refl _ _).alloc (Nat.le_refl _) _
  have h1 := h.below b1
  have X1 : (W.alloc (.cells #[.string ⟨#[]⟩, .int .u64 0, .int .u64 0] 32)).heap[W.heap.size]? = some (.cells (VE zeroE) 32 (0, 0)) := heap_alloc_new W _
  obtain ⟨G, hG⟩ : ∃ G, W.heap.size = G := ⟨_, rfl⟩
  have hgG : g < G := by rw [← hG]; exact h.lt
  have hS := short_dk h1
  obtain ⟨W1, hW1⟩ : ∃ W1, W1 = W.alloc (.cells #[.string ⟨#[]⟩, .int .u64 0, .int .u64 0] 32) := ⟨_, rfl⟩
  rw [← hW1] at hS X1 b1 h1
  rw [hG] at X1
  go_enter Try.func24, Try.ntmps24
  go_wp2_with fail
  rw [← hW1]
  clear hW1
  refine hS.mono ?_
  rintro e w2 ⟨s, hs, rfl, h2, g2⟩
  have X2 : w2.heap[G]? = some (.cells (VE zeroE) 32 (0, 0)) := (g2.block G (Array.getElem?_eq_some_iff.1 X1).1 (by intro e; injection e with e; omega)).trans X1
  have G2 := grow_pre b1 g2
  have hN := next_dk h2 30 (by omega) (by omega)
  clear hS X1 g2 b1 h1 h2
  go_wp2_with fail
  refine hN.mono ?_
  rintro e w3 ⟨r, hr, rfl, h3, g3⟩
  have X3 : w3.heap[G]? = some (.cells (VE zeroE) 32 (0, 0)) := (g3.block G (Array.getElem?_eq_some_iff.1 X2).1 (by intro e; injection e with e; omega)).trans X2
  have G3 := grow_two G2 g3
  have hN2 := next_dk h3 10 (by omega) (by omega)
  have hw1 : IntKind.u64.wrap (r : Int) = (r : Int) := by rw [IntKind.wrap_u64]; omega
  clear hN X2 g3 G2 h3
  go_wp2_with fail
  refine hN2.mono ?_
  rintro e w4 ⟨r2, hr2, rfl, h4, g4⟩
  have X4 : BoxC (fun _ => 0) w4 G 0 (VE zeroE) 32 := ⟨(g4.block G (Array.getElem?_eq_some_iff.1 X3).1 (by intro e; injection e with e; omega)).trans X3, rfl⟩
  have G4 := grow_two G3 g4
  have hw2 : IntKind.u64.wrap (r2 : Int) = (r2 : Int) := by rw [IntKind.wrap_u64]; omega
  have y0 : w4.cell? ⟨G, 0, none⟩ = some (.string ⟨#[]⟩) := X4.cell 0 rfl
  have y1 : w4.cell? ⟨G, 1, none⟩ = some (.int .u64 0) := X4.cell 1 rfl
  have y2 : w4.cell? ⟨G, 2, none⟩ = some (.int .u64 0) := X4.cell 2 rfl
  have f0 := X4.free 0
  have f1 := X4.free 1
  have f2 := X4.free 2
  have HX := Lib.hid (vbox_en X4 (a := zeroE) (s, (r : Int), (r2 : Int))).heap
  have HD := Lib.hid (show Dk B (((w4.setCell ⟨G, 0, none⟩ (.string s)).setCell ⟨G, 1, none⟩ (.int .u64 (r : Int))).setCell ⟨G, 2, none⟩ (.int .u64 (r2 : Int))) g A n c from by
    exact h4.far (row := some G) ⟨rfl, rfl, rfl, by simp [World.setCell], fun k hk hr => by
      have hne : k ≠ G := fun e => hr (by rw [e])
      exact ((Below.heap_setCell _ _ _ _ hne).trans (Below.heap_setCell _ _ _ _ hne)).trans (Below.heap_setCell _ _ _ _ hne)⟩ (fun k e => by injection e with e; omega))
  have HG := Lib.hid (grow_new (a := ⟨G, 2, none⟩) (grow_new (a := ⟨G, 1, none⟩) (grow_new (a := ⟨G, 0, none⟩) G4 (by rw [hG]; exact Nat.le_refl _) (.string s)) (by rw [hG]; exact Nat.le_refl _) (.int .u64 (r : Int))) (by rw [hG]; exact Nat.le_refl _) (.int .u64 (r2 : Int)))
  have HR := Lib.hid (show (2 ≤ s.size ∧ s.size ≤ 3) ∧ (0 ≤ (r : Int) ∧ (r : Int) < 30) ∧ (0 ≤ (r2 : Int) ∧ (r2 : Int) < 10) from ⟨hs, ⟨by omega, hr⟩, by omega, hr2⟩)
  clear hN2 X3 X4 g4 G3 G4 h4 hG
  go_wp2
  refine bodyPost_ret (results_cell_row rfl _ _ G _ _ (0, 0) _ rfl HX.out Try.underlying32 rfl (by kernel_rfl)) rfl ?_
  exact ⟨(s, (r : Int), (r2 : Int)), HR.out.1, HR.out.2.1, HR.out.2.2, rfl, HD.out, HG.out⟩
end Go.Proofs.Ytgkokglngpbamaa

/- Entries in ascending order of their keys: what they are by their members. Conditions: none beyond those typed. -/
namespace Go.Proofs.Ytgkokglngpbamaa
set_option linter.unusedVariables false
set_option linter.unusedSimpArgs false

theorem insSE_add (out : List En) (e : En) : insSE out e = addM out e.1 e.2 := rfl
theorem foldSE_srt : ∀ (l out : List En), Srt out → ((l ++ out).map Prod.fst).Nodup → Srt (l.foldl insSE out)
  | [], out, h, _ => h
  | e :: l, out, h, hn => by
    have hp : ((l ++ insSE out e).map Prod.fst).Perm ((e :: l ++ out).map Prod.fst) := by
      have h1 : (l ++ insSE out e).Perm (l ++ e :: out) := (insSE_perm out e).append_left l
      exact (h1.trans List.perm_middle).map _
    refine foldSE_srt l (insSE out e) ?_ (hp.nodup_iff.2 hn)
    rw [insSE_add]
    refine add_srt h ?_
    cases hl : lookM out e.1 with
    | none => rfl
    | some v =>
      exfalso
      have hm := (look_mem h).1 hl
      rw [List.cons_append, List.map_cons] at hn
      exact (List.nodup_cons.1 hn).1 (List.mem_map.2 ⟨_, List.mem_append.2 (.inr hm), rfl⟩)
theorem sortE_srt {l : List En} (hn : (l.map Prod.fst).Nodup) : Srt (sortE l) := foldSE_srt l [] List.Pairwise.nil (by rwa [List.append_nil])
/-- Ascending lists with the same members are the same. -/
theorem srt_pairs {α : Type} {l l' : List (ByteArray × α)} (h : Srt l) (h' : Srt l') (hm : ∀ e, e ∈ l ↔ e ∈ l') : l = l' := by
  have hk : l.map Prod.fst = l'.map Prod.fst := by
    refine srt_unique (List.pairwise_map.2 h) (List.pairwise_map.2 h') fun s => ⟨fun hs => ?_, fun hs => ?_⟩
    · obtain ⟨e, he, rfl⟩ := List.mem_map.1 hs
      exact List.mem_map.2 ⟨e, (hm e).1 he, rfl⟩
    · obtain ⟨e, he, rfl⟩ := List.mem_map.1 hs
      exact List.mem_map.2 ⟨e, (hm e).2 he, rfl⟩
  refine List.ext_getElem? fun i => ?_
  have hi : (l.map Prod.fst)[i]? = (l'.map Prod.fst)[i]? := by rw [hk]
  rw [List.getElem?_map, List.getElem?_map] at hi
  cases h1 : l[i]? with
  | none =>
    rw [h1] at hi
    cases h2 : l'[i]? with
    | none => rfl
    | some y => rw [h2] at hi; cases hi
  | some x =>
    rw [h1] at hi
    cases h2 : l'[i]? with
    | none => rw [h2] at hi; cases hi
    | some y =>
      rw [h2] at hi
      injection hi with hi
      have hx := (hm x).1 (List.mem_of_getElem? h1)
      obtain ⟨j, hj⟩ := List.mem_iff_getElem?.1 hx
      obtain rfl := srt_same h' h2 hj hi.symm
      rw [h2] at hj
      injection hj with hj
      rw [hj]
theorem srt_same_mem {l l' : List En} (h : Srt l) (h' : Srt l') (hm : ∀ e, e ∈ l ↔ e ∈ l') : l = l' := srt_pairs h h' hm
end Go.Proofs.Ytgkokglngpbamaa

/- The specified table (heavykeysref08.Map) in memory: at, Get. Conditions: none beyond those typed. -/
namespace Go.Proofs.Ytgkokglngpbamaa
open Go.ChangeShapes Go.WideShapes Go.ChangeAt Go.RowKit
set_option linter.unusedVariables false
set_option linter.unusedSimpArgs false
set_option maxRecDepth 100000

section
variable {P : Nat → Prop} {col col' : Col} {w w' : World} {k g n n' : Nat} {m : MSt Int} {K K' : List ByteArray} {V V' : List Int} {vK vV v' : Value} {s : ByteArray} {i : Nat} {p : ByteArray × Int}
theorem keys_len (m : MSt Int) : m.keys.length = m.l.length := by simp [MSt.keys]
theorem vals_len (m : MSt Int) : m.vals.length = m.l.length := by simp [MSt.vals]
theorem look_is {l : List (ByteArray × Int)} {p : ByteArray × Int} (h : Srt l) (hp : l[placeM l s]? = some p) : (lookM l s).isSome = decide (p.1 = s) := by
  rw [look_place h, hp]
  by_cases e : p.1 = s
  · simp [e]
  · simp [e]
theorem look_off {l : List (ByteArray × Int)} (h : Srt l) (hp : l.length ≤ placeM l s) : lookM l s = none := by
  rw [look_place h, List.getElem?_eq_none hp]
/-- What Get returns. -/
def getV (m : MSt Int) (s : ByteArray) : Int × Bool := ((m.look s).getD 0, (m.look s).isSome)
end
end Go.Proofs.Ytgkokglngpbamaa

/- The specified table (heavykeysref08.Map) in memory: Put. Conditions: none beyond those typed. -/
namespace Go.Proofs.Ytgkokglngpbamaa
open Go.ChangeShapes Go.WideShapes Go.ChangeAt Go.RowKit
set_option linter.unusedVariables false
set_option linter.unusedSimpArgs false
set_option maxRecDepth 100000

section
variable {P : Nat → Prop} {col col' : Col} {w w' : World} {k g n : Nat} {m : MSt Int} {vK vV v' : Value} {s : ByteArray} {i : Nat} {p : ByteArray × Int}
theorem put_set {u : Int} (h : m.look s = some u) (v : Int) : m.put s v = (0, { m with l := setM m.l s v }) := by unfold MSt.put; rw [h]
theorem put_full (h : m.look s = none) (hn : m.l.length = m.n) (v : Int) : m.put s v = (7, m) := by unfold MSt.put; rw [h]; exact if_pos hn
theorem put_add (h : m.look s = none) (hn : m.l.length ≠ m.n) (v : Int) : m.put s v = (0, { m with l := addM m.l s v }) := by unfold MSt.put; rw [h]; exact if_neg hn
theorem set_vals (l : List (ByteArray × Int)) (s : ByteArray) (v : Int) : (setM l s v).map Prod.snd = (l.map Prod.snd).set (placeM l s) v := by unfold setM; rw [List.map_set]
theorem add_keys (l : List (ByteArray × Int)) (s : ByteArray) (v : Int) : (addM l s v).map Prod.fst = ((l.map Prod.fst).take (placeM l s) ++ [s]) ++ (l.map Prod.fst).drop (placeM l s) := by unfold addM; simp [List.map_take, List.map_drop]
theorem add_vals (l : List (ByteArray × Int)) (s : ByteArray) (v : Int) : (addM l s v).map Prod.snd = ((l.map Prod.snd).take (placeM l s) ++ [v]) ++ (l.map Prod.snd).drop (placeM l s) := by unfold addM; simp [List.map_take, List.map_drop]
end
end Go.Proofs.Ytgkokglngpbamaa

/- The specified table (heavykeysref08.Map) in memory: Delete. Conditions: none beyond those typed. -/
namespace Go.Proofs.Ytgkokglngpbamaa
open Go.ChangeShapes Go.WideShapes Go.ChangeAt Go.RowKit
set_option linter.unusedVariables false
set_option linter.unusedSimpArgs false
set_option maxRecDepth 100000

section
variable {P : Nat → Prop} {col col' : Col} {w w' : World} {k g n : Nat} {m : MSt Int} {vK vV v' : Value} {s : ByteArray} {i : Nat} {p : ByteArray × Int}
theorem del_none (h : m.look s = none) : m.del s = m := by unfold MSt.del; rw [h]
theorem del_some {u : Int} (h : m.look s = some u) : m.del s = { m with l := delM m.l s } := by unfold MSt.del; rw [h]
theorem del_keys (l : List (ByteArray × Int)) (s : ByteArray) : (delM l s).map Prod.fst = (l.map Prod.fst).take (placeM l s) ++ (l.map Prod.fst).drop (placeM l s + 1) := by unfold delM; simp [List.map_take, List.map_drop]
theorem del_vals (l : List (ByteArray × Int)) (s : ByteArray) : (delM l s).map Prod.snd = (l.map Prod.snd).take (placeM l s) ++ (l.map Prod.snd).drop (placeM l s + 1) := by unfold delM; simp [List.map_take, List.map_drop]
end
end Go.Proofs.Ytgkokglngpbamaa

/- Words for slices of uint64, and the specified hash as a plain function. Conditions: none beyond those typed. -/
namespace Go.Proofs.Ytgkokglngpbamaa
open Go.ChangeShapes Go.WideShapes Go.ChangeAt Go.RowKit
set_option linter.unusedVariables false
set_option linter.unusedSimpArgs false
set_option maxRecDepth 100000

/-- The slice value '.slice A n c' reads as these numbers of 64 bits. -/
def RdU (w : World) (A : Option Addr) (n c : Nat) (l : List Int) : Prop :=
  l.length = n ∧ n ≤ c ∧ c ≤ maxLen ∧ (∀ z ∈ l, 0 ≤ z ∧ z ≤ 18446744073709551615) ∧
    ∀ j z, l[j]? = some z → ∃ b o, A = some ⟨b, o, none⟩ ∧ w.cell? ⟨b, o + j, none⟩ = some (.int .u64 z)
section
variable {w w' : World} {A : Option Addr} {n c : Nat} {l : List Int}
theorem RdU.len (h : RdU w A n c l) : l.length = n := h.1
theorem RdU.cap (h : RdU w A n c l) : n ≤ c := h.2.1
theorem RdU.max (h : RdU w A n c l) : c ≤ 9223372036854775807 := h.2.2.1
theorem RdU.at_ (h : RdU w A n c l) {k : Nat} (hk : k < n) :
    ∃ b o z, A = some ⟨b, o, none⟩ ∧ l[k]? = some z ∧ 0 ≤ z ∧ z ≤ 18446744073709551615 ∧ b < w.heap.size ∧ w.cell? ⟨b, o + k, none⟩ = some (.int .u64 z) := by
  have hl : k < l.length := by rw [h.1]; exact hk
  have hg : l[k]? = some l[k] := List.getElem?_eq_getElem hl
  obtain ⟨b, o, hA, hc⟩ := h.2.2.2.2 k _ hg
  have hb := h.2.2.2.1 _ (List.getElem_mem hl)
  exact ⟨b, o, l[k], hA, hg, hb.1, hb.2, World.block_lt_of_cell? w ⟨b, o + k, none⟩ hc, hc⟩
theorem RdU.below (h : RdU w A n c l) (hb : Below w.heap.size w w') : RdU w' A n c l :=
  ⟨h.1, h.2.1, h.2.2.1, h.2.2.2.1, fun j z hz => by
    obtain ⟨b, o, hA, hc⟩ := h.2.2.2.2 j z hz
    exact ⟨b, o, hA, (hb.cell (World.block_lt_of_cell? w _ hc)).trans hc⟩⟩
theorem RdU.drewN (h : RdU w A n c l) (k : Nat) : RdU (w.drewN k) A n c l := h
theorem RdU.take (h : RdU w A n c l) {k : Nat} (hk : k ≤ n) : RdU w A k c (l.take k) := by
  refine ⟨by rw [List.length_take, h.1]; omega, Nat.le_trans hk h.2.1, h.2.2.1, fun z hz => h.2.2.2.1 z (List.mem_of_mem_take hz), fun j z hz => ?_⟩
  rw [List.getElem?_take] at hz
  split at hz
  · exact h.2.2.2.2 j z hz
  · cases hz
end
/-- rot: P7.2, as the model reckons. -/
def rotU (h : Int) (k : Nat) : Int := bits .or .u64 (IntKind.u64.wrap (h * 2 ^ k)) (h / 2 ^ (64 - k))
theorem rotU_bd (h : Int) (k : Nat) : 0 ≤ rotU h k ∧ rotU h k ≤ 18446744073709551615 := ⟨bits_lo_u64 _ _ _, bits_hi_u64 _ _ _⟩
theorem ret_w {a b : Int} (h : a = b) : Ending.returned (.int .u64 a) = .returned (.int .u64 b) := by rw [h]
def tabE (n : Nat) : Int := if n = 16 then 0 else 11
theorem wrap_u8' (x : Int) (h0 : 0 ≤ x) (h1 : x ≤ 255) : IntKind.u8.wrap x = x := by
  simp [IntKind.wrap, IntKind.bits, IntKind.signed]
  omega
/-- One byte of a key. -/
def hStep (t : List Int) (h : Int) (b : Nat) : Int := IntKind.u64.wrap (IntKind.u64.wrap (rotU (bits .xor .u64 (rotU h 5) (t.getD (b / 16) 0)) 7 + t.getD (b % 16) 0) * 11400714819323198485)
def hAll (t : List Int) (h : Int) (key : List UInt8) : Int := key.foldl (fun h b => hStep t h b.toNat) h
def hFin (h : Int) : Int := bits .xor .u64 h (h / 4294967296)
/-- hash.Key, P7.2. -/
def hashP (t : List Int) (seed : Int) (key : ByteArray) : Int := if t.length = 16 then hFin (hAll t seed key.data.toList) else 0
theorem hAll_take (t : List Int) (h : Int) (key : ByteArray) {k : Nat} (hk : k < key.size) : hAll t h (key.data.toList.take (k + 1)) = hStep t (hAll t h (key.data.toList.take k)) key[k].toNat := by
  have e : key.data.toList[k]? = some key[k] := by
    rw [List.getElem?_eq_getElem (by simpa using hk)]; rfl
  rw [List.take_add_one, e]
  simp [hAll]
theorem u64_bd (x : Int) : 0 ≤ IntKind.u64.wrap x ∧ IntKind.u64.wrap x ≤ 18446744073709551615 := wrap_within .u64 x
theorem hAll_bd (t : List Int) (h : Int) (hh : 0 ≤ h ∧ h ≤ 18446744073709551615) : ∀ key : List UInt8, 0 ≤ hAll t h key ∧ hAll t h key ≤ 18446744073709551615 := by
  intro key
  unfold hAll
  induction key generalizing h with
  | nil => exact hh
  | cons b r ih => exact ih _ (u64_bd _)
/-- hash.Row, P7.3. -/
def rowP (t : List Int) (seed row : Int) (key : ByteArray) : Int := hashP t (IntKind.u64.wrap (seed + IntKind.u64.wrap (IntKind.u64.wrap (IntKind.u64.wrap row + 1) * 15111065706836454659))) key
/-- hash.Slot, P7.4. -/
def slotP (h n : Int) : Int := if n < 1 then 0 else h % n
end Go.Proofs.Ytgkokglngpbamaa

/- The specified table (heavykeysref08.Map) in memory: Keys, NewMap; SameTexts. Conditions: none beyond those typed. -/
namespace Go.Proofs.Ytgkokglngpbamaa
open Go.ChangeShapes Go.WideShapes Go.ChangeAt Go.RowKit
set_option linter.unusedVariables false
set_option linter.unusedSimpArgs false
set_option maxRecDepth 100000

section
variable {P : Nat → Prop} {col col' : Col} {w w' : World} {k g n : Nat} {m : MSt Int} {vK vV v' : Value} {s : ByteArray} {i : Nat}
/-- A row of texts in new memory comes back. -/
def KeysOut (w : World) (l : List ByteArray) (e : Ending) (w' : World) : Prop := ∃ A c, e = .returned (.slice A l.length c) ∧ RdG kT w' A l.length c l ∧ (∀ b o sp, A = some ⟨b, o, sp⟩ → w.heap.size ≤ b) ∧ Below w.heap.size w w'
def mapE (n : Int) (t : Nat) : Int := if n < 1 ∨ 8192 < n then 1 else tabE t
end
end Go.Proofs.Ytgkokglngpbamaa

/- All that the statements use of the program's tables, as one structure of contracts over a representation. Conditions: none beyond those typed. -/
namespace Go.Proofs.Ytgkokglngpbamaa
open Go.ChangeShapes Go.WideShapes Go.ChangeAt Go.RowKit
set_option linter.unusedVariables false
set_option linter.unusedSimpArgs false

/-- Table m lies in block g, with the base colour k. -/
abbrev RepM (α : Type) := Col → Nat → World → Nat → MSt α → Prop
def DidPM {α : Type} (PM : RepM α) (col : Col) (k : Nat) (w : World) (g : Nat) (m : MSt α) (w' : World) : Prop := ∃ col', PM col' k w' g m ∧ StepC (Rng k) col w col' w'
def NewPM {α : Type} (PM : RepM α) (col : Col) (k : Nat) (n : Int) (t : Nat) (w : World) (e : Ending) (w' : World) : Prop :=
  (mapE n t = 0 ∧ ∃ g, e = .returned (.tuple #[.pointer (some ⟨g, 0, none⟩), .int .i64 0]) ∧ DidPM PM col k w g (newM α n.toNat) w') ∨ (mapE n t ≠ 0 ∧ e = .returned (.tuple #[.pointer none, .int .i64 (mapE n t)]) ∧ Below w.heap.size w w')
/-- What Get and Delete return. -/
def getG {α : Type} (z : α) (m : MSt α) (s : ByteArray) : α × Bool := ((m.look s).getD z, (m.look s).isSome)
/-- A slice of words that never turns. -/
structure RdU0 (col : Col) (w : World) (A : Option Addr) (n c : Nat) (l : List Int) : Prop where
  rd : RdU w A n c l
  imm : Imm col A n
/-- V: how a value lies in a slot; z: the zero value; ok: the values that a slot bears; fN, fP, fG, fD, fL: New, Put, Get, Delete, Len. -/
structure ProgM {α : Type} (V : α → Value) (z : α) (ok : α → Prop) (fN fP fG fD fL : Nat) (PM : RepM α) : Prop where
  keep : ∀ {P : Nat → Prop} {col col' : Col} {w w' : World} {k g : Nat} {m : MSt α}, PM col k w g m → StepC P col w col' w' → (∀ c, Rng k c → ¬ P c) → ¬ P 0 → PM col' k w' g m
  good : ∀ {col : Col} {w : World} {k g : Nat} {m : MSt α}, PM col k w g m → GoodM m
  new : ∀ {col : Col} {k : Nat} {w : World} {A : Option Addr} {t c : Nat} {T : List Int}, Tidy col w → 1 ≤ k → RdU0 col w A t c T → ∀ n seed : Int, (-9223372036854775808 ≤ n ∧ n ≤ 9223372036854775807) → (0 ≤ seed ∧ seed ≤ 18446744073709551615) →
    Calls Try.prog fN #[.int .i64 n, .slice A t c, .int .u64 seed] w (NewPM PM col k n t w)
  put : ∀ {col : Col} {k g : Nat} {w : World} {m : MSt α}, PM col k w g m → Tidy col w → ∀ (s : ByteArray) (v : α), s.size ≤ 281474976710656 → ok v →
    Calls Try.prog fP #[.pointer (some ⟨g, 0, none⟩), .string s, V v] w fun e w' => e = .returned (.int .i64 (m.put s v).1) ∧ DidPM PM col k w g (m.put s v).2 w'
  get : ∀ {col : Col} {k g : Nat} {w : World} {m : MSt α}, PM col k w g m → Tidy col w → ∀ s : ByteArray, s.size ≤ 281474976710656 →
    Calls Try.prog fG #[.pointer (some ⟨g, 0, none⟩), .string s] w fun e w' => e = .returned (.tuple #[V (getG z m s).1, .bool (getG z m s).2]) ∧ Below w.heap.size w w'
  del : ∀ {col : Col} {k g : Nat} {w : World} {m : MSt α}, PM col k w g m → Tidy col w → ∀ s : ByteArray, s.size ≤ 281474976710656 →
    Calls Try.prog fD #[.pointer (some ⟨g, 0, none⟩), .string s] w fun e w' => e = .returned (.tuple #[V (getG z m s).1, .bool (getG z m s).2]) ∧ DidPM PM col k w g (m.del s) w'
  len : ∀ {col : Col} {k g : Nat} {w : World} {m : MSt α}, PM col k w g m → Tidy col w →
    Calls Try.prog fL #[.pointer (some ⟨g, 0, none⟩)] w fun e w' => e = .returned (.int .i64 m.l.length) ∧ Below w.heap.size w w'
def I64' (z : Int) : Prop := -9223372036854775808 ≤ z ∧ z ≤ 9223372036854775807
section
variable {α : Type} {PM : RepM α} {w0 W W' : World} {col col' : Col} {k g : Nat} {m m' : MSt α} {P : Nat → Prop} {V : α → Value} {z : α} {ok : α → Prop} {fN fP fG fD fL : Nat} {A : Option Addr} {n c : Nat} {T : List Int}
theorem RdU0.keep (h : RdU0 col W A n c T) (hs : StepC P col W col' W') (hp : ¬ P 0) : RdU0 col' W' A n c T := by
  have hl : 0 < n → ∀ b o sp, A = some ⟨b, o, sp⟩ → b < W.heap.size := fun hn b o sp e => by
    obtain ⟨b', o', z, e', _, _, hc⟩ := h.rd.at_ hn
    rw [e'] at e; injection e with e; injection e with e1 e2; subst e1
    exact hc.2.1
  refine ⟨⟨h.rd.1, h.rd.2.1, h.rd.2.2.1, h.rd.2.2.2.1, fun j a ha => ?_⟩, h.imm.step hs hl⟩
  obtain ⟨b, o, hA, hc⟩ := h.rd.2.2.2.2 j a ha
  have hn : 0 < n := by
    have := (List.getElem?_eq_some_iff.1 ha).1
    have := h.rd.len
    omega
  exact ⟨b, o, hA, (World.cell?_of_block (w := W) (hs.block b (hl hn b o none hA) (by rw [h.imm hn b o none hA]; exact hp))).trans hc⟩
theorem RdU0.below (h : RdU0 col W A n c T) (ht : Tidy col W) (hb : Below W.heap.size W W') : RdU0 col W' A n c T := h.keep (P := fun _ => False) (StepC.below ht hb) (fun h => h)
theorem ProgM.below (HP : ProgM V z ok fN fP fG fD fL PM) (h : PM col k W g m) (ht : Tidy col W) (hb : Below W.heap.size W W') : PM col k W' g m := HP.keep (P := fun _ => False) h (StepC.below ht hb) (fun _ _ h => h) (fun h => h)
end
end Go.Proofs.Ytgkokglngpbamaa
