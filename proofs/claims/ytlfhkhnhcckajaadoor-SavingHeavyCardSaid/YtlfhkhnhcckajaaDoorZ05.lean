/- Words laid together in one text. Conditions: none beyond those typed. -/
import Derived.Test.YtlfhkhnhcckajaaDoorZ04
import Derived.Test.YtlfhkhnhcckajaaDoorTm
import Derived.Deep.RegionLaw
import Derived.Test.YtlfhkhnhcckajaaDoorZ03
import Derived.Deep.RegionHeld3
import Derived.Deep.CutRange
import Derived.StillTailTactics
import Derived.BigRegion
import Derived.Test.YtlfhkhnhcckajaaDoorZ02
import Derived.Lib.TrailingZeros
import Derived.Test.YtlfhkhnhcckajaaDoorZ01
/- Deck.Short: a short text of a deck's making. Conditions: none beyond those typed. -/
namespace Go.Proofs.YtlfhkhnhcckajaaDoor
open Go.ChangeShapes Go.WideShapes Go.ChangeAt Go.RowKit
set_option linter.unusedVariables false
set_option linter.unusedSimpArgs false
set_option maxRecDepth 100000

/-- A short text comes back, and the deck; nothing else has turned. -/
def ShortDk (B : World) (g : Nat) (A : Option Addr) (n c : Nat) (W : World) (e : Ending) (W' : World) : Prop :=
  ∃ s : ByteArray, (2 ≤ s.size ∧ s.size ≤ 3) ∧ e = .returned (.string s) ∧ Dk B W' g A n c ∧ W.grownBy W' (some g)
theorem short_j {r : Nat} (h : (r : Int) < 2) : ∃ j : Nat, IntKind.i64.wrap (1 + (r : Int)) = (j : Int) ∧ IntKind.i64.wrap (j : Int) = (j : Int) ∧ (0 ≤ (j : Int) ∧ (j : Int) ≤ ((⟨#[97, 98, 99, 100, 101, 102, 103, 104]⟩ : ByteArray).size : Int)) ∧ ((j : Int) ≤ 8 ∧ j ≤ 8) ∧ RowKit.Hid (1 ≤ j ∧ j ≤ 2) := by
  have e : ((⟨#[97, 98, 99, 100, 101, 102, 103, 104]⟩ : ByteArray).size : Int) = 8 := rfl
  rw [e]
  obtain rfl | rfl : r = 0 ∨ r = 1 := by omega
  · exact ⟨1, by decide, by decide, by omega, by omega, Lib.hid ⟨by omega, by omega⟩⟩
  · exact ⟨2, by decide, by decide, by omega, by omega, Lib.hid ⟨by omega, by omega⟩⟩
theorem short_k {r : Nat} (h : (r : Int) < 5) : ∃ j : Nat, IntKind.i64.wrap (97 + (r : Int)) = (j : Int) ∧ IntKind.i64.wrap (j : Int) = (j : Int) ∧ IntKind.u8.wrap (j : Int) = (j : Int) ∧ RowKit.Hid (j ≤ 255) := by
  obtain rfl | rfl | rfl | rfl | rfl : r = 0 ∨ r = 1 ∨ r = 2 ∨ r = 3 ∨ r = 4 := by omega
  · exact ⟨97, by decide, by decide, by decide, Lib.hid (by omega)⟩
  · exact ⟨98, by decide, by decide, by decide, Lib.hid (by omega)⟩
  · exact ⟨99, by decide, by decide, by decide, Lib.hid (by omega)⟩
  · exact ⟨100, by decide, by decide, by decide, Lib.hid (by omega)⟩
  · exact ⟨101, by decide, by decide, by decide, Lib.hid (by omega)⟩
theorem short_sz {j i : Nat} (h : 1 ≤ j ∧ j ≤ 2) : ¬ 9223372036854775807 < ((⟨#[97, 98, 99, 100, 101, 102, 103, 104]⟩ : ByteArray).extract 0 j).size + (chr i).size := by
  have := chr_size i
  have : ((⟨#[97, 98, 99, 100, 101, 102, 103, 104]⟩ : ByteArray).extract 0 j).size = min j 8 - 0 := ByteArray.size_extract
  omega
theorem short_two {j i : Nat} (h : 1 ≤ j ∧ j ≤ 2) : 2 ≤ (((⟨#[97, 98, 99, 100, 101, 102, 103, 104]⟩ : ByteArray).extract 0 j) ++ (chr i)).size ∧ (((⟨#[97, 98, 99, 100, 101, 102, 103, 104]⟩ : ByteArray).extract 0 j) ++ (chr i)).size ≤ 3 := by
  rw [ba_append_size]
  have : (chr i).size = 1 := rfl
  have : ((⟨#[97, 98, 99, 100, 101, 102, 103, 104]⟩ : ByteArray).extract 0 j).size = min j 8 - 0 := ByteArray.size_extract
  omega
theorem short_conv {j : Nat} (h : j ≤ 255) (w : World) : (convert 23 9 (.slice (some ⟨w.heap.size, 0, none⟩) 1 1)).run Tryd.prog (w.alloc (.cells #[.int .u8 (j : Int)] 5)) = .ok (.string (chr j)) (w.alloc (.cells #[.int .u8 (j : Int)] 5)) :=
  conv_one _ _ j h (by simp)
theorem grow_row {w w' : World} {row : Option Nat} (h : w.grownBy w' none) : w.grownBy w' row := ⟨h.os, h.tape, h.output, h.size, fun k hk _ => h.block k hk (by simp)⟩
set_option maxHeartbeats 1000000 in
theorem short_dk {B W : World} {g n c : Nat} {A : Option Addr} (h : Dk B W g A n c) : Calls Tryd.prog 7 #[.pointer (some ⟨g, 0, none⟩)] W (ShortDk B g A n c W) := by
  have hB := h.drewN 1
  have hG : W.grownBy (W.drewN 1) none := grow_drewN (World.grownBy.refl W none) 1
  go_enter Tryd.func7, Tryd.ntmps7
  go_wp2_with fail
  go_region_with (first | (refine (next_dk h1 5 (by omega) (by omega)).mono ?_; rintro e W2 ⟨r2, hr2, rfl, h2, g2⟩; obtain ⟨j2, b1, b2, b3, B1⟩ := short_k hr2; have b4 := short_conv B1.out; have b5 := chr_size j2; have b6 : ¬ 9223372036854775807 < ((⟨#[97, 98, 99, 100, 101, 102, 103, 104]⟩ : ByteArray).extract 0 j1).size + (chr j2).size := short_sz A1.out; clear hr2) | (refine (next_dk hB 2 (by omega) (by omega)).mono ?_; rintro e W1 ⟨r1, hr1, rfl, h1, g1⟩; obtain ⟨j1, a1, a2, a3, ⟨a4, a5⟩, A1⟩ := short_j hr1; clear hr1))
  all_goals go_wp2
  all_goals go_ret
  all_goals
    have hal := (World.grownBy_alloc W2 (.cells #[.int .u8 (j2 : Int)] 5) (some g))
    exact ⟨_, short_two A1.out, rfl, h2.alloc _, ((grow_row hG).trans g1).trans (g2.trans hal)⟩
end Go.Proofs.YtlfhkhnhcckajaaDoor

/- == on entries; SameEntries on equal lists; the specified table: Entries; Deck.Entry. Conditions: none beyond those typed. -/
namespace Go.Proofs.YtlfhkhnhcckajaaDoor
open Go.ChangeShapes Go.WideShapes Go.ChangeAt Go.RowKit
set_option linter.unusedVariables false
set_option linter.unusedSimpArgs false
set_option maxRecDepth 100000

theorem fields_entry : Tryd.prog.underlying 34 = some (.struct (Tryd.prog.fieldsOf 34)) := by
  unfold Program.fieldsOf; rw [Tryd.underlying34]
theorem eqIn_entry (s s' : ByteArray) (t t' x x' : Int) (w : World) : (Op.equalIn 10000 34 (.agg #[.string s, .int .u64 t, .int .u64 x]) (.agg #[.string s', .int .u64 t', .int .u64 x'])).run Tryd.prog w = .ok (decide (((s, t, x) : En) = (s', t', x'))) w := by
  have h9 := fun w => Tryd.isAgg9 w
  have h7 := fun w => Tryd.isAgg30 w
  rw [run_equalIn_agg w 9999 _ _ _ fields_entry (by kernel_rfl)]
  unfold Program.fieldsOf
  rw [Tryd.underlying34]
  have e1 : ∀ (a b : ByteArray) (d : Nat) (w : World), (Op.equalIn (d + 1) 9 (.string a) (.string b)).run Tryd.prog w = .ok (decide (a = b)) w := fun a b d w => by
    rw [run_equalIn_string w d _ a b Tryd.underlying9, str_beq]
  simp [Op.eqFields, part, h9, h7]
  rw [e1]
  simp [Result.andThen, run_equalIn_int]
  by_cases hs : s = s'
  · by_cases ht : t = t'
    · by_cases hx : x = x' <;> simp [hs, ht, hx]
    · simp [hs, ht]
  · simp [hs]
theorem get_own {t : TSt} (G : GoodT t) {i : Nat} {e : En} (he : t.l[i]? = some e) : t.get e.1 = (e, true) := by
  have hp : placeE t.l e.1 = some i := placeE_at he rfl fun j x hj hx hxe => by
    have hn := G.nd
    have h1 : (t.l.map Prod.fst)[j]? = some e.1 := by rw [List.getElem?_map, hx, ← hxe]; rfl
    have h2 : (t.l.map Prod.fst)[i]? = some e.1 := by rw [List.getElem?_map, he]; rfl
    obtain ⟨a, ha⟩ := List.getElem?_eq_some_iff.1 h1
    obtain ⟨b, hb⟩ := List.getElem?_eq_some_iff.1 h2
    exact List.pairwise_iff_getElem.1 hn j i a b hj (ha.trans hb.symm)
  unfold TSt.get
  rw [hp]
  show ((t.l[i]?).getD zeroE, true) = _
  rw [he]; rfl
section
variable {col : Col} {w w' : World} {k g : Nat} {t : TSt}
end
end Go.Proofs.YtlfhkhnhcckajaaDoor

/- The specified table in memory: Add. Conditions: none beyond those typed. -/
namespace Go.Proofs.YtlfhkhnhcckajaaDoor
open Go.ChangeShapes Go.WideShapes Go.ChangeAt Go.RowKit
set_option linter.unusedVariables false
set_option linter.unusedSimpArgs false
set_option maxRecDepth 100000

section
variable {P : Nat → Prop} {col col' : Col} {w w' : World} {k g : Nat} {t : TSt}
theorem size_zero {s : ByteArray} : s.size = 0 ↔ s = ⟨#[]⟩ := by
  constructor
  · intro h
    cases s with
    | mk d =>
      have : d.size = 0 := h
      rw [Array.eq_empty_of_size_eq_zero this]
  · intro h; rw [h]; rfl
end
end Go.Proofs.YtlfhkhnhcckajaaDoor

/- The specified table in memory: New. Conditions: none beyond those typed. -/
namespace Go.Proofs.YtlfhkhnhcckajaaDoor
open Go.ChangeShapes Go.WideShapes Go.ChangeAt Go.RowKit
set_option linter.unusedVariables false
set_option linter.unusedSimpArgs false
set_option maxRecDepth 100000

def svE (m : Int) : Int := if m < 1 ∨ 64 < m then 1 else 0
section
variable {col : Col} {w : World} {k : Nat}
end
end Go.Proofs.YtlfhkhnhcckajaaDoor

/- The table that math/bits.TrailingZeros64 reads, as its initialiser lays it, in a world; it stays. Conditions: none beyond those typed. -/
namespace Go.Proofs.YtlfhkhnhcckajaaDoor
open Go.ChangeShapes Go.WideShapes Go.ChangeAt Go.RowKit
set_option linter.unusedVariables false
set_option linter.unusedSimpArgs false

def Tab (w : World) : Prop := ∀ j, j < 64 → w.cell? ⟨0, j, none⟩ = some (.int .u8 (Lib.deBruijn64tab.getD j 0))
/-- The table lies in a block that nobody writes. -/
structure TbC (col : Col) (w : World) : Prop where
  tab : Tab w
  col0 : col 0 = 0
section
variable {P : Nat → Prop} {col col' : Col} {w w' w0 : World}
theorem Tab.lt (h : Tab w) : 0 < w.heap.size := World.block_lt_of_cell? w _ (h 0 (by omega))
theorem TbC.keep (h : TbC col w) (hs : StepC P col w col' w') (h0 : ¬ P 0) : TbC col' w' :=
  ⟨fun j hj => hs.cell (h.tab j hj) (by show ¬ P (col 0); rw [h.col0]; exact h0), (hs.kept _ h.tab.lt).trans h.col0⟩
theorem Since.tb (h : Since w0 col w) (hT : Tab w0) : TbC col w :=
  ⟨fun j hj => (World.cell?_of_block (w := w0) (h.below.block _ hT.lt)).trans (hT j hj), h.elder _ hT.lt⟩
theorem Since.tab (h : Since w0 col w) (hT : Tab w0) : Tab w := (h.tb hT).tab
theorem Tab.below (h : Tab w) (hb : Below w.heap.size w w') : Tab w' := fun j hj => (World.cell?_of_block (w := w) (hb.block _ h.lt)).trans (h j hj)
end
end Go.Proofs.YtlfhkhnhcckajaaDoor

/- All that the statements use of the program's tables (Space-Saving), as structures of contracts over a representation. Conditions: none beyond those typed. -/
namespace Go.Proofs.YtlfhkhnhcckajaaDoor
open Go.ChangeShapes Go.WideShapes Go.ChangeAt Go.RowKit
set_option linter.unusedVariables false
set_option linter.unusedSimpArgs false

/-- Table t lies in block g, with the base colour k. -/
abbrev RepT := Col → Nat → World → Nat → TSt → Prop
def DidPT (PT : RepT) (col : Col) (k : Nat) (w : World) (g : Nat) (t : TSt) (w' : World) : Prop := ∃ col', PT col' k w' g t ∧ StepC (Rng k) col w col' w'
def NewPT (PT : RepT) (col : Col) (k : Nat) (n : Int) (w : World) (e : Ending) (w' : World) : Prop :=
  (svE n = 0 ∧ ∃ g, e = .returned (.tuple #[.pointer (some ⟨g, 0, none⟩), .int .i64 0]) ∧ DidPT PT col k w g (newT n.toNat) w') ∨ (svE n = 1 ∧ e = .returned (.tuple #[.pointer none, .int .i64 1]) ∧ Below w.heap.size w w')
/-- A size that memory bears. -/
def Sz (s : ByteArray) : Prop := s.size ≤ 281474976710656
def W64 (z : Int) : Prop := 0 ≤ z ∧ z ≤ 18446744073709551615
/-- What is used where weights are only added. -/
structure ProgTh (PT : RepT) : Prop where
  keep : ∀ {P : Nat → Prop} {col col' : Col} {w w' : World} {k g : Nat} {t : TSt}, PT col k w g t → StepC P col w col' w' → (∀ c, Rng k c → ¬ P c) → ¬ P 0 → PT col' k w' g t
  good : ∀ {col : Col} {w : World} {k g : Nat} {t : TSt}, PT col k w g t → GoodT t
  new : ∀ {col : Col} {k : Nat} {w : World}, Tidy col w → TbC col w → 1 ≤ k → ∀ n : Int, J64 n → Calls Tryd.prog 4 #[.int .i64 n] w (NewPT PT col k n w)
  add : ∀ {col : Col} {k g : Nat} {w : World} {t : TSt}, PT col k w g t → Tidy col w → ∀ (s : ByteArray) (x : Int), Sz s → W64 x → Calls Tryd.prog 6 #[.pointer (some ⟨g, 0, none⟩), .string s, .int .u64 x] w fun e w' => e = .returned (.int .i64 (t.addS s x).1) ∧ DidPT PT col k w g (t.addS s x).2 w'
  get : ∀ {col : Col} {k g : Nat} {w : World} {t : TSt}, PT col k w g t → Tidy col w → ∀ s : ByteArray, Sz s → Calls Tryd.prog 8 #[.pointer (some ⟨g, 0, none⟩), .string s] w fun e w' => e = .returned (.tuple #[.agg (VE (t.get s).1), .bool (t.get s).2]) ∧ Below w.heap.size w w'
  take : ∀ {col : Col} {k g : Nat} {w : World} {t : TSt}, PT col k w g t → Tidy col w → ∀ s : ByteArray, Sz s → Calls Tryd.prog 19 #[.pointer (some ⟨g, 0, none⟩), .string s] w fun e w' => e = .returned (.tuple #[.agg (VE (t.get s).1), .bool (t.get s).2]) ∧ DidPT PT col k w g (t.take s) w'
  untr : ∀ {col : Col} {k g : Nat} {w : World} {t : TSt}, PT col k w g t → Tidy col w → Calls Tryd.prog 20 #[.pointer (some ⟨g, 0, none⟩)] w fun e w' => e = .returned (.int .u64 t.base) ∧ Below w.heap.size w w'
  total : ∀ {col : Col} {k g : Nat} {w : World} {t : TSt}, PT col k w g t → Tidy col w → Calls Tryd.prog 9 #[.pointer (some ⟨g, 0, none⟩)] w fun e w' => e = .returned (.int .u64 t.sum) ∧ Below w.heap.size w w'
/-- Nothing elder has turned, and a table. -/
structure AtT (PT : RepT) (w0 : World) (col : Col) (W : World) (k g : Nat) (t : TSt) : Prop where
  since : Since w0 col W
  pt : PT col k W g t
section
variable {PT : RepT} {w0 W W' : World} {col col' : Col} {k g : Nat} {t t' : TSt}
theorem ProgTh.below (HP : ProgTh PT) (h : PT col k W g t) (ht : Tidy col W) (hb : Below W.heap.size W W') : PT col k W' g t := HP.keep (P := fun _ => False) h (StepC.below ht hb) (fun _ _ h => h) (fun h => h)
theorem AtT.tidy (h : AtT PT w0 col W k g t) : Tidy col W := h.since.tidy
theorem AtT.below (HP : ProgTh PT) (h : AtT PT w0 col W k g t) (hb : Below W.heap.size W W') : AtT PT w0 col W' k g t := ⟨h.since.belowL hb, HP.below h.pt h.tidy hb⟩
theorem AtT.did (h : AtT PT w0 col W k g t) (hk : 1 ≤ k) (hd : DidPT PT col k W g t' W') : ∃ col', AtT PT w0 col' W' k g t' := by
  obtain ⟨col', h1, s⟩ := hd
  exact ⟨col', h.since.step s (rng0 hk), h1⟩
end
end Go.Proofs.YtlfhkhnhcckajaaDoor

/- What lifts of stage 13 want: an entry that came in. Conditions: none beyond those typed. -/
namespace Go.Proofs.YtlfhkhnhcckajaaDoor
open Go.ChangeShapes Go.WideShapes Go.ChangeAt Go.RowKit
set_option linter.unusedVariables false
set_option linter.unusedSimpArgs false
set_option maxRecDepth 100000

theorem open_entry {H : Type} {enc : TypeId × Value → H} {W : World} {cs : Array Value} {d : DataW H} {p : List MemPlace} (h : DataW.Trod enc Tryd.prog W 0 (fun _ => true) true 34 (.agg cs) d p) :
    ∃ (s : ByteArray) (t x : Int) (y1 y2 : DataW H), cs = #[.string s, .int .u64 t, .int .u64 x] ∧ d = .agg [.lit (.string s.data.toList), y1, y2] ∧ W64 t ∧ W64 x := by
  obtain ⟨fuel, hf⟩ := h
  obtain ⟨y0, y1, y2, m, hd, hlen, t0, t1, t2⟩ := Go.Deep.trod_struct3 Tryd.underlying34 hf
  have e0 : Tryd.prog.cellsOf 34 = 3 := by kernel_rfl
  have e1 : Tryd.prog.cellsOf 9 = 1 := by kernel_rfl
  have e2 : Tryd.prog.cellsOf 30 = 1 := by kernel_rfl
  obtain ⟨l⟩ := cs
  have hlen' : l.length = 3 := by rw [← e0]; simpa [Value.cells] using hlen
  match l, hlen' with
  | [c0, c1, c2], _ =>
    simp only [Value.cells] at t0 t1 t2
    rw [e1] at t0
    rw [e2] at t1 t2
    simp at t0 t1 t2
    obtain ⟨s, h0, k0, _⟩ := DataW.trod_string Tryd.underlying9 t0
    obtain ⟨t, h1, _, w1⟩ := DataW.trod_int Tryd.underlying30 t1
    obtain ⟨x, h2, _, w2⟩ := DataW.trod_int Tryd.underlying30 t2
    simp only [List.cons.injEq, and_true] at h0 h1 h2
    subst h0 h1 h2
    injection hd with hd _
    rw [k0] at hd
    exact ⟨s, t, x, y1.1, y2.1, rfl, hd, bounds_u64 w1, bounds_u64 w2⟩
theorem sized_entry {H : Type} {ts : List TypeId} {ds : List (DataW H)} (h : (DataW.weightsEach Tryd.prog ts ds).all (· ≤ reachBytes) = true) {j : Nat} {s : ByteArray} {y1 y2 : DataW H} (ht : ts[j]? = some 34) (hd : ds[j]? = some (.agg [.lit (.string s.data.toList), y1, y2])) : Sz s := by
  have h1 : s.data.toList.length ≤ 140737488351232 := of_decide_eq_true (List.all_eq_true.1 h _ (DataW.weights_mem_each ht hd _ (by simp [DataW.weights, Tryd.underlying34, DataW.weightsEach])))
  have h2 := ba_size s
  unfold Sz
  omega
end Go.Proofs.YtlfhkhnhcckajaaDoor

/- A deck beside other objects: it lies in a block of colour 1. Conditions: none beyond those typed. -/
namespace Go.Proofs.YtlfhkhnhcckajaaDoor
open Go.ChangeShapes Go.WideShapes Go.ChangeAt Go.RowKit
set_option linter.unusedVariables false
set_option linter.unusedSimpArgs false

/-- Nothing elder has turned; the deck lies in a block of colour 1. -/
structure DkS (w : World) (col : Col) (W : World) (gd : Nat) (A : Option Addr) (m d : Nat) : Prop where
  since : Since w col W
  dk : Dk w W gd A m d
  dc : col gd = 1
section
variable {w W W' : World} {col col' : Col} {gd m d : Nat} {A : Option Addr} {P : Nat → Prop}
theorem DkS.tidy (h : DkS w col W gd A m d) : Tidy col W := h.since.tidy
theorem DkS.new (h : RdI w A m d) : DkS w (dye (fun _ => 0) (some w.heap.size) 1) (w.alloc (.cells #[.slice A m d, .int .i64 0] 49)) w.heap.size A m d :=
  ⟨(Since.start w).step (StepC.new (fun _ _ => rfl) _ 1 (fun _ => False)) (fun h => h), Dk.new h, dye_of⟩
theorem DkS.step (h : DkS w col W gd A m d) (s : StepC P col W col' W') (h1 : ¬ P 1) (hz : ¬ P 0) : DkS w col' W' gd A m d := by
  have hs := h.since.step s hz
  obtain ⟨d1, d2, d3, a, hD⟩ := h.dk
  exact ⟨hs, ⟨d1, hs.below, d3, a, hD.far (s.block gd hD.lt (by rw [h.dc]; exact h1))⟩, (s.kept gd hD.lt).trans h.dc⟩
theorem DkS.below (h : DkS w col W gd A m d) (hb : Below W.heap.size W W') : DkS w col W' gd A m d := h.step (P := fun _ => False) (StepC.below h.tidy hb) (fun h => h) (fun h => h)
/-- Behind a call of the deck's. -/
theorem DkS.deck (h : DkS w col W gd A m d) (hD : Dk w W' gd A m d) (hg : W.grownBy W' (some gd)) : DkS w col W' gd A m d ∧ StepC (fun c => c = 1) col W col W' := by
  have s : StepC (fun c => c = 1) col W col W' := StepC.grownBy h.tidy hg fun q e => by injection e with e; subst e; exact h.dc
  exact ⟨⟨h.since.step s (by omega), hD, h.dc⟩, s⟩
end
end Go.Proofs.YtlfhkhnhcckajaaDoor

/- Deck.Entry. Conditions: none beyond those typed. -/
namespace Go.Proofs.YtlfhkhnhcckajaaDoor
open Go.ChangeShapes Go.WideShapes Go.ChangeAt Go.RowKit
set_option linter.unusedVariables false
set_option linter.unusedSimpArgs false
set_option maxRecDepth 100000

/-- A small entry comes back, and the deck; nothing else has turned. -/
def EntryDk (B : World) (g : Nat) (A : Option Addr) (n c : Nat) (W : World) (e : Ending) (W' : World) : Prop :=
  ∃ x : En, (2 ≤ x.1.size ∧ x.1.size ≤ 3) ∧ (0 ≤ x.2.1 ∧ x.2.1 < 30) ∧ (0 ≤ x.2.2 ∧ x.2.2 < 10) ∧ e = .returned (.agg (VE x)) ∧ Dk B W' g A n c ∧ W.grownBy W' (some g)
theorem grow_pre {w w1 w2 : World} {row : Option Nat} (h : Below w.heap.size w w1) (hg : w1.grownBy w2 row) : w.grownBy w2 row :=
  ⟨hg.os.trans h.os, hg.tape.trans h.tape, hg.output.trans h.output, Nat.le_trans h.size hg.size, fun k hk hr => (hg.block k (Nat.lt_of_lt_of_le hk h.size) hr).trans (h.block k hk)⟩
theorem grow_two {w w1 w2 : World} {row : Option Nat} (h : w.grownBy w1 row) (hg : w1.grownBy w2 row) : w.grownBy w2 row :=
  ⟨hg.os.trans h.os, hg.tape.trans h.tape, hg.output.trans h.output, Nat.le_trans h.size hg.size, fun k hk hr => (hg.block k (Nat.lt_of_lt_of_le hk h.size) hr).trans (h.block k hk hr)⟩
theorem grow_new {w w1 : World} {row : Option Nat} (h : w.grownBy w1 row) {a : Addr} (ha : w.heap.size ≤ a.block) (v : Value) : w.grownBy (w1.setCell a v) row :=
  ⟨h.os, h.tape, h.output, by have := h.size; simpa [World.setCell] using this, fun k hk hr => (Below.heap_setCell _ _ _ _ (by omega)).trans (h.block k hk hr)⟩
end Go.Proofs.YtlfhkhnhcckajaaDoor
