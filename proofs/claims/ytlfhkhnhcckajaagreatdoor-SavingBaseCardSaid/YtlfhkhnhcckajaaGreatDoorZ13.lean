/- Words laid together in one text. Conditions: none beyond those typed. -/
import Derived.Test.YtlfhkhnhcckajaaGreatDoorBase
import Derived.Test.YtlfhkhnhcckajaaGreatDoorBm
import Derived.Laws.Closers25b
import Derived.Deep.RegionHeld3
import Derived.Test.YtlfhkhnhcckajaaGreatDoorZ02
import Derived.Test.YtlfhkhnhcckajaaGreatDoorZ10
import Derived.Test.YtlfhkhnhcckajaaGreatDoorZ05
import Derived.Test.YtlfhkhnhcckajaaGreatDoorZ03
import Derived.BigQuiet
import Derived.Deep.CutRange
import Derived.Test.YtlfhkhnhcckajaaGreatDoorZ09
/- Words for slices of uint64, and the specified hash as a plain function. Conditions: none beyond those typed. -/
namespace Go.Proofs.YtlfhkhnhcckajaaGreatDoor
open Go.ChangeShapes Go.WideShapes Go.ChangeAt Go.RowKit
set_option linter.unusedVariables false
set_option linter.unusedSimpArgs false
set_option maxRecDepth 100000

/-- The slice value '.slice A n c' reads as these numbers of 64 bits. -/
def RdU (w : World) (A : Option Addr) (n c : Nat) (l : List Int) : Prop :=
  l.length = n ∧ n ≤ c ∧ c ≤ maxLen ∧ (∀ z ∈ l, 0 ≤ z ∧ z ≤ 18446744073709551615) ∧
    ∀ j z, l[j]? = some z → ∃ b o, A = some ⟨b, o, none⟩ ∧ w.cell? ⟨b, o + j, none⟩ = some (.int .u64 z)
section
variable {w w' : World} {A : Option Addr} {n c : Nat} {l : List Int}
theorem RdU.len (h : RdU w A n c l) : l.length = n := h.1
theorem RdU.cap (h : RdU w A n c l) : n ≤ c := h.2.1
theorem RdU.max (h : RdU w A n c l) : c ≤ 9223372036854775807 := h.2.2.1
theorem RdU.at_ (h : RdU w A n c l) {k : Nat} (hk : k < n) :
    ∃ b o z, A = some ⟨b, o, none⟩ ∧ l[k]? = some z ∧ 0 ≤ z ∧ z ≤ 18446744073709551615 ∧ b < w.heap.size ∧ w.cell? ⟨b, o + k, none⟩ = some (.int .u64 z) := by
  have hl : k < l.length := by rw [h.1]; exact hk
  have hg : l[k]? = some l[k] := List.getElem?_eq_getElem hl
  obtain ⟨b, o, hA, hc⟩ := h.2.2.2.2 k _ hg
  have hb := h.2.2.2.1 _ (List.getElem_mem hl)
  exact ⟨b, o, l[k], hA, hg, hb.1, hb.2, World.block_lt_of_cell? w ⟨b, o + k, none⟩ hc, hc⟩
theorem RdU.below (h : RdU w A n c l) (hb : Below w.heap.size w w') : RdU w' A n c l :=
  ⟨h.1, h.2.1, h.2.2.1, h.2.2.2.1, fun j z hz => by
    obtain ⟨b, o, hA, hc⟩ := h.2.2.2.2 j z hz
    exact ⟨b, o, hA, (hb.cell (World.block_lt_of_cell? w _ hc)).trans hc⟩⟩
theorem RdU.drewN (h : RdU w A n c l) (k : Nat) : RdU (w.drewN k) A n c l := h
theorem RdU.take (h : RdU w A n c l) {k : Nat} (hk : k ≤ n) : RdU w A k c (l.take k) := by
  refine ⟨by rw [List.length_take, h.1]; omega, Nat.le_trans hk h.2.1, h.2.2.1, fun z hz => h.2.2.2.1 z (List.mem_of_mem_take hz), fun j z hz => ?_⟩
  rw [List.getElem?_take] at hz
  split at hz
  · exact h.2.2.2.2 j z hz
  · cases hz
end
/-- rot: P7.2, as the model reckons. -/
def rotU (h : Int) (k : Nat) : Int := bits .or .u64 (IntKind.u64.wrap (h * 2 ^ k)) (h / 2 ^ (64 - k))
theorem rotU_bd (h : Int) (k : Nat) : 0 ≤ rotU h k ∧ rotU h k ≤ 18446744073709551615 := ⟨bits_lo_u64 _ _ _, bits_hi_u64 _ _ _⟩
theorem ret_w {a b : Int} (h : a = b) : Ending.returned (.int .u64 a) = .returned (.int .u64 b) := by rw [h]
def tabE (n : Nat) : Int := if n = 16 then 0 else 11
theorem wrap_u8' (x : Int) (h0 : 0 ≤ x) (h1 : x ≤ 255) : IntKind.u8.wrap x = x := by
  simp [IntKind.wrap, IntKind.bits, IntKind.signed]
  omega
/-- One byte of a key. -/
def hStep (t : List Int) (h : Int) (b : Nat) : Int := IntKind.u64.wrap (IntKind.u64.wrap (rotU (bits .xor .u64 (rotU h 5) (t.getD (b / 16) 0)) 7 + t.getD (b % 16) 0) * 11400714819323198485)
def hAll (t : List Int) (h : Int) (key : List UInt8) : Int := key.foldl (fun h b => hStep t h b.toNat) h
def hFin (h : Int) : Int := bits .xor .u64 h (h / 4294967296)
/-- hash.Key, P7.2. -/
def hashP (t : List Int) (seed : Int) (key : ByteArray) : Int := if t.length = 16 then hFin (hAll t seed key.data.toList) else 0
theorem hAll_take (t : List Int) (h : Int) (key : ByteArray) {k : Nat} (hk : k < key.size) : hAll t h (key.data.toList.take (k + 1)) = hStep t (hAll t h (key.data.toList.take k)) key[k].toNat := by
  have e : key.data.toList[k]? = some key[k] := by
    rw [List.getElem?_eq_getElem (by simpa using hk)]; rfl
  rw [List.take_add_one, e]
  simp [hAll]
theorem u64_bd (x : Int) : 0 ≤ IntKind.u64.wrap x ∧ IntKind.u64.wrap x ≤ 18446744073709551615 := wrap_within .u64 x
theorem hAll_bd (t : List Int) (h : Int) (hh : 0 ≤ h ∧ h ≤ 18446744073709551615) : ∀ key : List UInt8, 0 ≤ hAll t h key ∧ hAll t h key ≤ 18446744073709551615 := by
  intro key
  unfold hAll
  induction key generalizing h with
  | nil => exact hh
  | cons b r ih => exact ih _ (u64_bd _)
/-- hash.Row, P7.3. -/
def rowP (t : List Int) (seed row : Int) (key : ByteArray) : Int := hashP t (IntKind.u64.wrap (seed + IntKind.u64.wrap (IntKind.u64.wrap (IntKind.u64.wrap row + 1) * 15111065706836454659))) key
/-- hash.Slot, P7.4. -/
def slotP (h n : Int) : Int := if n < 1 then 0 else h % n
end Go.Proofs.YtlfhkhnhcckajaaGreatDoor

/- Rows of numbers of 64 bits without a sign. Conditions: none beyond those typed. -/
namespace Go.Proofs.YtlfhkhnhcckajaaGreatDoor
open Go.ChangeShapes Go.WideShapes Go.ChangeAt Go.RowKit
set_option linter.unusedVariables false
set_option linter.unusedSimpArgs false

/-- Numbers of 64 bits as elements. -/
def kU : Kind Int where
  ty := 30
  sl := 86
  k := 1
  by_ := 8
  zero := .int .u64 0
  enc := fun z => [.int .u64 z]
  pos := by omega
  len := fun _ => rfl
  one := fun a u hu => by rw [List.mem_singleton.1 hu]; rfl
  under := Tryz.underlying86
  info := by kernel_rfl
  zk := rfl
  small := by omega
theorem RdU.toK {w : World} {A : Option Addr} {n c : Nat} {l : List Int} (h : RdU w A n c l) : RdG kU w A n c l := by
  refine ⟨h.1, h.2.1, h.2.2.1, fun j a ha => ?_⟩
  obtain ⟨b, o, hA, hc⟩ := h.2.2.2.2 j a ha
  refine ⟨b, o, hA, fun i u hu => ?_⟩
  have hi : i < 1 := (List.getElem?_eq_some_iff.1 hu).1
  obtain rfl : i = 0 := by omega
  have hu' : Value.int .u64 a = u := by injection hu
  rw [show kU.k = 1 from rfl, Nat.mul_one, Nat.add_zero, ← hu']
  exact hc
theorem RdU.ofK {w : World} {A : Option Addr} {n c : Nat} {l : List Int} (h : RdG kU w A n c l) (hb : ∀ z ∈ l, 0 ≤ z ∧ z ≤ 18446744073709551615) : RdU w A n c l := by
  refine ⟨h.1, h.2.1, h.2.2.1, hb, fun j a ha => ?_⟩
  obtain ⟨b, o, hA, hc⟩ := h.2.2.2 j a ha
  refine ⟨b, o, hA, ?_⟩
  have := hc 0 (.int .u64 a) rfl
  rw [show kU.k = 1 from rfl, Nat.mul_one, Nat.add_zero] at this
  exact this
end Go.Proofs.YtlfhkhnhcckajaaGreatDoor

/- The specified list (heavykeysref08.List) in memory: NewList, Place, Value, By. Conditions: none beyond those typed. -/
namespace Go.Proofs.YtlfhkhnhcckajaaGreatDoor
open Go.ChangeShapes Go.WideShapes Go.ChangeAt Go.RowKit
set_option linter.unusedVariables false
set_option linter.unusedSimpArgs false
set_option maxRecDepth 100000

def CSt.ns {α : Type} (m : CSt α) : List Int := m.l.map fun p => (p.1 : Int)
section
variable {P : Nat → Prop} {col col' : Col} {w w' : World} {k g n n' : Nat} {m : CSt Int} {N N' V V' : List Int} {vN vV v' : Value} {i : Nat} {p : Nat × Int}
theorem ns_len (m : CSt Int) : m.ns.length = m.l.length := by simp [CSt.ns]
theorem vs_len (m : CSt Int) : m.vals.length = m.l.length := by simp [CSt.vals]
/-- What Place returns. -/
def plC (l : List (Nat × Int)) (z : Int) : Int := match placeC l z with | none => -1 | some i => (i : Int)
theorem plC_scan {l : List (Nat × Int)} {z : Int} {j : Nat} {p : Nat × Int} (hp : l[j]? = some p) (hb : ∀ i q, i < j → l[i]? = some q → (q.1 : Int) ≠ z) (h : (p.1 : Int) = z) : placeC l z = some j := by
  unfold placeC
  obtain ⟨hj, e⟩ := List.getElem?_eq_some_iff.1 hp
  refine List.findIdx?_eq_some_iff_getElem.2 ⟨hj, by rw [e]; simpa using h, fun i hi => ?_⟩
  have := hb i _ hi (List.getElem?_eq_getElem (by omega))
  simpa using this
theorem plC_end {l : List (Nat × Int)} {z : Int} (hb : ∀ i q, i < l.length → l[i]? = some q → (q.1 : Int) ≠ z) : placeC l z = none := by
  unfold placeC
  refine List.findIdx?_eq_none_iff.2 fun p hp => ?_
  obtain ⟨i, hi⟩ := List.mem_iff_getElem?.1 hp
  have := hb i p (List.getElem?_eq_some_iff.1 hi).1 hi
  simpa using this
end
end Go.Proofs.YtlfhkhnhcckajaaGreatDoor

/- The specified list (heavykeysref08.List) in memory: NewList, Value, By, Insert, InsertAfter. Conditions: none beyond those typed. -/
namespace Go.Proofs.YtlfhkhnhcckajaaGreatDoor
open Go.ChangeShapes Go.WideShapes Go.ChangeAt Go.RowKit
set_option linter.unusedVariables false
set_option linter.unusedSimpArgs false
set_option maxRecDepth 100000

section
variable {P : Nat → Prop} {col col' : Col} {w w' : World} {k g n : Nat} {m : CSt Int} {vN vV v' : Value} {i : Nat} {p : Nat × Int}
def lstE (n : Int) : Int := if n < 1 ∨ 8192 < n then 1 else 0
theorem plC_none {l : List (Nat × Int)} {z : Int} (h : placeC l z = none) : plC l z = -1 := by unfold plC; rw [h]
theorem plC_some {l : List (Nat × Int)} {z : Int} {i : Nat} (h : placeC l z = some i) : plC l z = (i : Int) := by unfold plC; rw [h]
theorem ins_ns (l : List (Nat × Int)) (i : Nat) (v : Int) : (insC l i v).map (fun p => (p.1 : Int)) = ((l.map fun p => (p.1 : Int)).take i ++ [(freeN (l.map Prod.fst) : Int)]) ++ (l.map fun p => (p.1 : Int)).drop i := by unfold insC; simp [List.map_take, List.map_drop]
theorem ins_vs (l : List (Nat × Int)) (i : Nat) (v : Int) : (insC l i v).map Prod.snd = ((l.map Prod.snd).take i ++ [v]) ++ (l.map Prod.snd).drop i := by unfold insC; simp [List.map_take, List.map_drop]
theorem insA_none {z v : Int} (h : placeC m.l z = none) : m.insA z v = ((0, 8), m) := by unfold CSt.insA; rw [h]
theorem insA_some {z v : Int} {i : Nat} (h : placeC m.l z = some i) : m.insA z v = m.ins (i + 1) v := by unfold CSt.insA; rw [h]
end
end Go.Proofs.YtlfhkhnhcckajaaGreatDoor

/- The specified list (heavykeysref08.List) in memory: Remove. Conditions: none beyond those typed. -/
namespace Go.Proofs.YtlfhkhnhcckajaaGreatDoor
open Go.ChangeShapes Go.WideShapes Go.ChangeAt Go.RowKit
set_option linter.unusedVariables false
set_option linter.unusedSimpArgs false
set_option maxRecDepth 100000

section
variable {P : Nat → Prop} {col col' : Col} {w w' : World} {k g n : Nat} {m : CSt Int} {vN vV v' : Value} {i : Nat} {p : Nat × Int}
theorem rem_ns (l : List (Nat × Int)) (i : Nat) : (remC l i).map (fun p => (p.1 : Int)) = (l.map fun p => (p.1 : Int)).take i ++ (l.map fun p => (p.1 : Int)).drop (i + 1) := by unfold remC; simp [List.map_take, List.map_drop]
theorem rem_vs (l : List (Nat × Int)) (i : Nat) : (remC l i).map Prod.snd = (l.map Prod.snd).take i ++ (l.map Prod.snd).drop (i + 1) := by unfold remC; simp [List.map_take, List.map_drop]
end
end Go.Proofs.YtlfhkhnhcckajaaGreatDoor

/- All that the statements use of the program's lists, as structures of contracts over a representation. Conditions: none beyond those typed. -/
namespace Go.Proofs.YtlfhkhnhcckajaaGreatDoor
open Go.ChangeShapes Go.WideShapes Go.ChangeAt Go.RowKit
set_option linter.unusedVariables false
set_option linter.unusedSimpArgs false

/-- List m lies in block g, with the base colour k. -/
abbrev RepL (α : Type) := Col → Nat → World → Nat → CSt α → Prop
def DidPL {α : Type} (PL : RepL α) (col : Col) (k : Nat) (w : World) (g : Nat) (m : CSt α) (w' : World) : Prop := ∃ col', PL col' k w' g m ∧ StepC (Rng k) col w col' w'
def NewPL {α : Type} (PL : RepL α) (col : Col) (k : Nat) (n : Int) (w : World) (e : Ending) (w' : World) : Prop :=
  (lstE n = 0 ∧ ∃ g, e = .returned (.tuple #[.pointer (some ⟨g, 0, none⟩), .int .i64 0]) ∧ DidPL PL col k w g (newC α n.toNat) w') ∨ (lstE n = 1 ∧ e = .returned (.tuple #[.pointer none, .int .i64 1]) ∧ Below w.heap.size w w')
def AddOut {α : Type} (PL : RepL α) (col : Col) (k : Nat) (w : World) (g : Nat) (r : (Int × Int) × CSt α) (e : Ending) (w' : World) : Prop := e = .returned (.tuple #[.int .i64 r.1.1, .int .i64 r.1.2]) ∧ DidPL PL col k w g r.2 w'
/-- V: how a value lies; ok: the values that a node bears; fN, fB, fX: New, PushBack, Values. -/
structure ProgL {α : Type} (K : Kind α) (V : α → Value) (ok : α → Prop) (fN fB fX : Nat) (PL : RepL α) : Prop where
  keep : ∀ {P : Nat → Prop} {col col' : Col} {w w' : World} {k g : Nat} {m : CSt α}, PL col k w g m → StepC P col w col' w' → (∀ c, Rng k c → ¬ P c) → ¬ P 0 → PL col' k w' g m
  good : ∀ {col : Col} {w : World} {k g : Nat} {m : CSt α}, PL col k w g m → GoodC m
  new : ∀ {col : Col} {k : Nat} {w : World}, Tidy col w → TbC col w → 1 ≤ k → ∀ n : Int, J64 n → Calls Tryz.prog fN #[.int .i64 n] w (NewPL PL col k n w)
  pushB : ∀ {col : Col} {k g : Nat} {w : World} {m : CSt α}, PL col k w g m → Tidy col w → ∀ v : α, ok v → Calls Tryz.prog fB #[.pointer (some ⟨g, 0, none⟩), V v] w (AddOut PL col k w g (m.pushB v))
  vals : ∀ {col : Col} {k g : Nat} {w : World} {m : CSt α}, PL col k w g m → Tidy col w → Calls Tryz.prog fX #[.pointer (some ⟨g, 0, none⟩)] w (RowOut K w m.vals)
section
variable {α : Type} {PL : RepL α} {W W' : World} {col : Col} {k g : Nat} {m : CSt α} {K : Kind α} {V : α → Value} {ok : α → Prop} {fN fB fX : Nat}
theorem ProgL.below (HP : ProgL K V ok fN fB fX PL) (h : PL col k W g m) (ht : Tidy col W) (hb : Below W.heap.size W W') : PL col k W' g m := HP.keep (P := fun _ => False) h (StepC.below ht hb) (fun _ _ h => h) (fun h => h)
end
end Go.Proofs.YtlfhkhnhcckajaaGreatDoor
