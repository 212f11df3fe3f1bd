/- Words laid together in one text. Conditions: none beyond those typed. -/
import Derived.Test.YtlfhkhnhcckajaaGreatDoorWr
import Derived.Test.YtlfhkhnhcckajaaGreatDoorZ04
import Derived.Test.YtlfhkhnhcckajaaGreatDoorZ02
import Derived.Test.YtlfhkhnhcckajaaGreatDoorZ05
import Derived.Test.YtlfhkhnhcckajaaGreatDoorTm
import Derived.BigQuiet
import Derived.Test.YtlfhkhnhcckajaaGreatDoorZ03
import Derived.Deep.RegionHeld3
import Derived.Deep.CutRange
import Derived.Test.YtlfhkhnhcckajaaGreatDoorZ13
import Derived.Test.YtlfhkhnhcckajaaGreatDoorZ09
import Derived.Test.YtlfhkhnhcckajaaGreatDoorZ10
import Derived.Laws.OwnMore
/- The program's orders, each contract by itself. Conditions: none beyond those typed. -/
namespace Go.Proofs.YtlfhkhnhcckajaaGreatDoor
open Go.ChangeShapes Go.WideShapes Go.ChangeAt Go.RowKit
set_option linter.unusedVariables false
set_option linter.unusedSimpArgs false
set_option maxRecDepth 100000

section
variable {col : Col} {w w' : World} {k g : Nat} {m : CSt Int}
theorem PRr.below (h : PRr col k w g m) (ht : Tidy col w) (hb : Below w.heap.size w w') : PRr col k w' g m := h.keep (P := fun _ => False) (StepC.below ht hb) (fun _ _ h => h) (fun h => h)
theorem PRr.insP (h : PRr col k w g m) (ht : Tidy col w) {z x : Int} (hz : J64 z) (hx : U64 x) : Calls Tryz.prog 59 #[.pointer (some ⟨g, 0, none⟩), .int .i64 z, .int .u64 x] w fun e w' => e = .returned (.int .i64 (m.insR z x).1) ∧ DidPR PRr col k w g (m.insR z x).2 w' := by
  obtain ⟨hk, c2, L, loc, F, t2, S⟩ := h
  exact (rins_any S t2 hz hx).mono fun e w' h => ⟨h.1, h.2.out F hk ht⟩
theorem PRr.raiseP (h : PRr col k w g m) (ht : Tidy col w) {z x : Int} (hz : J64 z) (hx : U64 x) : Calls Tryz.prog 61 #[.pointer (some ⟨g, 0, none⟩), .int .i64 z, .int .u64 x] w fun e w' => e = .returned (.int .i64 (m.raiseR z x).1) ∧ DidPR PRr col k w g (m.raiseR z x).2 w' := by
  obtain ⟨hk, c2, L, loc, F, t2, S⟩ := h
  exact (rraise_any S t2 hz hx).mono fun e w' h => ⟨h.1, h.2.out F hk ht⟩
theorem PRr.remP (h : PRr col k w g m) (ht : Tidy col w) {z : Int} (hz : J64 z) : Calls Tryz.prog 55 #[.pointer (some ⟨g, 0, none⟩), .int .i64 z] w fun e w' => e = .returned (.tuple #[.int .u64 (m.value 0 z).1, .int .i64 (m.value 0 z).2]) ∧ DidPR PRr col k w g (m.rem z) w' := by
  obtain ⟨hk, c2, L, loc, F, t2, S⟩ := h
  exact (rrem_any S t2 hz).mono fun e w' h => ⟨h.1, h.2.out F hk ht⟩
theorem PRr.countP (h : PRr col k w g m) (ht : Tidy col w) {z : Int} (hz : J64 z) : Calls Tryz.prog 71 #[.pointer (some ⟨g, 0, none⟩), .int .i64 z] w fun e w' => e = .returned (.tuple #[.int .u64 (m.countR z).1, .bool (m.countR z).2]) ∧ Below w.heap.size w w' := by
  obtain ⟨hk, c2, L, loc, F, t2, S⟩ := h
  exact rcount_any S t2 hz
theorem PRr.leastP (h : PRr col k w g m) (ht : Tidy col w) : Calls Tryz.prog 62 #[.pointer (some ⟨g, 0, none⟩)] w fun e w' => e = .returned (.tuple #[.int .i64 m.leastR.1.1, .int .u64 m.leastR.1.2, .bool m.leastR.2]) ∧ Below w.heap.size w w' := by
  obtain ⟨hk, c2, L, loc, F, t2, S⟩ := h
  exact rleast_any S t2
theorem PRr.lenP (h : PRr col k w g m) : Calls Tryz.prog 63 #[.pointer (some ⟨g, 0, none⟩)] w fun e w' => e = .returned (.int .i64 m.l.length) ∧ w = w' := by
  obtain ⟨hk, c2, L, loc, F, t2, S⟩ := h
  exact rlen_any S
end
end Go.Proofs.YtlfhkhnhcckajaaGreatDoor

/- The specified table (heavykeysref08.Map) in memory: at, Get. Conditions: none beyond those typed. -/
namespace Go.Proofs.YtlfhkhnhcckajaaGreatDoor
open Go.ChangeShapes Go.WideShapes Go.ChangeAt Go.RowKit
set_option linter.unusedVariables false
set_option linter.unusedSimpArgs false
set_option maxRecDepth 100000

section
variable {P : Nat → Prop} {col col' : Col} {w w' : World} {k g n n' : Nat} {m : MSt Int} {K K' : List ByteArray} {V V' : List Int} {vK vV v' : Value} {s : ByteArray} {i : Nat} {p : ByteArray × Int}
theorem keys_len (m : MSt Int) : m.keys.length = m.l.length := by simp [MSt.keys]
theorem vals_len (m : MSt Int) : m.vals.length = m.l.length := by simp [MSt.vals]
theorem look_is {l : List (ByteArray × Int)} {p : ByteArray × Int} (h : Srt l) (hp : l[placeM l s]? = some p) : (lookM l s).isSome = decide (p.1 = s) := by
  rw [look_place h, hp]
  by_cases e : p.1 = s
  · simp [e]
  · simp [e]
theorem look_off {l : List (ByteArray × Int)} (h : Srt l) (hp : l.length ≤ placeM l s) : lookM l s = none := by
  rw [look_place h, List.getElem?_eq_none hp]
/-- What Get returns. -/
def getV (m : MSt Int) (s : ByteArray) : Int × Bool := ((m.look s).getD 0, (m.look s).isSome)
end
end Go.Proofs.YtlfhkhnhcckajaaGreatDoor

/- The specified table (heavykeysref08.Map) in memory: Put. Conditions: none beyond those typed. -/
namespace Go.Proofs.YtlfhkhnhcckajaaGreatDoor
open Go.ChangeShapes Go.WideShapes Go.ChangeAt Go.RowKit
set_option linter.unusedVariables false
set_option linter.unusedSimpArgs false
set_option maxRecDepth 100000

section
variable {P : Nat → Prop} {col col' : Col} {w w' : World} {k g n : Nat} {m : MSt Int} {vK vV v' : Value} {s : ByteArray} {i : Nat} {p : ByteArray × Int}
theorem put_set {u : Int} (h : m.look s = some u) (v : Int) : m.put s v = (0, { m with l := setM m.l s v }) := by unfold MSt.put; rw [h]
theorem put_full (h : m.look s = none) (hn : m.l.length = m.n) (v : Int) : m.put s v = (7, m) := by unfold MSt.put; rw [h]; exact if_pos hn
theorem put_add (h : m.look s = none) (hn : m.l.length ≠ m.n) (v : Int) : m.put s v = (0, { m with l := addM m.l s v }) := by unfold MSt.put; rw [h]; exact if_neg hn
theorem set_vals (l : List (ByteArray × Int)) (s : ByteArray) (v : Int) : (setM l s v).map Prod.snd = (l.map Prod.snd).set (placeM l s) v := by unfold setM; rw [List.map_set]
theorem add_keys (l : List (ByteArray × Int)) (s : ByteArray) (v : Int) : (addM l s v).map Prod.fst = ((l.map Prod.fst).take (placeM l s) ++ [s]) ++ (l.map Prod.fst).drop (placeM l s) := by unfold addM; simp [List.map_take, List.map_drop]
theorem add_vals (l : List (ByteArray × Int)) (s : ByteArray) (v : Int) : (addM l s v).map Prod.snd = ((l.map Prod.snd).take (placeM l s) ++ [v]) ++ (l.map Prod.snd).drop (placeM l s) := by unfold addM; simp [List.map_take, List.map_drop]
end
end Go.Proofs.YtlfhkhnhcckajaaGreatDoor

/- The specified table (heavykeysref08.Map) in memory: Delete. Conditions: none beyond those typed. -/
namespace Go.Proofs.YtlfhkhnhcckajaaGreatDoor
open Go.ChangeShapes Go.WideShapes Go.ChangeAt Go.RowKit
set_option linter.unusedVariables false
set_option linter.unusedSimpArgs false
set_option maxRecDepth 100000

section
variable {P : Nat → Prop} {col col' : Col} {w w' : World} {k g n : Nat} {m : MSt Int} {vK vV v' : Value} {s : ByteArray} {i : Nat} {p : ByteArray × Int}
theorem del_none (h : m.look s = none) : m.del s = m := by unfold MSt.del; rw [h]
theorem del_some {u : Int} (h : m.look s = some u) : m.del s = { m with l := delM m.l s } := by unfold MSt.del; rw [h]
theorem del_keys (l : List (ByteArray × Int)) (s : ByteArray) : (delM l s).map Prod.fst = (l.map Prod.fst).take (placeM l s) ++ (l.map Prod.fst).drop (placeM l s + 1) := by unfold delM; simp [List.map_take, List.map_drop]
theorem del_vals (l : List (ByteArray × Int)) (s : ByteArray) : (delM l s).map Prod.snd = (l.map Prod.snd).take (placeM l s) ++ (l.map Prod.snd).drop (placeM l s + 1) := by unfold delM; simp [List.map_take, List.map_drop]
end
end Go.Proofs.YtlfhkhnhcckajaaGreatDoor

/- The specified table (heavykeysref08.Map) in memory: Keys, NewMap; SameTexts. Conditions: none beyond those typed. -/
namespace Go.Proofs.YtlfhkhnhcckajaaGreatDoor
open Go.ChangeShapes Go.WideShapes Go.ChangeAt Go.RowKit
set_option linter.unusedVariables false
set_option linter.unusedSimpArgs false
set_option maxRecDepth 100000

section
variable {P : Nat → Prop} {col col' : Col} {w w' : World} {k g n : Nat} {m : MSt Int} {vK vV v' : Value} {s : ByteArray} {i : Nat}
/-- A row of texts in new memory comes back. -/
def KeysOut (w : World) (l : List ByteArray) (e : Ending) (w' : World) : Prop := ∃ A c, e = .returned (.slice A l.length c) ∧ RdG kT w' A l.length c l ∧ (∀ b o sp, A = some ⟨b, o, sp⟩ → w.heap.size ≤ b) ∧ Below w.heap.size w w'
def mapE (n : Int) (t : Nat) : Int := if n < 1 ∨ 8192 < n then 1 else tabE t
end
end Go.Proofs.YtlfhkhnhcckajaaGreatDoor

/- All that the statements use of the program's tables, as one structure of contracts over a representation. Conditions: none beyond those typed. -/
namespace Go.Proofs.YtlfhkhnhcckajaaGreatDoor
open Go.ChangeShapes Go.WideShapes Go.ChangeAt Go.RowKit
set_option linter.unusedVariables false
set_option linter.unusedSimpArgs false

/-- Table m lies in block g, with the base colour k. -/
abbrev RepM (α : Type) := Col → Nat → World → Nat → MSt α → Prop
def DidPM {α : Type} (PM : RepM α) (col : Col) (k : Nat) (w : World) (g : Nat) (m : MSt α) (w' : World) : Prop := ∃ col', PM col' k w' g m ∧ StepC (Rng k) col w col' w'
def NewPM {α : Type} (PM : RepM α) (col : Col) (k : Nat) (n : Int) (t : Nat) (w : World) (e : Ending) (w' : World) : Prop :=
  (mapE n t = 0 ∧ ∃ g, e = .returned (.tuple #[.pointer (some ⟨g, 0, none⟩), .int .i64 0]) ∧ DidPM PM col k w g (newM α n.toNat) w') ∨ (mapE n t ≠ 0 ∧ e = .returned (.tuple #[.pointer none, .int .i64 (mapE n t)]) ∧ Below w.heap.size w w')
/-- What Get and Delete return. -/
def getG {α : Type} (z : α) (m : MSt α) (s : ByteArray) : α × Bool := ((m.look s).getD z, (m.look s).isSome)
/-- A slice of words that never turns. -/
structure RdU0 (col : Col) (w : World) (A : Option Addr) (n c : Nat) (l : List Int) : Prop where
  rd : RdU w A n c l
  imm : Imm col A n
/-- V: how a value lies in a slot; z: the zero value; ok: the values that a slot bears; fN, fP, fG, fD, fL: New, Put, Get, Delete, Len. -/
structure ProgM {α : Type} (V : α → Value) (z : α) (ok : α → Prop) (fN fP fG fD fL : Nat) (PM : RepM α) : Prop where
  keep : ∀ {P : Nat → Prop} {col col' : Col} {w w' : World} {k g : Nat} {m : MSt α}, PM col k w g m → StepC P col w col' w' → (∀ c, Rng k c → ¬ P c) → ¬ P 0 → PM col' k w' g m
  good : ∀ {col : Col} {w : World} {k g : Nat} {m : MSt α}, PM col k w g m → GoodM m
  new : ∀ {col : Col} {k : Nat} {w : World} {A : Option Addr} {t c : Nat} {T : List Int}, Tidy col w → 1 ≤ k → RdU0 col w A t c T → ∀ n seed : Int, (-9223372036854775808 ≤ n ∧ n ≤ 9223372036854775807) → (0 ≤ seed ∧ seed ≤ 18446744073709551615) →
    Calls Tryz.prog fN #[.int .i64 n, .slice A t c, .int .u64 seed] w (NewPM PM col k n t w)
  put : ∀ {col : Col} {k g : Nat} {w : World} {m : MSt α}, PM col k w g m → Tidy col w → ∀ (s : ByteArray) (v : α), s.size ≤ 281474976710656 → ok v →
    Calls Tryz.prog fP #[.pointer (some ⟨g, 0, none⟩), .string s, V v] w fun e w' => e = .returned (.int .i64 (m.put s v).1) ∧ DidPM PM col k w g (m.put s v).2 w'
  get : ∀ {col : Col} {k g : Nat} {w : World} {m : MSt α}, PM col k w g m → Tidy col w → ∀ s : ByteArray, s.size ≤ 281474976710656 →
    Calls Tryz.prog fG #[.pointer (some ⟨g, 0, none⟩), .string s] w fun e w' => e = .returned (.tuple #[V (getG z m s).1, .bool (getG z m s).2]) ∧ Below w.heap.size w w'
  del : ∀ {col : Col} {k g : Nat} {w : World} {m : MSt α}, PM col k w g m → Tidy col w → ∀ s : ByteArray, s.size ≤ 281474976710656 →
    Calls Tryz.prog fD #[.pointer (some ⟨g, 0, none⟩), .string s] w fun e w' => e = .returned (.tuple #[V (getG z m s).1, .bool (getG z m s).2]) ∧ DidPM PM col k w g (m.del s) w'
  len : ∀ {col : Col} {k g : Nat} {w : World} {m : MSt α}, PM col k w g m → Tidy col w →
    Calls Tryz.prog fL #[.pointer (some ⟨g, 0, none⟩)] w fun e w' => e = .returned (.int .i64 m.l.length) ∧ Below w.heap.size w w'
def I64' (z : Int) : Prop := -9223372036854775808 ≤ z ∧ z ≤ 9223372036854775807
section
variable {α : Type} {PM : RepM α} {w0 W W' : World} {col col' : Col} {k g : Nat} {m m' : MSt α} {P : Nat → Prop} {V : α → Value} {z : α} {ok : α → Prop} {fN fP fG fD fL : Nat} {A : Option Addr} {n c : Nat} {T : List Int}
theorem RdU0.keep (h : RdU0 col W A n c T) (hs : StepC P col W col' W') (hp : ¬ P 0) : RdU0 col' W' A n c T := by
  have hl : 0 < n → ∀ b o sp, A = some ⟨b, o, sp⟩ → b < W.heap.size := fun hn b o sp e => by
    obtain ⟨b', o', z, e', _, _, hc⟩ := h.rd.at_ hn
    rw [e'] at e; injection e with e; injection e with e1 e2; subst e1
    exact hc.2.1
  refine ⟨⟨h.rd.1, h.rd.2.1, h.rd.2.2.1, h.rd.2.2.2.1, fun j a ha => ?_⟩, h.imm.step hs hl⟩
  obtain ⟨b, o, hA, hc⟩ := h.rd.2.2.2.2 j a ha
  have hn : 0 < n := by
    have := (List.getElem?_eq_some_iff.1 ha).1
    have := h.rd.len
    omega
  exact ⟨b, o, hA, (World.cell?_of_block (w := W) (hs.block b (hl hn b o none hA) (by rw [h.imm hn b o none hA]; exact hp))).trans hc⟩
theorem RdU0.below (h : RdU0 col W A n c T) (ht : Tidy col W) (hb : Below W.heap.size W W') : RdU0 col W' A n c T := h.keep (P := fun _ => False) (StepC.below ht hb) (fun h => h)
theorem ProgM.below (HP : ProgM V z ok fN fP fG fD fL PM) (h : PM col k W g m) (ht : Tidy col W) (hb : Below W.heap.size W W') : PM col k W' g m := HP.keep (P := fun _ => False) h (StepC.below ht hb) (fun _ _ h => h) (fun h => h)
end
end Go.Proofs.YtlfhkhnhcckajaaGreatDoor

/- Package hash: Check, Key, Row, Slot. Conditions: none beyond those typed. -/
namespace Go.Proofs.YtlfhkhnhcckajaaGreatDoor
open Go.ChangeShapes Go.WideShapes Go.ChangeAt Go.RowKit
set_option linter.unusedVariables false
set_option linter.unusedSimpArgs false
set_option maxRecDepth 100000

set_option maxHeartbeats 400000 in
theorem rot5_any (h : Int) (w : World) (h0 : 0 ≤ h) (h1 : h ≤ 18446744073709551615) :
    Calls Tryz.prog 122 #[.int .u64 h, .int .u64 5] w fun e w' => e = .returned (.int .u64 (rotU h 5)) ∧ w = w' := by
  have HR := Lib.hid (show rotU h 5 = bits .or .u64 (IntKind.u64.wrap (h * 32)) (h / 576460752303423488) from rfl)
  go_enter Tryz.func122, Tryz.ntmps122
  go_wp2
  go_ret
  exact ⟨ret_w HR.out.symm, rfl⟩
set_option maxHeartbeats 400000 in
theorem rot7_any (h : Int) (w : World) (h0 : 0 ≤ h) (h1 : h ≤ 18446744073709551615) :
    Calls Tryz.prog 122 #[.int .u64 h, .int .u64 7] w fun e w' => e = .returned (.int .u64 (rotU h 7)) ∧ w = w' := by
  have HR := Lib.hid (show rotU h 7 = bits .or .u64 (IntKind.u64.wrap (h * 128)) (h / 144115188075855872) from rfl)
  go_enter Tryz.func122, Tryz.ntmps122
  go_wp2
  go_ret
  exact ⟨ret_w HR.out.symm, rfl⟩
set_option maxHeartbeats 400000 in
theorem hcheck_any (A : Option Addr) (n c : Nat) (w : World) (hn : n ≤ 9223372036854775807) :
    Calls Tryz.prog 67 #[.slice A n c] w fun e w' => e = .returned (.int .i64 (tabE n)) ∧ w = w' := by
  by_cases h : n = 16
  · subst h
    go_enter Tryz.func67, Tryz.ntmps67
    go_wp2
    go_ret
    exact ⟨rfl, rfl⟩
  · have HR := Lib.hid (show tabE n = 11 from if_neg h)
    have hv : ((n : Int) != 16) = true := bne_iff_ne.2 (by omega)
    go_enter Tryz.func67, Tryz.ntmps67
    go_wp2
    go_ret
    exact ⟨ret_i64 HR.out.symm, rfl⟩
set_option maxHeartbeats 1000000 in
theorem mix_any (b : Option Addr) (c : Nat) (t : List Int) (h : Int) (x : Nat) (w : World) (hR : RdU w b 16 c t) (h0 : 0 ≤ h) (h1 : h ≤ 18446744073709551615) (hc : x < 256) :
    Calls Tryz.prog 97 #[.slice b 16 c, .int .u64 h, .int .u8 x] w fun e w' => e = .returned (.int .u64 (hStep t h x)) ∧ w' = w.drewN 2 := by
  have hmx := hR.max
  have hcap := hR.cap
  obtain ⟨q, hq⟩ : ∃ q : Nat, (x : Int) / 16 = q := ⟨x / 16, by omega⟩
  obtain ⟨r, hr⟩ : ∃ r : Nat, (x : Int) % 16 = r := ⟨x % 16, by omega⟩
  have hq2 : (x : Int).tdiv 16 = q := by rw [Int.tdiv_eq_ediv_of_nonneg (by omega)]; exact hq
  have hr2 : (x : Int).tmod 16 = r := by rw [Int.tmod_eq_emod_of_nonneg (by omega)]; exact hr
  obtain ⟨b1, o1, z1, e1, g1, z10, z11, hbl, c1⟩ := hR.at_ (k := q) (by omega)
  obtain ⟨b2, o2, z2, e2, g2, z20, z21, _, c2⟩ := hR.at_ (k := r) (by omega)
  subst e1
  injection e2 with e2; injection e2 with e21 e22; subst e21 e22
  have HS2 := Lib.hid (show hStep t h x = IntKind.u64.wrap (IntKind.u64.wrap (rotU (bits .xor .u64 (rotU h 5) z1) 7 + z2) * 11400714819323198485) by
    unfold hStep
    rw [show x / 16 = q by omega, show x % 16 = r by omega, List.getD_eq_getElem?_getD, List.getD_eq_getElem?_getD, g1, g2]
    rfl)
  have hq3 : x / 16 = q := by omega
  have hr3 : x % 16 = r := by omega
  have qw : IntKind.u8.wrap (q : Int) = q := wrap_u8' _ (by omega) (by omega)
  have rw' : IntKind.u8.wrap (r : Int) = r := wrap_u8' _ (by omega) (by omega)
  have q0 : (0 : Int) ≤ (q : Int) := by omega
  have r0 : (0 : Int) ≤ (r : Int) := by omega
  have qi : (q : Int) < 16 := by omega
  have ri : (r : Int) < 16 := by omega
  have hbb := rotU_bd h 5
  have hx := bits_within .xor .u64 (rotU h 5) z1
  have hb7 := rotU_bd (bits .xor .u64 (rotU h 5) z1) 7
  clear g1 g2 hbl hR
  go_enter Tryz.func97, Tryz.ntmps97
  go_wp2
  go_region_held3 (fun w' => w'.cell? ⟨b1, o1 + q, none⟩ = some (.int .u64 z1)) (first | exact c1 | assumption) (first | (go_at_call 122; refine (rot5_any h _ h0 h1).mono ?_; rintro e w' ⟨rfl, rfl⟩))
  all_goals
    go_wp2
    go_region_held3 (fun w' => w'.cell? ⟨b1, o1 + r, none⟩ = some (.int .u64 z2)) (first | exact c2 | assumption) (first | (go_at_call 122; refine (rot7_any (bits .xor .u64 (rotU h 5) z1) _ hx.1 hx.2).mono ?_; rintro e w' ⟨rfl, rfl⟩))
    all_goals
      go_wp2
      go_ret
      exact ⟨ret_w HS2.out.symm, rfl⟩
set_option maxHeartbeats 1000000 in
theorem hkey_drawn (A : Option Addr) (n c : Nat) (t : List Int) (seed : Int) (key : ByteArray) (w : World) (hR : RdU w A n c t) (h0 : 0 ≤ seed) (h1 : seed ≤ 18446744073709551615) (hk : key.size ≤ 9223372036854775807) :
    Calls Tryz.prog 83 #[.slice A n c, .int .u64 seed, .string key] w fun e w' => e = .returned (.int .u64 (hashP t seed key)) ∧ ∃ j, w' = w.drewN j := by
  have hmx := hR.max
  have hcap := hR.cap
  have hln := hR.len
  by_cases h16 : n = 16
  · subst h16
    have HP := Lib.hid (show hashP t seed key = hFin (hAll t seed key.data.toList) from if_pos hln)
    have HT := Lib.hid (show tabE 16 = 0 from rfl)
    clear hln
    go_enter Tryz.func83, Tryz.ntmps83
    go_wp2_with fail
    refine (hcheck_any _ _ _ _ (by omega)).mono ?_
    rintro e w' ⟨rfl, rfl⟩
    rw [HT.out]
    go_wp2
    go_loopw [7, 15] (fun h i wr => ∃ k j : Nat, k ≤ key.size ∧ i = .int .i64 k ∧ h = .int .u64 (hAll t seed (key.data.toList.take k)) ∧ wr = w.drewN j) (fun _ i _ => key.size - (intOf i).toNat)
    case atStart => exact ⟨0, 0, Nat.zero_le _, rfl, rfl, rfl⟩
    case round =>
      obtain ⟨k, j, hkk, rfl, rfl, rfl⟩ := hrel
      have hbd := hAll_bd t seed ⟨h0, h1⟩ (key.data.toList.take k)
      by_cases hlt : k < key.size
      · have HS := Lib.hid (hAll_take t seed key hlt)
        have hc : key[k].toNat < 256 := key[k].toNat_lt
        generalize hAll t seed (key.data.toList.take k) = h at *
        go_wp2_with fail
        refine (mix_any A c t h key[k].toNat _ (hR.drewN j) hbd.1 hbd.2 hc).mono ?_
        rintro e w' ⟨rfl, rfl⟩
        go_wp2
        go_roundw
        case rel => exact ⟨k + 1, j + 1 + 1, by omega, by go_num, by rw [HS.out], rfl⟩
        case measure => (simp [intOf] <;> omega)
      · have he : key.data.toList.take k = key.data.toList := List.take_of_length_le (by simp; omega)
        rw [he] at hbd ⊢
        generalize hAll t seed key.data.toList = h at *
        go_wp2
        go_ret
        exact ⟨ret_w HP.out.symm, _, rfl⟩
  · have HP := Lib.hid (show hashP t seed key = 0 from if_neg (by omega))
    have HT := Lib.hid (show tabE n = 11 from if_neg h16)
    go_enter Tryz.func83, Tryz.ntmps83
    go_wp2_with fail
    refine (hcheck_any _ _ _ _ (by omega)).mono ?_
    rintro e w' ⟨rfl, rfl⟩
    rw [HT.out]
    go_wp2
    go_ret
    exact ⟨ret_w HP.out.symm, 0, rfl⟩

set_option maxHeartbeats 400000 in
theorem hslot_any (h n : Int) (w : World) (h0 : 0 ≤ h) (h1 : h ≤ 18446744073709551615) (h2 : -9223372036854775808 ≤ n) (h3 : n ≤ 9223372036854775807) :
    Calls Tryz.prog 82 #[.int .u64 h, .int .i64 n] w fun e w' => e = .returned (.int .i64 (slotP h n)) ∧ w = w' := by
  by_cases hn : n < 1
  · have HP := Lib.hid (show slotP h n = 0 from if_pos hn)
    go_enter Tryz.func82, Tryz.ntmps82
    go_wp2
    go_ret
    exact ⟨ret_i64 HP.out.symm, rfl⟩
  · have HP := Lib.hid (show slotP h n = h % n from if_neg hn)
    have hz : ¬ n = 0 := by omega
    have hz2 : (n == 0) = false := beq_false_of_ne hz
    have hm0 := Int.emod_nonneg h hz
    have hm1 := Int.emod_lt_of_pos h (show 0 < n by omega)
    have ht : h.tmod n = h % n := Int.tmod_eq_emod_of_nonneg h0
    go_enter Tryz.func82, Tryz.ntmps82
    go_wp2
    go_ret
    exact ⟨ret_i64 HP.out.symm, rfl⟩
theorem hkey_any (A : Option Addr) (n c : Nat) (t : List Int) (seed : Int) (key : ByteArray) (w : World) (hR : RdU w A n c t) (h0 : 0 ≤ seed) (h1 : seed ≤ 18446744073709551615) (hk : key.size ≤ 9223372036854775807) :
    Calls Tryz.prog 83 #[.slice A n c, .int .u64 seed, .string key] w fun e w' => e = .returned (.int .u64 (hashP t seed key)) ∧ Below w.heap.size w w' :=
  (hkey_drawn A n c t seed key w hR h0 h1 hk).mono fun e w' ⟨he, j, hj⟩ => ⟨he, by rw [hj]; exact below_drewN (Below.refl _ _) j⟩
end Go.Proofs.YtlfhkhnhcckajaaGreatDoor

/- Places of the program's tables in memory, and what stays true of them. Conditions: none beyond those typed. -/
namespace Go.Proofs.YtlfhkhnhcckajaaGreatDoor
open Go.ChangeShapes Go.WideShapes Go.ChangeAt Go.RowKit
set_option linter.unusedVariables false
set_option linter.unusedSimpArgs false
set_option maxRecDepth 100000

/-- A place as it lies in memory: in use, the place of the key's hash, the key, the value. -/
abbrev Pl (α : Type) := Bool × Int × ByteArray × α
/-- A free place has the zero value. -/
def plOf {α : Type} (z : α) (home : ByteArray → Nat) : Option (ByteArray × α) → Pl α
  | none => (false, 0, ⟨#[]⟩, z)
  | some e => (true, (home e.1 : Int), e.1, e.2)
def plE {α : Type} (V : α → Value) (r : Pl α) : List Value := [.bool r.1, .int .i64 r.2.1, .string r.2.2.1, V r.2.2.2]
/-- The place of a key's hash. -/
def homeT (T : List Int) (seed : Int) (N : Nat) (s : ByteArray) : Nat := (slotP (hashP T seed s) N).toNat
theorem hash_bd (t : List Int) (seed : Int) (key : ByteArray) : 0 ≤ hashP t seed key ∧ hashP t seed key ≤ 18446744073709551615 := by
  unfold hashP
  split
  · exact bits_within .xor .u64 _ _
  · omega
theorem home_val (T : List Int) (seed : Int) {N : Nat} (hN : 0 < N) (s : ByteArray) : slotP (hashP T seed s) N = (homeT T seed N s : Int) ∧ homeT T seed N s < N := by
  have h0 := Int.emod_nonneg (hashP T seed s) (show (N : Int) ≠ 0 by omega)
  have h1 := Int.emod_lt_of_pos (hashP T seed s) (show (0 : Int) < N by omega)
  unfold homeT slotP
  rw [if_neg (by omega)]
  omega
/-- One step nearer. -/
theorem dst_step {N i e : Nat} (hi : i < N) (he : e < N) (hne : i ≠ e) : dst N ((i + 1) % N) e + 1 = dst N i e := by
  rw [next_mod hi]
  unfold dst
  split <;> split <;> (try split) <;> omega
theorem dst_pos {N i e : Nat} (hi : i < N) (he : e < N) (hne : i ≠ e) : 0 < dst N i e := by
  rcases Nat.eq_zero_or_pos (dst N i e) with h | h
  · exact absurd (dst_zero hi he h) hne
  · exact h
section
variable {α : Type} {t : Tb α} {home : ByteArray → Nat} {m : MSt α} {i j : Nat} {s : ByteArray} {v : α}
theorem tb_len_set {x : Option (ByteArray × α)} : (t.set i x).length = t.length := List.length_set
/-- Two places are free, where there are more than one more than keys. -/
theorem RelT.room2 (R : RelT t m) (G : GoodM m) (h : LP home t) (hi : Emp t i) (hlt : m.l.length + 1 < t.length) : ∃ e, Emp t e ∧ e ≠ i := by
  have hil : i < t.length := (List.getElem?_eq_some_iff.1 hi).1
  rcases Classical.em (∃ e, Emp t e ∧ e ≠ i) with h1 | h1
  · exact h1
  · exfalso
    have hall : ∀ (t : Tb α) (n : Nat), (∀ j, Emp t j → j + n = i) → t.length ≤ (ents t).length + 1 := by
      intro t
      induction t with
      | nil => intro n _; exact Nat.zero_le _
      | cons x r ih =>
        intro n hn
        have hr := ih (n + 1) fun j hj => by have := hn (j + 1) hj; omega
        cases x with
        | none =>
          have h0 := hn 0 rfl
          have hfull : ∀ (r : Tb α), (∀ j, ¬ Emp r j) → (ents r).length = r.length := by
            intro r
            induction r with
            | nil => intro _; rfl
            | cons y q ih2 =>
              intro hq
              cases y with
              | none => exact absurd rfl (hq 0)
              | some e => show (e :: ents q).length = _; rw [List.length_cons, List.length_cons, ih2 fun j hj => hq (j + 1) hj]
          have h2 := hfull r fun j hj => by have := hn (j + 1) hj; omega
          show (none :: r).length ≤ (ents r).length + 1
          rw [List.length_cons]; omega
        | some e => show (some e :: r).length ≤ (e :: ents r).length + 1; rw [List.length_cons, List.length_cons]; omega
    have h2 := hall t 0 fun j hj => by
      rcases Nat.decEq j i with h3 | h3
      · exact absurd ⟨j, hj, h3⟩ h1
      · omega
    have := R.count G h
    omega
end
/-- A copy of a table in new memory. -/
def CloneOut (w : World) (n : Nat) (T : List Int) (e : Ending) (w' : World) : Prop := ∃ b c, e = .returned (.slice (some ⟨b, 0, none⟩) n c) ∧ RdU w' (some ⟨b, 0, none⟩) n c T ∧ w.heap.size ≤ b ∧ b < w'.heap.size ∧ Below w.heap.size w w'
set_option maxHeartbeats 400000 in
theorem cloneU_any {A : Option Addr} {n c : Nat} {T : List Int} {w : World} (h : RdU w A n c T) (hn : n ≤ 1000000) (h0 : 0 < n) : Calls Tryz.prog 68 #[.slice A n c] w (CloneOut w n T) := by
  have hln := h.len
  have hb := h.2.2.2.1
  obtain ⟨b0, o0, z0, rfl, _⟩ := h.at_ h0
  have hnil : ∀ W, (binOp .eql 86 (.slice (some ⟨b0, o0, none⟩) n c) (.slice none 0 0)).run Tryz.prog W = .ok (.bool false) W := fun W => Lib.run_eql_slice_some_nil W _ _ _ Tryz.underlying86
  have b1 : Below w.heap.size w (w.alloc (.cells #[] 30)) := (Below.refl _ _).alloc (Nat.le_refl _) _
  have R1 := h.toK.below b1
  have O1 : OwnK kU (w.alloc (.cells #[] 30)) (.slice (some ⟨w.heap.size, 0, none⟩) 0 0) [] := OwnK.empty' kU rfl rfl
  have N1 : New w (.slice (some ⟨w.heap.size, 0, none⟩) 0 0) := New.lit (Nat.le_refl _)
  have hby : ([] : List Int).length + n ≤ 1000000000 := by simp; omega
  have hl2 : ([] ++ T).length = n := by simp [hln]
  clear h
  go_enter Tryz.func68, Tryz.ntmps68
  go_wp2_with (at_builtin; refine wpList_appK kU rfl (.tmp 5) (.tmp 6) rfl _ [] rfl _ n c T rfl O1 R1 hby ?_; intro v2 w2 O2 G2 hat2; have N2 : New w v2 := New.app N1 b1 hat2; have B2 := b1.grown G2 b1.size (fun q hq => N1 q hq); obtain ⟨A2, c2, rfl, R2, hh⟩ := O2.form hl2)
  go_ret
  rcases hh with ⟨_, h2, _⟩ | ⟨g, rfl, hg⟩
  · simp at h2; subst h2; simp at hln; omega
  · exact ⟨g, c2, rfl, RdU.ofK (by simpa using R2) hb, N2 g rfl, hg, B2⟩
theorem list_set_self {β : Type} {l : List β} {i : Nat} {a : β} (h : l[i]? = some a) : l.set i a = l := by
  apply List.ext_getElem?
  intro q
  rw [List.getElem?_set]
  by_cases e : i = q
  · subst e
    rw [if_pos rfl, if_pos (List.getElem?_eq_some_iff.1 h).1, h]
  · rw [if_neg e]
theorem str_eq_at {a b : ByteArray} : (a.toList == b.toList) = decide (a = b) := str_beq a b
theorem k1_rng {k c : Nat} (h : c = k + 1) : Rng k c := ⟨by omega, by omega⟩
theorem k0_rng {k c : Nat} (h : c = k) : Rng k c := ⟨by omega, by omega⟩
theorem below_grown_none {w w' : World} (hg : w.grownBy w' none) : Below w.heap.size w w' := (Below.refl _ _).grown hg (Nat.le_refl _) (fun q hq => by cases hq)
theorem ne_ge {a b c : Nat} (h : c ≤ a) (h' : b < c) : a ≠ b := by omega
theorem ne_lt {a b c : Nat} (h : a < c) (h' : b = c) : a ≠ b := by omega
end Go.Proofs.YtlfhkhnhcckajaaGreatDoor

/- The program's tables of int values in memory: the box, the row of places. Conditions: none beyond those typed. -/
namespace Go.Proofs.YtlfhkhnhcckajaaGreatDoor
open Go.ChangeShapes Go.WideShapes Go.ChangeAt Go.RowKit
set_option linter.unusedVariables false
set_option linter.unusedSimpArgs false
set_option maxRecDepth 100000

/-- Places with their values. -/
def kPi : Kind (Pl Int) where
  ty := 121
  sl := 115
  k := 4
  by_ := 40
  zero := .agg #[.bool false, .int .i64 0, .string ⟨#[]⟩, .int .i64 0]
  enc := plE (fun z : Int => Value.int .i64 z)
  pos := by omega
  len := fun _ => rfl
  one := fun a u hu => by simp [plE] at hu; rcases hu with rfl | rfl | rfl | rfl <;> rfl
  under := Tryz.underlying115
  info := by kernel_rfl
  zk := rfl
  small := by omega
/-- A table of the program: its box and its row of N places. -/
structure Mxi (col : Col) (k : Nat) (w : World) (g n u N : Nat) (T : List Int) (seed : Int) (A : Option Addr) (cT b c : Nat) (l : List (Pl Int)) : Prop where
  box : BoxC col w g k #[.slice A 16 cT, .int .u64 seed, .int .i64 n, .int .i64 u, .slice (some ⟨b, 0, none⟩) N c] 117
  tab : RdU0 col w A 16 cT T
  row : OwnKc kPi col w (k + 1) (.slice (some ⟨b, 0, none⟩) N c) l
  s0 : 0 ≤ seed ∧ seed ≤ 18446744073709551615
  n1 : 1 ≤ n ∧ n ≤ 8192
  nN : N = 2 * n
  k1 : 1 ≤ k
section
variable {P : Nat → Prop} {col col' : Col} {w w' : World} {k g n u N : Nat} {T : List Int} {seed : Int} {A : Option Addr} {cT b c : Nat} {l : List (Pl Int)} {i : Nat} {r : Pl Int}
theorem Mxi.keep (h : Mxi col k w g n u N T seed A cT b c l) (hs : StepC P col w col' w') (hp : ∀ c, Rng k c → ¬ P c) (h0 : ¬ P 0) : Mxi col' k w' g n u N T seed A cT b c l :=
  ⟨h.box.keep hs (hp _ ⟨Nat.le_refl _, by omega⟩), h.tab.keep hs h0, h.row.keep hs (hp _ ⟨by omega, by omega⟩), h.s0, h.n1, h.nN, h.k1⟩
theorem Mxi.below (h : Mxi col k w g n u N T seed A cT b c l) (ht : Tidy col w) (hb : Below w.heap.size w w') : Mxi col k w' g n u N T seed A cT b c l := h.keep (P := fun _ => False) (StepC.below ht hb) (fun _ _ h => h) (fun h => h)
theorem Mxi.drewN (h : Mxi col k w g n u N T seed A cT b c l) (ht : Tidy col w) (j : Nat) : Mxi col k (w.drewN j) g n u N T seed A cT b c l := h.below ht (below_drewN (Below.refl _ _) j)
theorem Mxi.len (h : Mxi col k w g n u N T seed A cT b c l) : l.length = N := h.row.own.len
theorem Mxi.c0 (h : Mxi col k w g n u N T seed A cT b c l) : w.cell? ⟨g, 0, none⟩ = some (.slice A 16 cT) := h.box.cell 0 rfl
theorem Mxi.c1 (h : Mxi col k w g n u N T seed A cT b c l) : w.cell? ⟨g, 1, none⟩ = some (.int .u64 seed) := h.box.cell 1 rfl
theorem Mxi.c2 (h : Mxi col k w g n u N T seed A cT b c l) : w.cell? ⟨g, 2, none⟩ = some (.int .i64 n) := h.box.cell 2 rfl
theorem Mxi.c3 (h : Mxi col k w g n u N T seed A cT b c l) : w.cell? ⟨g, 3, none⟩ = some (.int .i64 u) := h.box.cell 3 rfl
theorem Mxi.c4 (h : Mxi col k w g n u N T seed A cT b c l) : w.cell? ⟨g, 4, none⟩ = some (.slice (some ⟨b, 0, none⟩) N c) := h.box.cell 4 rfl
theorem Mxi.cap (h : Mxi col k w g n u N T seed A cT b c l) : N ≤ c ∧ c ≤ 9223372036854775807 := ⟨h.row.own.reads.cap, h.row.own.reads.max⟩
theorem Mxi.at_ (h : Mxi col k w g n u N T seed A cT b c l) (hr : l[i]? = some r) :
    w.cell? ⟨b, i * 4, none⟩ = some (.bool r.1) ∧ w.cell? ⟨b, i * 4 + 1, none⟩ = some (.int .i64 r.2.1) ∧ w.cell? ⟨b, i * 4 + 2, none⟩ = some (.string r.2.2.1) ∧ w.cell? ⟨b, i * 4 + 3, none⟩ = some ((fun z : Int => Value.int .i64 z) r.2.2.2) ∧ ∀ z, w.frozen? ⟨b, z, none⟩ = false :=
  ⟨h.row.own.cell hr (i := 0) rfl, h.row.own.cell hr (i := 1) rfl, h.row.own.cell hr (i := 2) rfl, h.row.own.cell hr (i := 3) rfl, fun z => h.row.own.free z⟩
/-- A place is written. -/
theorem Mxi.put (h : Mxi col k w g n u N T seed A cT b c l) (ht : Tidy col w) (hi : i < N) (r : Pl Int) :
    Mxi col k ((((w.setCell ⟨b, i * 4, none⟩ (.bool r.1)).setCell ⟨b, i * 4 + 1, none⟩ (.int .i64 r.2.1)).setCell ⟨b, i * 4 + 2, none⟩ (.string r.2.2.1)).setCell ⟨b, i * 4 + 3, none⟩ ((fun z : Int => Value.int .i64 z) r.2.2.2)) g n u N T seed A cT b c (l.set i r) ∧
      StepC (fun d => d = k + 1) col w col ((((w.setCell ⟨b, i * 4, none⟩ (.bool r.1)).setCell ⟨b, i * 4 + 1, none⟩ (.int .i64 r.2.1)).setCell ⟨b, i * 4 + 2, none⟩ (.string r.2.2.1)).setCell ⟨b, i * 4 + 3, none⟩ ((fun z : Int => Value.int .i64 z) r.2.2.2)) := by
  have hl := h.len
  have hg := List.getElem?_eq_getElem (show i < l.length by omega)
  obtain ⟨h1, s1⟩ := h.row.put4 ht rfl hg (a' := r) (u0 := .bool r.1) (u1 := .int .i64 r.2.1) (u2 := .string r.2.2.1) (u3 := (fun z : Int => Value.int .i64 z) r.2.2.2) (p0 := (r.1, l[i].2.1, l[i].2.2.1, l[i].2.2.2)) (p1 := (r.1, r.2.1, l[i].2.2.1, l[i].2.2.2)) (p2 := (r.1, r.2.1, r.2.2.1, l[i].2.2.2)) rfl rfl rfl rfl
  have h0 : ¬ (0 = k + 1) := by omega
  exact ⟨⟨h.box.keep s1 (by omega), h.tab.keep s1 h0, h1, h.s0, h.n1, h.nN, h.k1⟩, s1⟩
/-- A value is written. -/
theorem Mxi.val (h : Mxi col k w g n u N T seed A cT b c l) (ht : Tidy col w) (hr : l[i]? = some r) (v : Int) :
    Mxi col k (w.setCell ⟨b, i * 4 + 3, none⟩ ((fun z : Int => Value.int .i64 z) v)) g n u N T seed A cT b c (l.set i (r.1, r.2.1, r.2.2.1, v)) ∧ StepC (fun d => d = k + 1) col w col (w.setCell ⟨b, i * 4 + 3, none⟩ ((fun z : Int => Value.int .i64 z) v)) := by
  have s1 : StepC (fun d => d = k + 1) col w col (w.setCell ⟨b, i * 4 + 3, none⟩ ((fun z : Int => Value.int .i64 z) v)) := StepC.set ht h.row.col.of _
  have h1 := h.row.set (j := i) (i := 3) (a' := (r.1, r.2.1, r.2.2.1, v)) (u := (fun z : Int => Value.int .i64 z) v) hr (by show 3 < 4; omega) rfl
  have h0 : ¬ (0 = k + 1) := by omega
  exact ⟨⟨h.box.keep s1 (by omega), h.tab.keep s1 h0, h1, h.s0, h.n1, h.nN, h.k1⟩, s1⟩
/-- The number of keys is written. -/
theorem Mxi.used (h : Mxi col k w g n u N T seed A cT b c l) (ht : Tidy col w) (u' : Nat) :
    Mxi col k (w.setCell ⟨g, 3, none⟩ (.int .i64 u')) g n u' N T seed A cT b c l ∧ StepC (fun d => d = k) col w col (w.setCell ⟨g, 3, none⟩ (.int .i64 u')) := by
  have s1 : StepC (fun d => d = k) col w col (w.setCell ⟨g, 3, none⟩ (.int .i64 u')) := StepC.set ht h.box.col _
  have h0 : ¬ (0 = k) := by have := h.k1; omega
  exact ⟨⟨h.box.put 3 (.int .i64 u'), h.tab.keep s1 h0, h.row.keep s1 (by omega), h.s0, h.n1, h.nN, h.k1⟩, s1⟩
set_option maxHeartbeats 1000000 in
theorem nexti_any (h : Mxi col k w g n u N T seed A cT b c l) (hi : i < N) {r : Nat} (hr : (i + 1) % N = r) : Calls Tryz.prog 81 #[.pointer (some ⟨g, 0, none⟩), .int .i64 (i : Int)] w fun e w' => e = .returned (.int .i64 (r : Int)) ∧ w = w' := by
  have x4 := h.c4
  have hN := h.nN
  have hn := h.n1
  have hw : IntKind.i64.wrap ((i : Int) + 1) = (i : Int) + 1 := by rw [IntKind.wrap_i64]; omega
  have hz : ¬ (N : Int) = 0 := by omega
  have hz2 : ((N : Int) == 0) = false := beq_false_of_ne hz
  have hrN : r < N := by rw [← hr]; exact Nat.mod_lt _ (by omega)
  have ht : ((i : Int) + 1).tmod (N : Int) = (r : Int) := by
    rw [Int.tmod_eq_emod_of_nonneg (by omega), ← hr]; rfl
  have hrI : (r : Int) ≤ 16384 := by omega
  have hrn : IntKind.i64.wrap (r : Int) = (r : Int) := by rw [IntKind.wrap_i64]; omega
  clear hr h hN
  go_enter Tryz.func81, Tryz.ntmps81
  go_wp2
  go_ret
  exact ⟨rfl, rfl⟩
set_option maxHeartbeats 1000000 in
theorem stepsi_any (h : Mxi col k w g n u N T seed A cT b c l) {p q : Nat} (hp : p < N) (hq : q < N) : Calls Tryz.prog 84 #[.pointer (some ⟨g, 0, none⟩), .int .i64 (p : Int), .int .i64 (q : Int)] w fun e w' => e = .returned (.int .i64 (dst N p q : Int)) ∧ ∃ j, w' = w.drewN j := by
  have x4 := h.c4
  have hN := h.nN
  have hn := h.n1
  obtain ⟨d, hd⟩ : ∃ d : Int, (q : Int) - (p : Int) = d := ⟨_, rfl⟩
  obtain ⟨s, hs⟩ : ∃ s : Nat, d + (N : Int) = (s : Int) := ⟨(d + N).toNat, by omega⟩
  have hw1 : IntKind.i64.wrap ((q : Int) - (p : Int)) = d := by rw [IntKind.wrap_i64]; omega
  have hw2 : IntKind.i64.wrap (d + (N : Int)) = (s : Int) := by rw [IntKind.wrap_i64]; omega
  have hz : ¬ (N : Int) = 0 := by omega
  have hz2 : ((N : Int) == 0) = false := beq_false_of_ne hz
  obtain ⟨r, hr⟩ : ∃ r : Nat, dst N p q = r := ⟨_, rfl⟩
  have hrN : r < N := by rw [← hr]; exact dst_lt hp hq
  have ht : (s : Int).tmod (N : Int) = (r : Int) := by
    rw [Int.tmod_eq_emod_of_nonneg (by omega), ← hr, ← dst_mod hp hq, show s = q + N - p by omega]; rfl
  have hrI : (r : Int) ≤ 16384 := by omega
  have hrn : IntKind.i64.wrap (r : Int) = (r : Int) := by rw [IntKind.wrap_i64]; omega
  have hdb : -16384 ≤ d ∧ d ≤ 16384 := by omega
  have hsb : (s : Int) ≤ 32768 := by omega
  rw [hr]
  clear hr h hN hd hs
  go_enter Tryz.func84, Tryz.ntmps84
  go_wp2
  go_quiet (fail)
  go_wp2
  go_ret
  exact ⟨rfl, _, rfl⟩
set_option maxHeartbeats 1000000 in
theorem homei_any (h : Mxi col k w g n u N T seed A cT b c l) {s : ByteArray} (hsz : s.size ≤ 9223372036854775807) : Calls Tryz.prog 70 #[.pointer (some ⟨g, 0, none⟩), .string s] w fun e w' => e = .returned (.int .i64 (homeT T seed N s : Int)) ∧ Below w.heap.size w w' := by
  have x0 := h.c0
  have x1 := h.c1
  have x4 := h.c4
  have hN := h.nN
  have hn := h.n1
  have hbd := hash_bd T seed s
  have hNa : (-9223372036854775808 : Int) ≤ (N : Int) := by omega
  have hNb : (N : Int) ≤ 9223372036854775807 := by omega
  obtain ⟨hv, hlt⟩ := home_val T seed (N := N) (by omega) s
  have HT := h.tab.rd
  have h01 := h.s0
  clear h hN hn hlt
  go_enter Tryz.func70, Tryz.ntmps70
  go_wp2
  go_region_held3 (fun w' => w'.cell? ⟨g, 0, none⟩ = some (.slice A 16 cT) ∧ w'.cell? ⟨g, 1, none⟩ = some (.int .u64 seed) ∧ w'.cell? ⟨g, 4, none⟩ = some (.slice (some ⟨b, 0, none⟩) N c)) (first | exact ⟨x0, x1, x4⟩ | assumption) (first | (go_at_call 83; refine (hkey_drawn A 16 cT T seed s _ (HT.below (bdM _)) h01.1 h01.2 hsz).mono ?_; rintro e w' ⟨rfl, jq, rfl⟩) | (go_at_call 82; refine (hslot_any _ _ _ hbd.1 hbd.2 hNa hNb).mono ?_; rintro e w' ⟨rfl, rfl⟩))
  all_goals
    go_wp2
    go_ret
    exact ⟨rfl, below_drewN (Below.refl _ _) _⟩
end
end Go.Proofs.YtlfhkhnhcckajaaGreatDoor
