/- Words laid together in one text. Conditions: none beyond those typed. -/
import Derived.Test.YtlfhkhnhcckajaaGreatDoorZ12
import Derived.Test.YtlfhkhnhcckajaaGreatDoorZ13
import Derived.Laws.OwnMore
import Derived.Test.YtlfhkhnhcckajaaGreatDoorBm
import Derived.StillTailTactics
import Derived.Test.YtlfhkhnhcckajaaGreatDoorZ03
import Derived.Test.YtlfhkhnhcckajaaGreatDoorZ02
/- The program's lists of heavykeys/ranks.bucket values in memory: the box, the row of places, the row of words. Conditions: none beyond those typed. -/
namespace Go.Proofs.YtlfhkhnhcckajaaGreatDoor
open Go.ChangeShapes Go.WideShapes Go.ChangeAt Go.RowKit
set_option linter.unusedVariables false
set_option linter.unusedSimpArgs false
set_option maxRecDepth 100000

def nEb (r : Pn (Int × Option Addr)) : List Value := [.int .i64 r.1, .int .i64 r.2.1, .int .u64 (r.2.2).1, .pointer (r.2.2).2]
/-- Places. -/
def kNb : Kind (Pn (Int × Option Addr)) where
  ty := 132
  sl := 133
  k := 4
  by_ := 32
  zero := .agg #[.int .i64 0, .int .i64 0, .int .u64 0, .pointer none]
  enc := nEb
  pos := by omega
  len := fun _ => rfl
  one := fun a u hu => by simp [nEb] at hu; rcases hu with rfl | rfl | rfl | rfl <;> rfl
  under := Tryz.underlying133
  info := by kernel_rfl
  zk := rfl
  small := by omega
/-- A list of the program: its box, its N places, its words; u nodes. -/
structure Lxb (col : Col) (k : Nat) (w : World) (g n u : Nat) (P : List (Pn (Int × Option Addr))) (b N c : Nat) (U : List Nat) (Au : Option Addr) (nu cu : Nat) : Prop where
  box : BoxC col w g k #[.int .i64 n, .int .i64 u, .slice (some ⟨b, 0, none⟩) N c, .slice Au nu cu] 135
  row : OwnKc kNb col w (k + 1) (.slice (some ⟨b, 0, none⟩) N c) P
  wds : OwnKc kU col w (k + 2) (.slice Au nu cu) (U.map fun z : Nat => (z : Int))
  tab : TbC col w
  k1 : 1 ≤ k
section
variable {P' : Nat → Prop} {col col' : Col} {w w' : World} {k g n u b N c nu cu : Nat} {Au : Option Addr} {P : List (Pn (Int × Option Addr))} {U : List Nat} {i : Nat} {r : Pn (Int × Option Addr)}
theorem Lxb.keep (h : Lxb col k w g n u P b N c U Au nu cu) (hs : StepC P' col w col' w') (hp : ∀ c, Rng k c → ¬ P' c) (h0 : ¬ P' 0) : Lxb col' k w' g n u P b N c U Au nu cu :=
  ⟨h.box.keep hs (hp _ ⟨Nat.le_refl _, by omega⟩), h.row.keep hs (hp _ ⟨by omega, by omega⟩), h.wds.keep hs (hp _ ⟨by omega, by omega⟩), h.tab.keep hs h0, h.k1⟩
theorem Lxb.below (h : Lxb col k w g n u P b N c U Au nu cu) (ht : Tidy col w) (hb : Below w.heap.size w w') : Lxb col k w' g n u P b N c U Au nu cu := h.keep (P' := fun _ => False) (StepC.below ht hb) (fun _ _ h => h) (fun h => h)
theorem Lxb.drewN (h : Lxb col k w g n u P b N c U Au nu cu) (ht : Tidy col w) (j : Nat) : Lxb col k (w.drewN j) g n u P b N c U Au nu cu := h.below ht (below_drewN (Below.refl _ _) j)
theorem Lxb.len (h : Lxb col k w g n u P b N c U Au nu cu) : P.length = N := h.row.own.len
theorem Lxb.lenU (h : Lxb col k w g n u P b N c U Au nu cu) : U.length = nu := by have := h.wds.own.len; simpa using this
theorem Lxb.c0 (h : Lxb col k w g n u P b N c U Au nu cu) : w.cell? ⟨g, 0, none⟩ = some (.int .i64 n) := h.box.cell 0 rfl
theorem Lxb.c1 (h : Lxb col k w g n u P b N c U Au nu cu) : w.cell? ⟨g, 1, none⟩ = some (.int .i64 u) := h.box.cell 1 rfl
theorem Lxb.c2 (h : Lxb col k w g n u P b N c U Au nu cu) : w.cell? ⟨g, 2, none⟩ = some (.slice (some ⟨b, 0, none⟩) N c) := h.box.cell 2 rfl
theorem Lxb.c3 (h : Lxb col k w g n u P b N c U Au nu cu) : w.cell? ⟨g, 3, none⟩ = some (.slice Au nu cu) := h.box.cell 3 rfl
theorem Lxb.cap (h : Lxb col k w g n u P b N c U Au nu cu) : N ≤ c ∧ c ≤ 9223372036854775807 := ⟨h.row.own.reads.cap, h.row.own.reads.max⟩
theorem Lxb.capU (h : Lxb col k w g n u P b N c U Au nu cu) : nu ≤ cu ∧ cu ≤ 9223372036854775807 := ⟨h.wds.own.reads.cap, h.wds.own.reads.max⟩
theorem Lxb.at_ (h : Lxb col k w g n u P b N c U Au nu cu) (hr : P[i]? = some r) :
    w.cell? ⟨b, i * 4, none⟩ = some (.int .i64 r.1) ∧ w.cell? ⟨b, i * 4 + 1, none⟩ = some (.int .i64 r.2.1) ∧ (w.cell? ⟨b, i * 4 + 2, none⟩ = some (.int .u64 (r.2.2).1) ∧ w.cell? ⟨b, i * 4 + 3, none⟩ = some (.pointer (r.2.2).2)) ∧ ∀ z, w.frozen? ⟨b, z, none⟩ = false :=
  ⟨h.row.own.cell hr (i := 0) rfl, h.row.own.cell hr (i := 1) rfl, ⟨h.row.own.cell hr (i := 2) rfl, h.row.own.cell hr (i := 3) rfl⟩, fun z => h.row.own.free z⟩
theorem Lxb.word (h : Lxb col k w g n u P b N c U Au nu cu) (hi : i < nu) : ∃ bu, Au = some ⟨bu, 0, none⟩ ∧ w.cell? ⟨bu, i, none⟩ = some (.int .u64 (U.getD i 0 : Nat)) ∧ ∀ z, w.frozen? ⟨bu, z, none⟩ = false := by
  obtain ⟨bu, rfl, _⟩ := h.wds.own.head (by omega)
  have hU := h.lenU
  have h1 : (U.map fun z : Nat => (z : Int))[i]? = some ((U.getD i 0 : Nat) : Int) := by
    rw [List.getElem?_map, List.getD_eq_getElem?_getD, List.getElem?_eq_getElem (show i < U.length by omega)]; rfl
  have h2 := h.wds.own.cell h1 (i := 0) rfl
  rw [show kU.k = 1 from rfl, Nat.mul_one, Nat.add_zero] at h2
  exact ⟨bu, rfl, h2, fun z => h.wds.own.free z⟩
/-- A cell of a place is written. -/
theorem Lxb.put (h : Lxb col k w g n u P b N c U Au nu cu) (ht : Tidy col w) (hr : P[i]? = some r) {j : Nat} {v : Value} {r' : Pn (Int × Option Addr)} (hj : j < 4) (he : nEb r' = (nEb r).set j v) :
    Lxb col k (w.setCell ⟨b, i * 4 + j, none⟩ v) g n u (P.set i r') b N c U Au nu cu ∧ StepC (fun d => d = k + 1) col w col (w.setCell ⟨b, i * 4 + j, none⟩ v) := by
  have s1 : StepC (fun d => d = k + 1) col w col (w.setCell ⟨b, i * 4 + j, none⟩ v) := StepC.set ht h.row.col.of _
  have h1 := h.row.set (j := i) (i := j) (a' := r') (u := v) hr (by show j < 4; omega) he
  exact ⟨⟨h.box.keep s1 (by omega), h1, h.wds.keep s1 (by omega), h.tab.keep s1 (by omega), h.k1⟩, s1⟩
/-- A word is written. -/
theorem Lxb.putU {bu : Nat} (h : Lxb col k w g n u P b N c U (some ⟨bu, 0, none⟩) nu cu) (ht : Tidy col w) (hi : i < nu) (y : Nat) :
    Lxb col k (w.setCell ⟨bu, i, none⟩ (.int .u64 (y : Int))) g n u P b N c (U.set i y) (some ⟨bu, 0, none⟩) nu cu ∧ StepC (fun d => d = k + 2) col w col (w.setCell ⟨bu, i, none⟩ (.int .u64 (y : Int))) := by
  have hU := h.lenU
  have s1 : StepC (fun d => d = k + 2) col w col (w.setCell ⟨bu, i, none⟩ (.int .u64 (y : Int))) := StepC.set ht h.wds.col.of _
  have h0 : (U.map fun z : Nat => (z : Int))[i]? = some ((U.getD i 0 : Nat) : Int) := by
    rw [List.getElem?_map, List.getD_eq_getElem?_getD, List.getElem?_eq_getElem (show i < U.length by omega)]; rfl
  have h1 := h.wds.set (j := i) (i := 0) (a' := (y : Int)) (u := .int .u64 (y : Int)) h0 (by show 0 < 1; omega) rfl
  rw [show kU.k = 1 from rfl, Nat.mul_one, Nat.add_zero, show (U.map fun z : Nat => (z : Int)).set i (y : Int) = (U.set i y).map fun z : Nat => (z : Int) by rw [List.map_set]] at h1
  exact ⟨⟨h.box.keep s1 (by omega), h.row.keep s1 (by omega), h1, h.tab.keep s1 (by omega), h.k1⟩, s1⟩
/-- The number of nodes is written. -/
theorem Lxb.cnt (h : Lxb col k w g n u P b N c U Au nu cu) (ht : Tidy col w) (u' : Nat) :
    Lxb col k (w.setCell ⟨g, 1, none⟩ (.int .i64 u')) g n u' P b N c U Au nu cu ∧ StepC (fun d => d = k) col w col (w.setCell ⟨g, 1, none⟩ (.int .i64 u')) := by
  have s1 : StepC (fun d => d = k) col w col (w.setCell ⟨g, 1, none⟩ (.int .i64 u')) := StepC.set ht h.box.col _
  have h0 := h.k1
  exact ⟨⟨h.box.put 1 (.int .i64 u'), h.row.keep s1 (by omega), h.wds.keep s1 (by omega), h.tab.keep s1 (by omega), h.k1⟩, s1⟩
/-- The program's list m lies in block g. -/
def PLb : RepL (Int × Option Addr) := fun col k w g m => ∃ (P : List (Pn (Int × Option Addr))) (b N c : Nat) (U : List Nat) (Au : Option Addr) (nu cu : Nat), Lxb col k w g m.n m.l.length P b N c U Au nu cu ∧ Rp m P U
variable {m : CSt (Int × Option Addr)}
theorem PLb.keep (h : PLb col k w g m) (hs : StepC P' col w col' w') (hp : ∀ c, Rng k c → ¬ P' c) (h0 : ¬ P' 0) : PLb col' k w' g m := by
  obtain ⟨P, b, N, c, U, Au, nu, cu, M, R⟩ := h
  exact ⟨P, b, N, c, U, Au, nu, cu, M.keep hs hp h0, R⟩
theorem PLb.below (h : PLb col k w g m) (ht : Tidy col w) (hb : Below w.heap.size w w') : PLb col k w' g m := h.keep (P' := fun _ => False) (StepC.below ht hb) (fun _ _ h => h) (fun h => h)
end
end Go.Proofs.YtlfhkhnhcckajaaGreatDoor

/- The program's lists of heavykeys/ranks.bucket values: has, join, least, Len, First, Last, Next, Prev, Value. Conditions: none beyond those typed. -/
namespace Go.Proofs.YtlfhkhnhcckajaaGreatDoor
open Go.ChangeShapes Go.WideShapes Go.ChangeAt Go.RowKit
set_option linter.unusedVariables false
set_option linter.unusedSimpArgs false
set_option maxRecDepth 100000

section
variable {P' : Nat → Prop} {col col' : Col} {w w' : World} {k g n u b N c nu cu : Nat} {Au : Option Addr} {P : List (Pn (Int × Option Addr))} {U : List Nat} {i : Nat} {r : Pn (Int × Option Addr)} {m : CSt (Int × Option Addr)}
set_option maxHeartbeats 1000000 in
theorem lleastb_any (h : Lxb col k w g n u P b N c U Au nu cu) {ns : List Nat} (hbit : ∀ j, hasB U j = decide (j ∈ ns)) (hbig : ∀ u ∈ U, u < 18446744073709551616) (hlU : nu ≤ 128) :
    Calls Tryz.prog 134 #[.pointer (some ⟨g, 0, none⟩)] w fun e w' => e = .returned (.int .i64 (freeN ns : Int)) ∧ w = w' := by
  have x3 := h.c3
  have hU := h.lenU
  obtain ⟨hcp, hcm⟩ := h.capU
  have hTb := h.tab.tab
  obtain ⟨R, hR⟩ : ∃ R, freeN ns = R := ⟨_, rfl⟩
  rw [hR]
  go_enter Tryz.func134, Tryz.ntmps134
  go_wp2
  go_loopw [11] (fun iv wr => ∃ i : Nat, i ≤ nu ∧ iv = .int .i64 (i : Int) ∧ (∀ j, j < 64 * i → j ∈ ns) ∧ wr = w) (fun iv _ => nu - (intOf iv).toNat)
  case atStart => exact ⟨0, Nat.zero_le _, rfl, fun j hj => by omega, rfl⟩
  case round =>
    obtain ⟨i, hi, rfl, hall, hwr⟩ := hrel
    subst hwr
    by_cases hlt : i < nu
    · obtain ⟨bu, rfl, hc, _⟩ := h.word hlt
      have hxb := getD_lt hbig i
      obtain ⟨x, hx⟩ : ∃ x, U.getD i 0 = x := ⟨_, rfl⟩
      rw [hx] at hc hxb
      have hT := tz_any (18446744073709551615 - x) (by omega) wr hTb
      obtain ⟨y, hy⟩ : ∃ y, 18446744073709551615 - x = y := ⟨_, rfl⟩
      rw [hy] at hT
      have hiI : (i : Int) < (nu : Int) := by omega
      have hinv : bits .xor .u64 IntKind.u64.max (x : Int) = (y : Int) := by rw [inv_any hxb, hy]
      obtain ⟨f1, f2⟩ := free_word hbit hbig hall (i := i) (y := y) (by rw [hx]; exact hy)
      have hFb : Lib.ctz 64 y ≤ 64 := by
        rcases Nat.eq_zero_or_pos y with e | e
        · rw [e, ctz_zero]; omega
        · have := (ctz_bit (x := y) (by omega) (by omega)).1; omega
      generalize Lib.ctz 64 y = F at *
      clear hbit hbig hall hx hy
      go_wp2_with fail
      refine hT.mono ?_
      rintro e w1 ⟨rfl, hw⟩
      subst hw
      by_cases hF : F < 64
      · have hFI : (F : Int) < 64 := by omega
        have hw1 : IntKind.i64.wrap ((i : Int) * 64) = (((i * 64 : Nat)) : Int) := by rw [IntKind.wrap_i64]; omega
        have hw2 : IntKind.i64.wrap (((i * 64 : Nat) : Int) + (F : Int)) = (R : Int) := by rw [← hR, f1 hF, IntKind.wrap_i64]; omega
        have HR := Lib.hid (show (R : Int) = (i : Int) * 64 + (F : Int) by rw [← hR, f1 hF]; omega)
        clear f1 f2 hT hinv hR
        go_wp2
        go_ret
        rw [HR.out]
        exact ⟨rfl, rfl⟩
      · have hFI : ¬ (F : Int) < 64 := by omega
        have HA := Lib.hid (f2 hF)
        clear f1 f2 hT hinv
        go_wp2
        go_roundw
        case rel => exact ⟨i + 1, by omega, by go_num, HA.out, (by first | rfl | trivial)⟩
        case measure => (simp [intOf] <;> omega)
    · have hiI : ¬ (i : Int) < (nu : Int) := by omega
      have hR2 := free_end hbit (fun j hj => hall j (by omega))
      have hw1 : IntKind.i64.wrap ((nu : Int) * 64) = (R : Int) := by rw [← hR, hR2, hU, IntKind.wrap_i64]; omega
      clear hbit hall hR hR2
      go_wp2
      go_ret
      exact ⟨rfl, rfl⟩
set_option maxHeartbeats 1000000 in
theorem ljoinb_any (h : Lxb col k w g n u P b N c U Au nu cu) (ht : Tidy col w) {a d : Int} (ha : -1 ≤ a) (hd : -1 ≤ d) (haN : (a + 1).toNat < N) (hdN : (d + 1).toNat < N) (hN : N ≤ 8193) :
    Calls Tryz.prog 103 #[.pointer (some ⟨g, 0, none⟩), .int .i64 a, .int .i64 d] w fun e w' => e = .returned (.tuple #[]) ∧ Lxb col k w' g n u (joinP P a d) b N c U Au nu cu ∧ StepC (Rng k) col w col w' := by
  have hl := h.len
  obtain ⟨A, hA⟩ : ∃ A, (a + 1).toNat = A := ⟨_, rfl⟩
  obtain ⟨D, hD⟩ : ∃ D, (d + 1).toNat = D := ⟨_, rfl⟩
  have hwA : IntKind.i64.wrap (a + 1) = (A : Int) := by rw [IntKind.wrap_i64]; omega
  have hwD : IntKind.i64.wrap (d + 1) = (D : Int) := by rw [IntKind.wrap_i64]; omega
  have hAI : (A : Int) < (N : Int) := by omega
  have hDI : (D : Int) < (N : Int) := by omega
  have hgA := List.getElem?_eq_getElem (show A < P.length by omega)
  obtain ⟨qa, hqa⟩ : ∃ q, P[A]? = some q := ⟨_, hgA⟩
  have x2 := h.c2
  obtain ⟨hcp, hcm⟩ := h.cap
  obtain ⟨_, y1, _, fz⟩ := h.at_ hqa
  obtain ⟨M1, s1⟩ := h.put ht hqa (j := 1) (v := .int .i64 d) (r' := (qa.1, d, qa.2.2)) (by omega) rfl
  have hp1 : P.set A (qa.1, d, qa.2.2) = joinN P a d := by unfold joinN; rw [hA, modN_set hqa]
  rw [hp1] at M1
  obtain ⟨qd, hqd⟩ : ∃ q, (joinN P a d)[D]? = some q := ⟨_, List.getElem?_eq_getElem (show D < (joinN P a d).length by unfold joinN; rw [List.length_modify]; omega)⟩
  have z2 := M1.c2
  obtain ⟨z0, _, _, fz1⟩ := M1.at_ hqd
  obtain ⟨M2, s2⟩ := M1.put s1.tidy hqd (j := 0) (v := .int .i64 a) (r' := (a, qd.2)) (by omega) rfl
  have hp2 : (joinN P a d).set D (a, qd.2) = joinP P a d := by unfold joinP; rw [hD, modN_set hqd]
  rw [hp2] at M2
  have f1 := fz (A * 4 + 1)
  have f2 := fz1 (D * 4)
  rw [Nat.add_zero] at M2 s2
  have hDn := Lib.hid (And.intro M2 ((s1.mono (P' := Rng k) (fun c e => ⟨by omega, by omega⟩)).trans (s2.mono (fun c e => ⟨by omega, by omega⟩))))
  clear h M1 M2 s1 s2 hp1 hp2 hqa hqd hgA hA hD fz fz1
  go_enter Tryz.func103, Tryz.ntmps103
  go_wp2
  go_end0
  exact ⟨rfl, hDn.out⟩
set_option maxHeartbeats 1000000 in
theorem lhasb_any (h : Lxb col k w g n u P b N c U Au nu cu) (R : Rp m P U) {z : Int} (hz : J64 z) :
    Calls Tryz.prog 102 #[.pointer (some ⟨g, 0, none⟩), .int .i64 z] w fun e w' => e = .returned (.bool (placeC m.l z).isSome) ∧ ∃ j, w' = w.drewN j := by
  have hl := h.len
  have hlU := h.lenU
  have x2 := h.c2
  have x3 := h.c3
  obtain ⟨hcp, hcm⟩ := h.cap
  obtain ⟨hcpU, hcmU⟩ := h.capU
  have hN1 := R.len1
  have hN8 := R.lenN
  have hn8 := R.good.n8
  have hroom := R.room
  have hU8 := R.lenU
  have hw1 : IntKind.i64.wrap ((N : Int) - 1) = (N : Int) - 1 := by rw [IntKind.wrap_i64]; omega
  obtain ⟨y, hy⟩ : ∃ y, (placeC m.l z).isSome = y := ⟨_, rfl⟩
  unfold J64 at hz
  rw [hy]
  by_cases h0 : 0 ≤ z
  rotate_left
  · rw [R.off (.inl (by omega))] at hy
    have hd : decide (z ≥ 0) = false := decide_eq_false (by omega)
    subst hy
    clear h R
    go_enter Tryz.func102, Tryz.ntmps102
    go_wp2
    go_quiet (fail)
    go_wp2
    go_ret
    exact ⟨rfl, _, rfl⟩
  have hd : decide (z ≥ 0) = true := decide_eq_true (by omega)
  by_cases h1 : z < (N : Int) - 1
  rotate_left
  · rw [R.off (.inr (by omega))] at hy
    have hd1 : decide (z < (N : Int) - 1) = false := decide_eq_false (by omega)
    subst hy
    clear h R
    go_enter Tryz.func102, Tryz.ntmps102
    go_wp2
    go_quiet (fail)
    go_wp2
    go_ret
    exact ⟨rfl, _, rfl⟩
  have hd1 : decide (z < (N : Int) - 1) = true := decide_eq_true (by omega)
  obtain ⟨q, rfl⟩ : ∃ q : Nat, z = (q : Int) := ⟨z.toNat, by omega⟩
  have hqU : q / 64 < nu := by omega
  obtain ⟨bu, rfl, hc, _⟩ := h.word hqU
  have hxb := getD_lt R.big (q / 64)
  have hBb := pow_lt64 (Nat.mod_lt q (show 0 < 64 by decide))
  have hpos : 0 < 2 ^ (q % 64) := Nat.pos_of_ne_zero (by simp)
  rw [← R.has] at hy
  have hand := bits_and_u64_nat (U.getD (q / 64) 0) (2 ^ (q % 64)) hxb hBb
  rw [and_pow] at hand
  have hb := fun W : World => (bit_any q (by omega) W).mono (R' := fun e w' => e = .returned (.int .u64 ((2 ^ (q % 64) : Nat) : Int)) ∧ w' = W) fun e w' h => ⟨h.1, h.2.symm⟩
  unfold hasB at hy
  rw [hy] at hand
  have hw2 : (q : Int).tdiv 64 = ((q / 64 : Nat) : Int) := by rw [Int.tdiv_eq_ediv_of_nonneg (by omega)]; omega
  have hw3 : IntKind.i64.wrap ((q / 64 : Nat) : Int) = ((q / 64 : Nat) : Int) := by rw [IntKind.wrap_i64]; omega
  have hiI : ((q / 64 : Nat) : Int) < (nu : Int) := by omega
  generalize U.getD (q / 64) 0 = x at *
  generalize q / 64 = i at *
  generalize 2 ^ (q % 64) = B at *
  clear R
  cases y
  · have hand2 : bits .and .u64 (x : Int) (B : Int) = 0 := by rw [hand]; simp
    clear hand h
    go_enter Tryz.func102, Tryz.ntmps102
    go_wp2
    go_quiet ((go_at_call 101; exact Calls.quiet_of_same (hb _)))
    go_wp2
    go_ret
    exact ⟨rfl, _, rfl⟩
  · have hand2 : bits .and .u64 (x : Int) (B : Int) = (B : Int) := by rw [hand]; simp
    have hBn : ((B : Int) == 0) = false := by simp; omega
    have hBn2 : ((B : Int) != 0) = true := by simp; omega
    clear hand h
    go_enter Tryz.func102, Tryz.ntmps102
    go_wp2
    go_quiet ((go_at_call 101; exact Calls.quiet_of_same (hb _)))
    go_wp2
    go_ret
    exact ⟨rfl, _, rfl⟩
theorem llenb_any (H : PLb col k w g m) : Calls Tryz.prog 93 #[.pointer (some ⟨g, 0, none⟩)] w fun e w' => e = .returned (.int .i64 m.l.length) ∧ w = w' := by
  obtain ⟨P, b, N, c, U, Au, nu, cu, M, R⟩ := H
  have x1 := M.c1
  clear M R
  go_enter Tryz.func93, Tryz.ntmps93
  go_wp2
  go_ret
  exact ⟨rfl, rfl⟩
set_option maxHeartbeats 1000000 in
theorem lfirstb_any (H : PLb col k w g m) : Calls Tryz.prog 77 #[.pointer (some ⟨g, 0, none⟩)] w fun e w' => e = .returned (.int .i64 m.first) ∧ ∃ j, w' = w.drewN j := by
  have hL := llenb_any H
  obtain ⟨P, b, N, c, U, Au, nu, cu, M, R⟩ := H
  have hl := M.len
  have x2 := M.c2
  obtain ⟨hcp, hcm⟩ := M.cap
  have hN1 := R.len1
  have h1 := R.first
  obtain ⟨q, hq⟩ : ∃ q, P[0]? = some q := ⟨_, List.getElem?_eq_getElem (by omega)⟩
  have h1' : (P[0]?).map (fun q => q.2.1) = some m.first := h1
  rw [hq] at h1'
  have hqf : q.2.1 = m.first := by injection h1'
  have hN : (0 : Int) < (N : Int) := by omega
  obtain ⟨_, y1, _, _⟩ := M.at_ hq
  rw [hqf] at y1
  have y1' : w.cell? ⟨b, 1, none⟩ = some (.int .i64 m.first) := by simpa using y1
  by_cases h0 : m.l.length = 0
  · have hF := firstC_nil h0
    rw [h0] at hL
    rw [hF]
    clear M R h1 h1' hqf y1 y1' hF hl h0
    go_enter Tryz.func77, Tryz.ntmps77
    go_wp2_with fail
    refine hL.mono ?_
    rintro e w1 ⟨rfl, hw⟩
    subst hw
    go_wp2
    go_ret
    exact ⟨rfl, 0, rfl⟩
  · have hne : ((m.l.length : Int) == 0) = false := by simp; intro e; rw [e] at h0; exact h0 rfl
    generalize m.first = F at *
    clear M R h1 h1' hqf y1 hl
    go_enter Tryz.func77, Tryz.ntmps77
    go_wp2_with fail
    refine hL.mono ?_
    rintro e w1 ⟨rfl, hw⟩
    subst hw
    go_wp2
    go_ret
    exact ⟨rfl, 0, rfl⟩
set_option maxHeartbeats 1000000 in
theorem lnextb_any (H : PLb col k w g m) (ht : Tidy col w) {z : Int} (hz : J64 z) : Calls Tryz.prog 104 #[.pointer (some ⟨g, 0, none⟩), .int .i64 z] w fun e w' => e = .returned (.int .i64 (m.by_ z 1)) ∧ ∃ j, w' = w.drewN j := by
  obtain ⟨P, b, N, c, U, Au, nu, cu, M, R⟩ := H
  have hH := lhasb_any M R hz
  have hl := M.len
  obtain ⟨hcp, hcm⟩ := M.cap
  cases hp : placeC m.l z with
  | none =>
    rw [hp] at hH
    rw [by_off 1 hp]
    clear M R
    go_enter Tryz.func104, Tryz.ntmps104
    go_wp2_with fail
    refine hH.mono ?_
    rintro e w1 ⟨rfl, j, rfl⟩
    go_wp2
    go_ret
    exact ⟨rfl, j, rfl⟩
  | some i =>
    rw [hp] at hH
    have hN := R.next hp
    obtain ⟨q, rfl, hqP, hqU, hi, hr⟩ := R.on hp
    obtain ⟨y, hy⟩ : ∃ y, P[q + 1]? = some y := ⟨_, List.getElem?_eq_getElem hqP⟩
    have hN' : (P[((q : Int) + 1).toNat]?).map (fun q => q.2.1) = some (m.by_ (q : Int) 1) := hN
    rw [show ((q : Int) + 1).toNat = q + 1 by omega, hy] at hN'
    have hyf : y.2.1 = m.by_ (q : Int) 1 := by injection hN'
    have hN8 := R.lenN
    have hn8 := R.good.n8
    obtain ⟨B, hB⟩ : ∃ B, q + 1 = B := ⟨_, rfl⟩
    rw [hB] at hy
    have hw1 : IntKind.i64.wrap ((q : Int) + 1) = (B : Int) := by rw [IntKind.wrap_i64]; omega
    have hBI : (B : Int) < (N : Int) := by omega
    generalize m.by_ (q : Int) 1 = F at *
    have hM := fun j => M.drewN ht j
    clear hN hN' hB hqP hqU hi hr R hp
    go_enter Tryz.func104, Tryz.ntmps104
    go_wp2_with fail
    refine hH.mono ?_
    rintro e w1 ⟨rfl, j, rfl⟩
    have x2 := (hM j).c2
    obtain ⟨_, y1, _, _⟩ := (hM j).at_ hy
    rw [hyf] at y1
    clear hM M hyf hy
    go_wp2
    go_ret
    exact ⟨rfl, j, rfl⟩
set_option maxHeartbeats 1000000 in
theorem lprevb_any (H : PLb col k w g m) (ht : Tidy col w) {z : Int} (hz : J64 z) : Calls Tryz.prog 87 #[.pointer (some ⟨g, 0, none⟩), .int .i64 z] w fun e w' => e = .returned (.int .i64 (m.by_ z (-1))) ∧ ∃ j, w' = w.drewN j := by
  obtain ⟨P, b, N, c, U, Au, nu, cu, M, R⟩ := H
  have hH := lhasb_any M R hz
  have hl := M.len
  obtain ⟨hcp, hcm⟩ := M.cap
  cases hp : placeC m.l z with
  | none =>
    rw [hp] at hH
    rw [by_off (-1) hp]
    clear M R
    go_enter Tryz.func87, Tryz.ntmps87
    go_wp2_with fail
    refine hH.mono ?_
    rintro e w1 ⟨rfl, j, rfl⟩
    go_wp2
    go_ret
    exact ⟨rfl, j, rfl⟩
  | some i =>
    rw [hp] at hH
    have hN := R.prev hp
    obtain ⟨q, rfl, hqP, hqU, hi, hr⟩ := R.on hp
    obtain ⟨y, hy⟩ : ∃ y, P[q + 1]? = some y := ⟨_, List.getElem?_eq_getElem hqP⟩
    have hN' : (P[((q : Int) + 1).toNat]?).map (fun q => q.1) = some (m.by_ (q : Int) (-1)) := hN
    rw [show ((q : Int) + 1).toNat = q + 1 by omega, hy] at hN'
    have hyf : y.1 = m.by_ (q : Int) (-1) := by injection hN'
    have hN8 := R.lenN
    have hn8 := R.good.n8
    obtain ⟨B, hB⟩ : ∃ B, q + 1 = B := ⟨_, rfl⟩
    rw [hB] at hy
    have hw1 : IntKind.i64.wrap ((q : Int) + 1) = (B : Int) := by rw [IntKind.wrap_i64]; omega
    have hBI : (B : Int) < (N : Int) := by omega
    generalize m.by_ (q : Int) (-1) = F at *
    have hM := fun j => M.drewN ht j
    clear hN hN' hB hqP hqU hi hr R hp
    go_enter Tryz.func87, Tryz.ntmps87
    go_wp2_with fail
    refine hH.mono ?_
    rintro e w1 ⟨rfl, j, rfl⟩
    have x2 := (hM j).c2
    obtain ⟨y0, _, _, _⟩ := (hM j).at_ hy
    rw [hyf] at y0
    clear hM M hyf hy
    go_wp2
    go_ret
    exact ⟨rfl, j, rfl⟩
/-- A value in a box of its own. -/
abbrev VBb (v : (Int × Option Addr)) : Array Value := #[.int .u64 v.1, .pointer v.2]
theorem Lxb.vbox {g' : Nat} {c : Nat} {a : (Int × Option Addr)} (X : BoxC col w g' c (VBb a) 109) (v : (Int × Option Addr)) : BoxC col ((w.setCell ⟨g', 0, none⟩ (.int .u64 v.1)).setCell ⟨g', 1, none⟩ (.pointer v.2)) g' c (VBb v) 109 :=
  (X.put 0 _).put 1 _
set_option maxHeartbeats 1000000 in
theorem lvalueb_any (H : PLb col k w g m) (ht : Tidy col w) {z : Int} (hz : J64 z) : Calls Tryz.prog 92 #[.pointer (some ⟨g, 0, none⟩), .int .i64 z] w fun e w' => e = .returned (.tuple #[.agg (VBb (m.value ((0, none) : Int × Option Addr) z).1), .int .i64 (m.value ((0, none) : Int × Option Addr) z).2]) ∧ Below w.heap.size w w' := by
  obtain ⟨P, b, N, c, U, Au, nu, cu, M, R⟩ := H
  have b1 : Below w.heap.size w (w.alloc (.cells #[.int .u64 0, .pointer none] 109)) := (Below.refl _ _).alloc (Nat.le_refl _) _
  have M1 := M.below ht b1
  have ht1 := ht.size b1.size
  have hH := lhasb_any M1 R hz
  have X1 : BoxC col (w.alloc (.cells #[.int .u64 0, .pointer none] 109)) w.heap.size 0 #[.int .u64 0, .pointer none] 109 := ⟨heap_alloc_new w _, ht _ (Nat.le_refl _)⟩
  have hl := M.len
  obtain ⟨hcp, hcm⟩ := M.cap
  have hB := Lib.hid b1
  obtain ⟨W1, hW1⟩ : ∃ W1, W1 = w.alloc (.cells #[.int .u64 0, .pointer none] 109) := ⟨_, rfl⟩
  obtain ⟨G, hG⟩ : ∃ G, w.heap.size = G := ⟨_, rfl⟩
  have hGW : G < W1.heap.size := by rw [hW1, ← hG]; simp
  rw [← hW1] at hH M1 X1 hB ht1
  rw [hG] at X1 hB
  cases hp : placeC m.l z with
  | none =>
    rw [hp] at hH
    have hV : m.value ((0, none) : Int × Option Addr) z = (((0, none) : Int × Option Addr), 8) := by unfold CSt.value; rw [hp]
    rw [hV, hG]
    clear M R M1 hV b1
    go_enter Tryz.func92, Tryz.ntmps92
    go_wp2_with fail
    rw [← hW1]
    clear hW1
    refine hH.mono ?_
    rintro e w1 ⟨rfl, j, rfl⟩
    have X2 : BoxC col (W1.drewN j) G 0 #[.int .u64 0, .pointer none] 109 := ⟨X1.heap, X1.col⟩
    have X3 : BoxC col ((W1.drewN j).alloc (.cells #[.int .u64 0, .pointer none] 109)) G 0 #[.int .u64 0, .pointer none] 109 := X2.keep (P := fun _ => False) (StepC.alloc (show Tidy col (W1.drewN j) from ht1) _) (fun h => h)
    have y0 : ((W1.drewN j).alloc (.cells #[.int .u64 0, .pointer none] 109)).cell? ⟨G, 0, none⟩ = some (.int .u64 0) := X3.cell 0 rfl
    have y1 : ((W1.drewN j).alloc (.cells #[.int .u64 0, .pointer none] 109)).cell? ⟨G, 1, none⟩ = some (.pointer none) := X3.cell 1 rfl
    have v0 : ((W1.drewN j).alloc (.cells #[.int .u64 0, .pointer none] 109)).cell? ⟨W1.heap.size, 0, none⟩ = some (.int .u64 0) := (World.cell?_alloc_at (w := W1.drewN j) _ _ _ _ rfl).trans rfl
    have v1 : ((W1.drewN j).alloc (.cells #[.int .u64 0, .pointer none] 109)).cell? ⟨W1.heap.size, 1, none⟩ = some (.pointer none) := (World.cell?_alloc_at (w := W1.drewN j) _ _ _ _ rfl).trans rfl
    have f0 := X3.free 0
    have f1 := X3.free 1
    have X4 := Lxb.vbox X3 (a := ((0, none) : Int × Option Addr)) ((0, none) : Int × Option Addr)
    have HB := Lib.hid (((below_drewN hB.out j).alloc (Nat.le_of_lt hGW) (.cells #[.int .u64 0, .pointer none] 109)).setCell (p := ⟨G, 0, none⟩) (Nat.le_refl _) (.int .u64 0) |>.setCell (p := ⟨G, 1, none⟩) (Nat.le_refl _) (.pointer none))
    have HX := Lib.hid X4.heap
    clear X1 X2 X3 X4 hB hH hG hGW
    go_wp2
    refine bodyPost_ret (results_cell_row2 rfl _ _ G _ _ (0, 0) _ rfl HX.out Tryz.underlying109 rfl (by kernel_rfl)) rfl ?_
    exact ⟨rfl, HB.out⟩
  | some i =>
    rw [hp] at hH
    obtain ⟨q, rfl, hqP, hqU, hi, hr⟩ := R.on hp
    obtain ⟨p, hp1, hp2, _⟩ := place_some hp
    have hpq : p.1 = q := by omega
    have hV : m.value ((0, none) : Int × Option Addr) (q : Int) = (p.2, 0) := by unfold CSt.value; rw [hp]; show (((m.l[i]?).map Prod.snd).getD _, (0 : Int)) = _; rw [hp1]; rfl
    have hN := R.val i p hp1
    obtain ⟨y, hy⟩ : ∃ y, P[q + 1]? = some y := ⟨_, List.getElem?_eq_getElem hqP⟩
    have hN' : (P[p.1 + 1]?).map (fun q => q.2.2) = some p.2 := hN
    rw [hpq, hy] at hN'
    have hyf : y.2.2 = p.2 := by injection hN'
    have hN8 := R.lenN
    have hn8 := R.good.n8
    obtain ⟨B, hBq⟩ : ∃ B, q + 1 = B := ⟨_, rfl⟩
    rw [hBq] at hy
    have hw1 : IntKind.i64.wrap ((q : Int) + 1) = (B : Int) := by rw [IntKind.wrap_i64]; omega
    have hBI : (B : Int) < (N : Int) := by omega
    rw [hV, hG]
    obtain ⟨F, hF⟩ : ∃ F, p.2 = F := ⟨_, rfl⟩
    rw [hF] at hyf
    rw [hF]
    have hM := fun j => M1.drewN ht1 j
    clear hN hN' hBq hqP hqU hi hr R hp hV hp1 hp2 hpq hF b1 M
    go_enter Tryz.func92, Tryz.ntmps92
    go_wp2_with fail
    rw [← hW1]
    clear hW1
    refine hH.mono ?_
    rintro e w1 ⟨rfl, j, rfl⟩
    have x2 := (hM j).c2
    obtain ⟨_, _, ⟨y2, y3⟩, _⟩ := (hM j).at_ hy
    rw [hyf] at y2 y3
    have X2 : BoxC col (W1.drewN j) G 0 #[.int .u64 0, .pointer none] 109 := ⟨X1.heap, X1.col⟩
    have z0 : (W1.drewN j).cell? ⟨G, 0, none⟩ = some (.int .u64 0) := X2.cell 0 rfl
    have z1 : (W1.drewN j).cell? ⟨G, 1, none⟩ = some (.pointer none) := X2.cell 1 rfl
    have f0 := X2.free 0
    have f1 := X2.free 1
    have X4 := Lxb.vbox X2 (a := ((0, none) : Int × Option Addr)) F
    have HB := Lib.hid ((below_drewN hB.out j).setCell (p := ⟨G, 0, none⟩) (Nat.le_refl _) (.int .u64 F.1) |>.setCell (p := ⟨G, 1, none⟩) (Nat.le_refl _) (.pointer F.2))
    have HX := Lib.hid X4.heap
    clear hM M1 hyf hy X1 X2 X4 hB hH hG hGW
    go_wp2

    refine bodyPost_ret (results_cell_row2 rfl _ _ G _ _ (0, 0) _ rfl HX.out Tryz.underlying109 rfl (by kernel_rfl)) rfl ?_
    exact ⟨rfl, HB.out⟩
end
end Go.Proofs.YtlfhkhnhcckajaaGreatDoor

/- The program's lists of heavykeys/ranks.bucket values: take, insert. Conditions: none beyond those typed. -/
namespace Go.Proofs.YtlfhkhnhcckajaaGreatDoor
open Go.ChangeShapes Go.WideShapes Go.ChangeAt Go.RowKit
set_option linter.unusedVariables false
set_option linter.unusedSimpArgs false
set_option maxRecDepth 100000

section
variable {P' : Nat → Prop} {col col' : Col} {w w' w6 w7 : World} {k g n u b N c nu cu x : Nat} {Au : Option Addr} {P : List (Pn (Int × Option Addr))} {U : List Nat} {i : Nat} {r : Pn (Int × Option Addr)} {m : CSt (Int × Option Addr)}
/-- A place more. -/
theorem Lxb.moreP (h : Lxb col k w g n u P b N c U Au nu cu) (ht : Tidy col w) {v7 : Value} {Q : List (Pn (Int × Option Addr))} {N' : Nat} (hQ : Q.length = N' + 1) (O7 : OwnK kNb w7 v7 Q) (G7 : w.grownBy w7 (Value.slice (some ⟨b, 0, none⟩) N c).ownBlock) (hat7 : v7.ownBlock = (Value.slice (some ⟨b, 0, none⟩) N c).ownBlock ∨ v7.ownBlock = some w.heap.size) :
    ∃ b' c', v7 = .slice (some ⟨b', 0, none⟩) (N' + 1) c' ∧ w7.frozen? ⟨g, 2, none⟩ = false ∧ w7.cell? ⟨g, 2, none⟩ = some (.slice (some ⟨b, 0, none⟩) N c) ∧ ∃ col', Lxb col' k (w7.setCell ⟨g, 2, none⟩ v7) g n u Q b' (N' + 1) c' U Au nu cu ∧ StepC (Rng k) col w col' (w7.setCell ⟨g, 2, none⟩ v7) := by
  have S7 := StepC.app (P := fun c => c = k + 1) ht G7 h.row.col rfl hat7 O7.lt
  have hk := h.k1
  have B7 := h.box.keep S7 (by omega)
  obtain ⟨A7, c', rfl, _, hh⟩ := O7.form hQ
  obtain ⟨b', rfl, _⟩ : ∃ g, A7 = some ⟨g, 0, none⟩ ∧ g < w7.heap.size := by
    rcases hh with ⟨_, h2, _⟩ | h2
    · rw [h2] at hQ; simp at hQ
    · exact h2
  have R7 : OwnKc kNb _ w7 (k + 1) _ Q := OwnKc.mk' (col := col) (c := k + 1) kNb O7
  have s8 := StepC.set (P := fun d => d = k) S7.tidy (a := ⟨g, 2, none⟩) B7.col (.slice (some ⟨b', 0, none⟩) (N' + 1) c')
  exact ⟨b', c', rfl, B7.free 2, B7.cell 2 rfl, _, ⟨B7.put 2 _, R7.keep s8 (by omega), (h.wds.keep S7 (by omega)).keep s8 (by omega), (h.tab.keep S7 (by omega)).keep s8 (by omega), hk⟩,
    (S7.mono fun c e => ⟨by omega, by omega⟩).trans (s8.mono fun c e => ⟨by omega, by omega⟩)⟩
/-- A word more. -/
theorem Lxb.moreU (h : Lxb col k w g n u P b N c U Au nu cu) (ht : Tidy col w) {v7 : Value} {Q : List Nat} {N' : Nat} (hQ : Q.length = N' + 1) (O7 : OwnK kU w7 v7 (Q.map fun z : Nat => (z : Int))) (G7 : w.grownBy w7 (Value.slice Au nu cu).ownBlock) (hat7 : v7.ownBlock = (Value.slice Au nu cu).ownBlock ∨ v7.ownBlock = some w.heap.size) :
    ∃ b' c', v7 = .slice (some ⟨b', 0, none⟩) (N' + 1) c' ∧ w7.frozen? ⟨g, 3, none⟩ = false ∧ w7.cell? ⟨g, 3, none⟩ = some (.slice Au nu cu) ∧ ∃ col', Lxb col' k (w7.setCell ⟨g, 3, none⟩ v7) g n u P b N c Q (some ⟨b', 0, none⟩) (N' + 1) c' ∧ StepC (Rng k) col w col' (w7.setCell ⟨g, 3, none⟩ v7) := by
  have S7 := StepC.app (P := fun c => c = k + 2) ht G7 h.wds.col rfl hat7 O7.lt
  have hk := h.k1
  have B7 := h.box.keep S7 (by omega)
  obtain ⟨A7, c', rfl, _, hh⟩ := O7.form (n := N' + 1) (by rw [List.length_map]; exact hQ)
  obtain ⟨b', rfl, _⟩ : ∃ g, A7 = some ⟨g, 0, none⟩ ∧ g < w7.heap.size := by
    rcases hh with ⟨_, h2, _⟩ | h2
    · have := congrArg List.length h2; rw [List.length_map, List.length_nil] at this; omega
    · exact h2
  have R7 : OwnKc kU _ w7 (k + 2) _ (Q.map fun z : Nat => (z : Int)) := OwnKc.mk' (col := col) (c := k + 2) kU O7
  have s8 := StepC.set (P := fun d => d = k) S7.tidy (a := ⟨g, 3, none⟩) B7.col (.slice (some ⟨b', 0, none⟩) (N' + 1) c')
  exact ⟨b', c', rfl, B7.free 3, B7.cell 3 rfl, _, ⟨B7.put 3 _, (h.row.keep S7 (by omega)).keep s8 (by omega), R7.keep s8 (by omega), (h.tab.keep S7 (by omega)).keep s8 (by omega), hk⟩,
    (S7.mono fun c e => ⟨by omega, by omega⟩).trans (s8.mono fun c e => ⟨by omega, by omega⟩)⟩
/-- A place and a bit for number x are there. -/
def TookLb (col : Col) (k : Nat) (w : World) (g n u : Nat) (P : List (Pn (Int × Option Addr))) (U : List Nat) (x : Nat) (w' : World) : Prop :=
  ∃ col' b N c Au nu cu, Lxb col' k w' g n u (morP ((0, none) : Int × Option Addr) P x) b N c (putB (morU U x) x) Au nu cu ∧ StepC (Rng k) col w col' w'
/-- Where the places and the words are there: what is left is the bit. -/
theorem Lxb.ready {P1 : List (Pn (Int × Option Addr))} {U1 : List Nat} (H : Lxb col' k w' g n u P1 b N c U1 Au nu cu) (hP1 : P1 = morP ((0, none) : Int × Option Addr) P x) (hU1 : U1 = morU U x) (hs : StepC (Rng k) col w col' w') (hi : x / 64 = i) (hin : i < nu) (hU : ∀ u ∈ U, u < 18446744073709551616) :
    ∃ bu u0 y : Nat, Au = some ⟨bu, 0, none⟩ ∧ w'.cell? ⟨g, 3, none⟩ = some (.slice (some ⟨bu, 0, none⟩) nu cu) ∧ w'.cell? ⟨bu, i, none⟩ = some (.int .u64 (u0 : Int)) ∧ bits .or .u64 (u0 : Int) ((2 ^ (x % 64) : Nat) : Int) = (y : Int) ∧ w'.frozen? ⟨bu, i, none⟩ = false ∧
      ∀ j, TookLb col k w g n u P U x ((w'.drewN j).setCell ⟨bu, i, none⟩ (.int .u64 (y : Int))) := by
  subst hP1 hU1
  obtain ⟨bu, rfl, hc, fz⟩ := H.word hin
  have hb := getD_lt (morU_big (x := x) hU) i
  refine ⟨bu, (morU U x).getD i 0, (morU U x).getD i 0 ||| 2 ^ (x % 64), rfl, H.c3, hc, bits_or_u64_nat _ _ hb (pow_lt64 (Nat.mod_lt _ (by decide))), fz i, fun j => ?_⟩
  have ht := hs.tidy
  have H2 := H.drewN ht j
  have ht2 : Tidy col' (w'.drewN j) := ht
  have s2 : StepC (Rng k) col' w' col' (w'.drewN j) := StepC.below ht (below_drewN (Below.refl _ _) j)
  obtain ⟨H3, s3⟩ := H2.putU ht2 hin ((morU U x).getD i 0 ||| 2 ^ (x % 64))
  refine ⟨col', b, N, c, some ⟨bu, 0, none⟩, nu, cu, ?_, (hs.trans s2).trans (s3.mono fun c e => ⟨by omega, by omega⟩)⟩
  unfold putB
  rw [hi]
  exact H3
set_option maxHeartbeats 4000000 in
theorem ltakeb_any (H : Lxb col k w g m.n m.l.length P b N c U Au nu cu) (R : Rp m P U) (ht : Tidy col w) (hn : m.l.length < m.n) (hx : freeN m.nodes = x) :
    Calls Tryz.prog 131 #[.pointer (some ⟨g, 0, none⟩)] w fun e w' => e = .returned (.int .i64 (x : Int)) ∧ TookLb col k w g m.n m.l.length P U x w' := by
  have hLs := lleastb_any H R.bit R.big (by rw [← H.lenU]; exact R.lenU)
  rw [hx] at hLs
  obtain ⟨f1, f2, f3, f4⟩ := R.free hn hx
  have hl := H.len
  have hlU := H.lenU
  have hN8 := R.lenN
  have hn8 := R.good.n8
  have hU8 := R.lenU
  have hN1 := R.len1
  have hUb := Lib.hid R.big
  have x2 := H.c2
  have x3 := H.c3
  obtain ⟨hcp, hcm⟩ := H.cap
  obtain ⟨hcpU, hcmU⟩ := H.capU
  obtain ⟨i, hi⟩ : ∃ i, x / 64 = i := ⟨_, rfl⟩
  have hw1 : IntKind.i64.wrap ((N : Int) - 1) = ((N : Int) - 1) := by rw [IntKind.wrap_i64]; omega
  have hw2 : (x : Int).tdiv 64 = (i : Int) := by rw [Int.tdiv_eq_ediv_of_nonneg (by omega)]; omega
  have hw3 : IntKind.i64.wrap (i : Int) = (i : Int) := by rw [IntKind.wrap_i64]; omega
  have hb := fun W : World => bit_any x (by omega) W
  have hHi := Lib.hid hi
  have hmP1 : x + 1 = P.length → P ++ [((0, 0, ((0, none) : Int × Option Addr)) : Pn (Int × Option Addr))] = morP ((0, none) : Int × Option Addr) P x := fun h => (if_pos h).symm
  have hmP0 : x + 1 < P.length → P = morP ((0, none) : Int × Option Addr) P x := fun h => (if_neg (by omega)).symm
  have hmU1 : i = U.length → U ++ [0] = morU U x := fun h => (if_pos (by omega)).symm
  have hmU0 : i < U.length → U = morU U x := fun h => (if_neg (by omega)).symm
  have hx1 : x + 1 = N ∨ x + 1 < N := by omega
  have hx2 : i = nu ∨ i < nu := by omega
  generalize hB : 2 ^ (x % 64) = B at hb
  have hHB := Lib.hid hB
  have hbS := fun W : World => (hb W).mono (R' := fun e w' => e = .returned (.int .u64 (B : Int)) ∧ w' = W) fun e w' h => ⟨h.1, h.2.symm⟩
  clear hB hb
  rcases hx1 with hx1 | hx1 <;> rcases hx2 with hx2 | hx2
  · have hI1 : ((x : Int) == (N : Int) - 1) = true := beq_iff_eq.2 (by omega)
    replace hx2 := hx2.symm
    subst hx2
    have hI2 : ((nu : Int) == (nu : Int)) = true := beq_iff_eq.2 rfl
    have hPm := Lib.hid (hmP1 (by omega))
    have hUm := Lib.hid (hmU1 (by omega))
    have hBd : Below w.heap.size w (w.alloc (.cells #[.int .i64 0, .int .i64 0, .int .u64 0, .pointer none] 132)) := (Below.refl _ _).alloc (Nat.le_refl _) _
    have H6 := H.below ht hBd
    have ht6 := ht.size hBd.size
    have S6 : StepC (Rng k) col w col (w.alloc (.cells #[.int .i64 0, .int .i64 0, .int .u64 0, .pointer none] 132)) := StepC.below ht hBd
    have rd6 : RdG kNb (w.alloc (.cells #[.int .i64 0, .int .i64 0, .int .u64 0, .pointer none] 132)) (some ⟨w.heap.size, 0, none⟩) 1 1 [(0, 0, ((0, none) : Int × Option Addr))] := RdG.one' kNb rfl _
    have oN := H6.row.own
    have hby : P.length + 1 ≤ 1000000000 := by omega
    have hlS : (P ++ [((0, 0, ((0, none) : Int × Option Addr)) : Pn (Int × Option Addr))]).length = N + 1 := by simp [hl]
    have HH6 := Lib.hid H6
    have hapU : (U.map fun z : Nat => (z : Int)) ++ [(0 : Int)] = (U ++ [0]).map fun z : Nat => (z : Int) := by simp
    have hby2 : (U.map fun z : Nat => (z : Int)).length + 1 ≤ 1000000000 := by rw [List.length_map]; omega
    have hlS2 : (U ++ [0]).length = nu + 1 := by simp [hlU]
    have hinI : (nu : Int) < (nu : Int) + 1 := by omega
    have hin : nu < nu + 1 := by omega
    clear H H6 f1 hmP1 hmP0 hmU1 hmU0 hi R hx f2 f3 f4 hN1 hn hN8 hl
    go_enter Tryz.func131, Tryz.ntmps131
    go_wp2_with fail
    refine hLs.mono ?_
    rintro e w1 ⟨rfl, hw⟩
    subst hw
    clear hLs
    go_wp2_with (first | (at_builtin; refine wpList_appK kNb rfl (.tmp 18) (.tmp 20) rfl _ P rfl _ 1 1 [(0, 0, ((0, none) : Int × Option Addr))] rfl oN rd6 hby ?_; intro v7 w7 O7 G7 hat7; obtain ⟨b7, c7, rfl, fz7, cc7, col8, H8, S8⟩ := HH6.out.moreP ht6 hlS O7 G7 hat7; have q3 := H8.c3; have HH8 := Lib.hid (And.intro H8 (S6.trans S8)); clear H8 S8 S6 O7 G7 hat7 oN rd6; have H9 := HH8.out.1.below HH8.out.2.tidy ((Below.refl _ _).alloc (Nat.le_refl _) (.cells #[.int .u64 0] 30)); have s9 : StepC (Rng k) _ _ _ _ := StepC.below HH8.out.2.tidy ((Below.refl _ _).alloc (Nat.le_refl _) (.cells #[.int .u64 0] 30)); have HS9 := Lib.hid (HH8.out.2.trans s9); have ht9 := s9.tidy; have rd9 : RdG kU _ (some ⟨w7.heap.size, 0, none⟩) 1 1 [(0 : Int)] := RdG.one' kU (w := w7.setCell ⟨g, 2, none⟩ (.slice (some ⟨b7, 0, none⟩) (N + 1 : Nat) c7)) (by simp [World.setCell]) _; have oU9 := H9.wds.own; have HH9 := Lib.hid H9; clear H9 s9) | (at_builtin; refine wpList_appK kU rfl (.tmp 36) (.tmp 37) rfl _ (U.map fun z : Nat => (z : Int)) rfl _ 1 1 [(0 : Int)] rfl oU9 rd9 hby2 ?_; intro v9 w9 O9 G9 hat9; rw [hapU] at O9; obtain ⟨b10, c10, rfl, fz10, cc10, col10, H10, S10⟩ := HH9.out.moreU ht9 hlS2 O9 G9 hat9; have q10 := H10.c3; have HH10 := Lib.hid (And.intro H10 S10); clear H10 S10 O9 G9 hat9 oU9 rd9))
    obtain ⟨bu, u0, y, hAu, r3, rc, hor, frz, HT0⟩ := HH10.out.1.ready hPm.out hUm.out (HS9.out.trans HH10.out.2) hHi.out hin hUb.out
    obtain rfl : b10 = bu := by injection hAu with h; injection h
    clear q10 fz10 cc10 HH9 HH10 ht9 HS9 x2 x3 hAu
    rw [hHB.out] at hor
    have HT := Lib.hid HT0
    clear HT0
    generalize w9.setCell _ _ = W9 at *
    go_still_tail 12, (by kernel_rfl)
    still_call (hbS _)
    repeat still_step
    refine wpStill_nil ?_
    change wpList _ _ _ _ _ (World.drew _)
    go_wp2
    go_ret
    exact ⟨rfl, HT.out 1⟩
  · have hI1 : ((x : Int) == (N : Int) - 1) = true := beq_iff_eq.2 (by omega)
    have hI2 : ((i : Int) == (nu : Int)) = false := beq_false_of_ne (by omega)
    obtain ⟨bu, rfl, _⟩ := H.word hx2
    have hPm := Lib.hid (hmP1 (by omega))
    have hUm := Lib.hid (hmU0 (by omega))
    have hBd : Below w.heap.size w (w.alloc (.cells #[.int .i64 0, .int .i64 0, .int .u64 0, .pointer none] 132)) := (Below.refl _ _).alloc (Nat.le_refl _) _
    have H6 := H.below ht hBd
    have ht6 := ht.size hBd.size
    have S6 : StepC (Rng k) col w col (w.alloc (.cells #[.int .i64 0, .int .i64 0, .int .u64 0, .pointer none] 132)) := StepC.below ht hBd
    have rd6 : RdG kNb (w.alloc (.cells #[.int .i64 0, .int .i64 0, .int .u64 0, .pointer none] 132)) (some ⟨w.heap.size, 0, none⟩) 1 1 [(0, 0, ((0, none) : Int × Option Addr))] := RdG.one' kNb rfl _
    have oN := H6.row.own
    have hby : P.length + 1 ≤ 1000000000 := by omega
    have hlS : (P ++ [((0, 0, ((0, none) : Int × Option Addr)) : Pn (Int × Option Addr))]).length = N + 1 := by simp [hl]
    have HH6 := Lib.hid H6
    have hinI : (i : Int) < (nu : Int) := by omega
    have hin : i < nu := by omega
    clear H H6 f1 hmP1 hmP0 hmU1 hmU0 hi R hx f2 f3 f4 hN1 hn hN8 hl
    go_enter Tryz.func131, Tryz.ntmps131
    go_wp2_with fail
    refine hLs.mono ?_
    rintro e w1 ⟨rfl, hw⟩
    subst hw
    clear hLs
    go_wp2_with (at_builtin; refine wpList_appK kNb rfl (.tmp 18) (.tmp 20) rfl _ P rfl _ 1 1 [(0, 0, ((0, none) : Int × Option Addr))] rfl oN rd6 hby ?_; intro v7 w7 O7 G7 hat7; obtain ⟨b7, c7, rfl, fz7, cc7, col8, H8, S8⟩ := HH6.out.moreP ht6 hlS O7 G7 hat7; have q3 := H8.c3; have HH8 := Lib.hid (And.intro H8 (S6.trans S8)); clear H8 S8 S6 O7 G7 hat7 oN rd6)
    obtain ⟨bu2, u0, y, hAu, r3, rc, hor, frz, HT0⟩ := HH8.out.1.ready hPm.out hUm.out HH8.out.2 hHi.out hin hUb.out
    injection hAu with hAu
    injection hAu with hAu
    subst hAu
    clear q3 fz7 cc7 HH8 x2 x3 HH6 hBd ht6
    rw [hHB.out] at hor
    have HT := Lib.hid HT0
    clear HT0
    generalize w7.setCell _ _ = W9 at *
    go_still_tail 12, (by kernel_rfl)
    still_call (hbS _)
    repeat still_step
    refine wpStill_nil ?_
    change wpList _ _ _ _ _ (World.drew _)
    go_wp2
    go_ret
    exact ⟨rfl, HT.out 1⟩
  · have hI1 : ((x : Int) == (N : Int) - 1) = false := beq_false_of_ne (by omega)
    replace hx2 := hx2.symm
    subst hx2
    have hI2 : ((nu : Int) == (nu : Int)) = true := beq_iff_eq.2 rfl
    have hPm := Lib.hid (hmP0 (by omega))
    have hUm := Lib.hid (hmU1 (by omega))
    have hapU : (U.map fun z : Nat => (z : Int)) ++ [(0 : Int)] = (U ++ [0]).map fun z : Nat => (z : Int) := by simp
    have hby2 : (U.map fun z : Nat => (z : Int)).length + 1 ≤ 1000000000 := by rw [List.length_map]; omega
    have hlS2 : (U ++ [0]).length = nu + 1 := by simp [hlU]
    have hinI : (nu : Int) < (nu : Int) + 1 := by omega
    have hin : nu < nu + 1 := by omega
    have hB9 : Below w.heap.size w (w.alloc (.cells #[.int .u64 0] 30)) := (Below.refl _ _).alloc (Nat.le_refl _) _
    have H9 := H.below ht hB9
    have s9 : StepC (Rng k) col w col (w.alloc (.cells #[.int .u64 0] 30)) := StepC.below ht hB9
    have HS9 := Lib.hid s9
    have ht9 := s9.tidy
    have rd9 : RdG kU (w.alloc (.cells #[.int .u64 0] 30)) (some ⟨w.heap.size, 0, none⟩) 1 1 [(0 : Int)] := RdG.one' kU rfl _
    have oU9 := H9.wds.own
    have HH9 := Lib.hid H9
    clear H H9 s9 f1 hmP1 hmP0 hmU1 hmU0 hi R hx f2 f3 f4 hN1 hn hN8 hl
    go_enter Tryz.func131, Tryz.ntmps131
    go_wp2_with fail
    refine hLs.mono ?_
    rintro e w1 ⟨rfl, hw⟩
    subst hw
    clear hLs
    go_wp2_with (at_builtin; refine wpList_appK kU rfl (.tmp 36) (.tmp 37) rfl _ (U.map fun z : Nat => (z : Int)) rfl _ 1 1 [(0 : Int)] rfl oU9 rd9 hby2 ?_; intro v9 w9 O9 G9 hat9; rw [hapU] at O9; obtain ⟨b10, c10, rfl, fz10, cc10, col10, H10, S10⟩ := HH9.out.moreU ht9 hlS2 O9 G9 hat9; have q10 := H10.c3; have HH10 := Lib.hid (And.intro H10 S10); clear H10 S10 O9 G9 hat9 oU9 rd9)
    obtain ⟨bu, u0, y, hAu, r3, rc, hor, frz, HT0⟩ := HH10.out.1.ready hPm.out hUm.out (HS9.out.trans HH10.out.2) hHi.out hin hUb.out
    obtain rfl : b10 = bu := by injection hAu with h; injection h
    clear q10 fz10 cc10 HH9 HH10 ht9 HS9 x2 x3 hAu
    rw [hHB.out] at hor
    have HT := Lib.hid HT0
    clear HT0
    generalize w9.setCell _ _ = W9 at *
    go_still_tail 12, (by kernel_rfl)
    still_call (hbS _)
    repeat still_step
    refine wpStill_nil ?_
    change wpList _ _ _ _ _ (World.drew _)
    go_wp2
    go_ret
    exact ⟨rfl, HT.out 1⟩
  · have hI1 : ((x : Int) == (N : Int) - 1) = false := beq_false_of_ne (by omega)
    have hI2 : ((i : Int) == (nu : Int)) = false := beq_false_of_ne (by omega)
    have hPm := hmP0 (by omega)
    have hUm := hmU0 (by omega)
    have hinI : (i : Int) < (nu : Int) := by omega
    have hin : i < nu := by omega
    obtain ⟨bu, u0, y, rfl, r3, rc, hor, frz, HT0⟩ := H.ready hPm hUm (StepC.refl ht) hHi.out hin hUb.out
    rw [hHB.out] at hor
    have HT := Lib.hid HT0
    clear HT0
    clear H hPm hUm f1 hmP1 hmP0 hmU1 hmU0 hi R hx f2 f3 f4 hN1 hn hN8 hl r3
    go_enter Tryz.func131, Tryz.ntmps131
    go_wp2_with fail
    refine hLs.mono ?_
    rintro e w1 ⟨rfl, hw⟩
    subst hw
    clear hLs
    go_wp2
    have r3 := x3
    go_still_tail 12, (by kernel_rfl)
    still_call (hbS _)
    repeat still_step
    refine wpStill_nil ?_
    change wpList _ _ _ _ _ (World.drew _)
    go_wp2
    go_ret
    exact ⟨rfl, HT.out 1⟩
/-- A value is written. -/
theorem Lxb.putV (h : Lxb col k w g n u P b N c U Au nu cu) (ht : Tidy col w) (hr : P[i]? = some r) (v : (Int × Option Addr)) :
    Lxb col k ((w.setCell ⟨b, i * 4 + 2, none⟩ (.int .u64 v.1)).setCell ⟨b, i * 4 + 3, none⟩ (.pointer v.2)) g n u (P.set i (r.1, r.2.1, v)) b N c U Au nu cu ∧ StepC (Rng k) col w col ((w.setCell ⟨b, i * 4 + 2, none⟩ (.int .u64 v.1)).setCell ⟨b, i * 4 + 3, none⟩ (.pointer v.2)) := by
  have hi := (List.getElem?_eq_some_iff.1 hr).1
  obtain ⟨h1, s1⟩ := h.put ht hr (j := 2) (v := .int .u64 v.1) (r' := (r.1, r.2.1, (v.1, r.2.2.2))) (by omega) rfl
  obtain ⟨h2, s2⟩ := h1.put s1.tidy (r := (r.1, r.2.1, (v.1, r.2.2.2))) (by rw [List.getElem?_set, if_pos rfl, if_pos hi]) (j := 3) (v := .pointer v.2) (r' := (r.1, r.2.1, v)) (by omega) rfl
  rw [List.set_set] at h2
  exact ⟨h2, (s1.trans s2).mono fun c e => ⟨by omega, by omega⟩⟩
set_option maxHeartbeats 4000000 in
theorem linsertb_any (H : PLb col k w g m) (ht : Tidy col w) {a : Int} (ha : a = rg m.nodes i) (hi : i ≤ m.l.length) (v : (Int × Option Addr)) :
    Calls Tryz.prog 123 #[.pointer (some ⟨g, 0, none⟩), .int .i64 a, .agg (VBb v)] w (AddOut PLb col k w g (m.ins i v)) := by
  have b1 : Below w.heap.size w (w.alloc (.cells (VBb v) 109)) := (Below.refl _ _).alloc (Nat.le_refl _) _
  have H0 := H.below ht b1
  have sA : StepC (Rng k) col w col (w.alloc (.cells (VBb v) 109)) := StepC.below ht b1
  have ht1 := sA.tidy
  have X1 : BoxC col (w.alloc (.cells (VBb v) 109)) w.heap.size 0 (VBb v) 109 := ⟨heap_alloc_new w _, ht _ (Nat.le_refl _)⟩
  obtain ⟨W1, hW1⟩ : ∃ W1, W1 = w.alloc (.cells (VBb v) 109) := ⟨_, rfl⟩
  obtain ⟨G, hG⟩ : ∃ G, w.heap.size = G := ⟨_, rfl⟩
  rw [← hW1] at H0 X1 sA ht1
  rw [hG] at X1
  clear b1 H
  have HH0 := H0
  obtain ⟨P, b, N, c, U, Au, nu, cu, M, R⟩ := H0
  have hk := M.k1
  have hn8 := R.good.n8
  have hlen := R.good.len
  have hN8 := R.lenN
  have x0 := M.c0
  have x1 := M.c1
  have HM := fun j => M.drewN ht1 j
  by_cases hfull : m.l.length = m.n
  · have hfI : ((m.l.length : Int) == (m.n : Int)) = true := beq_iff_eq.2 (by omega)
    rw [insC_full hfull]
    have HD := Lib.hid (show ∀ j, DidPL PLb col k w g m (W1.drewN j) from fun j => ⟨col, HH0.below ht1 (below_drewN (Below.refl _ _) j), sA.trans (StepC.below ht1 (below_drewN (Below.refl _ _) j))⟩)
    clear M R HM HH0 ha hfull hlen X1 sA
    go_enter Tryz.func123, Tryz.ntmps123
    go_wp2_with fail
    rw [show w.alloc (.cells #[.int .u64 v.1, .pointer v.2] 109) = W1 from hW1.symm]
    clear hW1 hG
    go_quiet (fail)
    go_wp2
    go_ret2
    exact ⟨rfl, HD.out _⟩
  · have hfI : ((m.l.length : Int) == (m.n : Int)) = false := beq_false_of_ne (by omega)
    obtain ⟨x, hx⟩ : ∃ x, freeN m.nodes = x := ⟨_, rfl⟩
    have hn : m.l.length < m.n := by omega
    obtain ⟨l1, l2, l3⟩ := morP_len (z0 := ((0, none) : Int × Option Addr)) R hn hx
    obtain ⟨hr1, hr2⟩ := R.ring i hi
    rw [insC_room hfull hx]
    have hTk := fun j => ltakeb_any (HM j) R ht1 hn hx
    have RI := Lib.hid (R.ins (z0 := ((0, none) : Int × Option Addr)) hn hx hi v)
    obtain ⟨q, hq, hqf, hql⟩ := nN_place (morP_n (z0 := ((0, none) : Int × Option Addr)) (x := x) hr1)
    obtain ⟨_, _, _, hql2⟩ := pN_place (morP_p (z0 := ((0, none) : Int × Option Addr)) (x := x) hr2)
    have hga := rg_ge m.nodes i
    have hgd := rg_ge m.nodes (i + 1)
    rw [← ha] at hq hql RI hga
    obtain ⟨d, hd⟩ : ∃ d, rg m.nodes (i + 1) = d := ⟨_, rfl⟩
    rw [hd] at hqf hql2 RI hgd
    obtain ⟨A, hA⟩ : ∃ A, (a + 1).toNat = A := ⟨_, rfl⟩
    have hwA : IntKind.i64.wrap (a + 1) = (A : Int) := by rw [IntKind.wrap_i64]; omega
    obtain ⟨X, hX⟩ : ∃ X, x + 1 = X := ⟨_, rfl⟩
    have hwX : IntKind.i64.wrap ((x : Int) + 1) = (X : Int) := by rw [IntKind.wrap_i64]; omega
    obtain ⟨u1, hu1⟩ : ∃ u1, m.l.length + 1 = u1 := ⟨_, rfl⟩
    have hwu : IntKind.i64.wrap ((m.l.length : Int) + 1) = (u1 : Int) := by rw [IntKind.wrap_i64]; omega
    have hins := ins_len m.l i v
    rw [hA] at hq
    have hxa : (((x : Int)) + 1).toNat = X := by omega
    clear hr1 hr2 R ha hd M HH0
    go_enter Tryz.func123, Tryz.ntmps123
    go_wp2_with fail
    rw [show w.alloc (.cells #[.int .u64 v.1, .pointer v.2] 109) = W1 from hW1.symm]
    clear hW1 hG
    go_quiet (fail)
    go_wp2_with fail
    refine (hTk _).mono ?_
    rintro e w1 ⟨rfl, col1, b1, N1, c1, Au1, nu1, cu1, M1, s1⟩
    have s0 : ∀ j, StepC (Rng k) col W1 col (W1.drewN j) := fun j => StepC.below ht1 (below_drewN (Below.refl _ _) j)
    have S1 := (s0 _).trans s1
    have X2 := X1.keep S1 (rng0 hk)
    have S1 := sA.trans S1
    clear hTk HM s1 s0 X1
    have hN1 := M1.len
    obtain ⟨hcp1, hcm1⟩ := M1.cap
    have y2 := M1.c2
    obtain ⟨_, z1, _, _⟩ := M1.at_ hq
    rw [hqf] at z1
    have hAI : (A : Int) < (N1 : Int) := by omega
    have J1 := ljoinb_any M1 S1.tidy hga (show (-1 : Int) ≤ (x : Int) by omega) (by omega) (by omega) (by omega)
    clear M1
    go_wp2_with fail
    refine J1.mono ?_
    rintro e w2 ⟨rfl, M2, s2⟩
    have S2 := S1.trans s2
    have X3 := X2.keep s2 (rng0 hk)
    have J2 := ljoinb_any M2 S2.tidy (show (-1 : Int) ≤ (x : Int) by omega) hgd (by omega) (by omega) (by omega)
    clear M2 J1 s2 y2 z1 X2
    go_wp2_with fail
    refine J2.mono ?_
    rintro e w3 ⟨rfl, M3, s3⟩
    have S3 := S2.trans s3
    have X4 := X3.keep s3 (rng0 hk)
    have v0 : w3.cell? ⟨G, 0, none⟩ = some (.int .u64 v.1) := X4.cell 0 rfl
    have v1 : w3.cell? ⟨G, 1, none⟩ = some (.pointer v.2) := X4.cell 1 rfl
    clear J2 X3 X4
    have hP3 : X < (joinP (joinP (morP ((0, none) : Int × Option Addr) P x) a x) x d).length := by rw [join_len, join_len]; omega
    obtain ⟨q3, hq3⟩ : ∃ q, (joinP (joinP (morP ((0, none) : Int × Option Addr) P x) a x) x d)[X]? = some q := ⟨_, List.getElem?_eq_getElem hP3⟩
    have M3d := M3.drewN S3.tidy 1
    have sd : StepC (Rng k) _ w3 _ (w3.drewN 1) := StepC.below S3.tidy (below_drewN (Below.refl _ _) 1)
    have S3d := S3.trans sd
    have y2 := M3.c2
    obtain ⟨_, _, ⟨t2, t3⟩, fz3⟩ := M3.at_ hq3
    have fz : w3.frozen? ⟨b1, X * 4 + 2, none⟩ = false := fz3 _
    have fz' : w3.frozen? ⟨b1, X * 4 + 3, none⟩ = false := fz3 _
    have hXI : (X : Int) < (N1 : Int) := by omega
    obtain ⟨M4, s4⟩ := M3d.putV S3d.tidy hq3 v
    have S4 := S3d.trans s4
    have hp : (joinP (joinP (morP ((0, none) : Int × Option Addr) P x) a x) x d).set X (q3.1, q3.2.1, v) = insP ((0, none) : Int × Option Addr) P x a d v := by unfold insP; rw [hX, modN_set hq3]
    rw [hp] at M4
    have y1 : ((w3.setCell ⟨b1, X * 4 + 2, none⟩ (.int .u64 v.1)).setCell ⟨b1, X * 4 + 3, none⟩ (.pointer v.2)).cell? ⟨g, 1, none⟩ = some (.int .i64 (m.l.length : Int)) := M4.c1
    have f1 : ((w3.setCell ⟨b1, X * 4 + 2, none⟩ (.int .u64 v.1)).setCell ⟨b1, X * 4 + 3, none⟩ (.pointer v.2)).frozen? ⟨g, 1, none⟩ = false := M4.box.free 1
    obtain ⟨M5, s5⟩ := M4.cnt S4.tidy u1
    have S5 := S4.trans (s5.mono (P' := Rng k) fun c e => ⟨by omega, by omega⟩)
    have HD := Lib.hid (show DidPL PLb col k w g ({ m with l := insC m.l i v } : CSt (Int × Option Addr)) _ from ⟨_, ⟨_, b1, N1, c1, _, Au1, nu1, cu1, by rw [show ({ m with l := insC m.l i v } : CSt (Int × Option Addr)).l.length = u1 by rw [← hu1]; exact hins]; exact M5, RI.out⟩, S5⟩)
    clear M3 M4 M5 S1 S2 S3 S4 S5 s3 s4 s5 RI hp hq3 hP3 fz3 hq hins hcp1 hN1 M3d sd S3d sA
    go_wp2_with fail
    go_still_tail 9, (by kernel_rfl)
    change wpList _ _ _ _ _ (World.drew _)
    go_wp2
    go_ret2
    exact ⟨rfl, HD.out⟩
end
end Go.Proofs.YtlfhkhnhcckajaaGreatDoor

/- The program's lists of heavykeys/ranks.bucket values: Remove. Conditions: none beyond those typed. -/
namespace Go.Proofs.YtlfhkhnhcckajaaGreatDoor
open Go.ChangeShapes Go.WideShapes Go.ChangeAt Go.RowKit
set_option linter.unusedVariables false
set_option linter.unusedSimpArgs false
set_option maxRecDepth 100000

section
variable {P' : Nat → Prop} {col col' : Col} {w w' : World} {k g n u b N c nu cu x : Nat} {Au : Option Addr} {P : List (Pn (Int × Option Addr))} {U : List Nat} {i : Nat} {r : Pn (Int × Option Addr)} {m : CSt (Int × Option Addr)}
/-- A place is cleared. -/
theorem Lxb.zero (h : Lxb col k w g n u P b N c U Au nu cu) (ht : Tidy col w) (hr : P[i]? = some r) :
    Lxb col k ((((w.setCell ⟨b, i * 4, none⟩ (.int .i64 0)).setCell ⟨b, i * 4 + 1, none⟩ (.int .i64 0)).setCell ⟨b, i * 4 + 2, none⟩ (.int .u64 0)).setCell ⟨b, i * 4 + 3, none⟩ (.pointer none)) g n u (P.set i (0, 0, ((0, none) : Int × Option Addr))) b N c U Au nu cu ∧
      StepC (Rng k) col w col ((((w.setCell ⟨b, i * 4, none⟩ (.int .i64 0)).setCell ⟨b, i * 4 + 1, none⟩ (.int .i64 0)).setCell ⟨b, i * 4 + 2, none⟩ (.int .u64 0)).setCell ⟨b, i * 4 + 3, none⟩ (.pointer none)) := by
  have hi := (List.getElem?_eq_some_iff.1 hr).1
  obtain ⟨h1, s1⟩ := h.put ht hr (j := 0) (v := .int .i64 0) (r' := (0, r.2)) (by omega) rfl
  rw [Nat.add_zero] at h1 s1
  obtain ⟨h2, s2⟩ := h1.put s1.tidy (r := (0, r.2)) (by rw [List.getElem?_set, if_pos rfl, if_pos hi]) (j := 1) (v := .int .i64 0) (r' := (0, 0, r.2.2)) (by omega) rfl
  rw [List.set_set] at h2
  obtain ⟨h3, s3⟩ := h2.putV s2.tidy (r := (0, 0, r.2.2)) (by rw [List.getElem?_set, if_pos rfl, if_pos hi]) ((0, none) : Int × Option Addr)
  rw [List.set_set] at h3
  exact ⟨h3, ((s1.trans s2).mono fun c e => ⟨by omega, by omega⟩).trans s3⟩
/-- What is left is the bit and the number of nodes. -/
theorem Lxb.drop (H : Lxb col' k w' g n u P b N c U Au nu cu) (hs : StepC (Rng k) col w col' w') (hi : x / 64 = i) (hin : i < nu) (hU : ∀ u ∈ U, u < 18446744073709551616) (u1 : Nat) :
    ∃ bu u0 y : Nat, Au = some ⟨bu, 0, none⟩ ∧ w'.cell? ⟨g, 3, none⟩ = some (.slice (some ⟨bu, 0, none⟩) nu cu) ∧ w'.cell? ⟨bu, i, none⟩ = some (.int .u64 (u0 : Int)) ∧ bits .andNot .u64 (u0 : Int) ((2 ^ (x % 64) : Nat) : Int) = (y : Int) ∧ w'.frozen? ⟨bu, i, none⟩ = false ∧
      ∀ j, ((w'.drewN j).setCell ⟨bu, i, none⟩ (.int .u64 (y : Int))).cell? ⟨g, 1, none⟩ = some (.int .i64 u) ∧ ((w'.drewN j).setCell ⟨bu, i, none⟩ (.int .u64 (y : Int))).frozen? ⟨g, 1, none⟩ = false ∧
        Lxb col' k (((w'.drewN j).setCell ⟨bu, i, none⟩ (.int .u64 (y : Int))).setCell ⟨g, 1, none⟩ (.int .i64 (u1 : Int))) g n u1 P b N c (delB U x) Au nu cu ∧
        StepC (Rng k) col w col' (((w'.drewN j).setCell ⟨bu, i, none⟩ (.int .u64 (y : Int))).setCell ⟨g, 1, none⟩ (.int .i64 (u1 : Int))) := by
  obtain ⟨bu, rfl, hc, fz⟩ := H.word hin
  have hb := getD_lt hU i
  refine ⟨bu, U.getD i 0, U.getD i 0 &&& (18446744073709551615 - 2 ^ (x % 64)), rfl, H.c3, hc, u64_andNot_nat _ _ hb (pow_lt64 (Nat.mod_lt _ (by decide))), fz i, fun j => ?_⟩
  have ht := hs.tidy
  have H2 := H.drewN ht j
  have ht2 : Tidy col' (w'.drewN j) := ht
  have s2 : StepC (Rng k) col' w' col' (w'.drewN j) := StepC.below ht (below_drewN (Below.refl _ _) j)
  obtain ⟨H3, s3⟩ := H2.putU ht2 hin (U.getD i 0 &&& (18446744073709551615 - 2 ^ (x % 64)))
  obtain ⟨H4, s4⟩ := H3.cnt s3.tidy u1
  refine ⟨H3.c1, H3.box.free 1, ?_, ((hs.trans s2).trans (s3.mono fun c e => ⟨by omega, by omega⟩)).trans (s4.mono fun c e => ⟨by omega, by omega⟩)⟩
  unfold delB
  rw [hi]
  exact H4
theorem Lxb.paint {G d : Nat} (h : Lxb col k w g n u P b N c U Au nu cu) (h0 : col G = 0) (hT : 0 ≠ G) : Lxb (dye col (some G) d) k w g n u P b N c U Au nu cu := by
  have hk := h.k1
  have hc : ∀ q c, col q = c → 1 ≤ c → dye col (some G) d q = c := fun q c hq h1 => by
    rw [dye_no (fun e => by injection e with e; subst e; omega)]; exact hq
  exact ⟨⟨h.box.heap, hc _ _ h.box.col hk⟩, ⟨h.row.own, fun q hq => hc _ _ (h.row.col q hq) (by omega)⟩, ⟨h.wds.own, fun q hq => hc _ _ (h.wds.col q hq) (by omega)⟩, ⟨h.tab.tab, by rw [dye_no (fun e => by injection e with e; exact hT e.symm)]; exact h.tab.col0⟩, hk⟩
/-- A value is written into a new block. -/
theorem Lxb.inNew {G : Nat} {w0 : World} {col0 : Col} (h : Lxb col k w g n u P b N c U Au nu cu) (hs : StepC (Rng k) col0 w0 col w) (h0 : col G = 0) (h1 : w0.heap.size ≤ G) (h2 : G < w.heap.size) (hT : 0 ≠ G) (v : (Int × Option Addr)) :
    ∃ col', Lxb col' k ((w.setCell ⟨G, 0, none⟩ (.int .u64 v.1)).setCell ⟨G, 1, none⟩ (.pointer v.2)) g n u P b N c U Au nu cu ∧ StepC (Rng k) col0 w0 col' ((w.setCell ⟨G, 0, none⟩ (.int .u64 v.1)).setCell ⟨G, 1, none⟩ (.pointer v.2)) := by
  have hk := h.k1
  have M1 := h.paint (d := k + 16) h0 hT
  have S1 := hs.paint (d := k + 16) h1 h2
  have t1 := StepC.set (P := fun d => d = k + 16) S1.tidy (a := ⟨G, 0, none⟩) dye_of (.int .u64 v.1)
  have t2 := StepC.set (P := fun d => d = k + 16) t1.tidy (a := ⟨G, 1, none⟩) dye_of (.pointer v.2)
  exact ⟨_, (M1.keep (t1.trans t2) (fun c hc e => by have := hc.2; omega) (by omega)), (S1.inNew (a := ⟨G, 0, none⟩) h1 _).inNew (a := ⟨G, 1, none⟩) h1 _⟩
set_option maxHeartbeats 4000000 in
theorem lremb_any (H : PLb col k w g m) (ht : Tidy col w) {z : Int} (hz : J64 z) :
    Calls Tryz.prog 88 #[.pointer (some ⟨g, 0, none⟩), .int .i64 z] w fun e w' => e = .returned (.tuple #[.agg (VBb (m.value ((0, none) : Int × Option Addr) z).1), .int .i64 (m.value ((0, none) : Int × Option Addr) z).2]) ∧ DidPL PLb col k w g (m.rem z) w' := by
  have b1 : Below w.heap.size w (w.alloc (.cells #[.int .u64 0, .pointer none] 109)) := (Below.refl _ _).alloc (Nat.le_refl _) _
  have H1 := H.below ht b1
  have sA : StepC (Rng k) col w col (w.alloc (.cells #[.int .u64 0, .pointer none] 109)) := StepC.below ht b1
  have ht1 := sA.tidy
  have X1 : BoxC col (w.alloc (.cells #[.int .u64 0, .pointer none] 109)) w.heap.size 0 (VBb ((0, none) : Int × Option Addr)) 109 := ⟨heap_alloc_new w _, ht _ (Nat.le_refl _)⟩
  obtain ⟨W1, hW1⟩ : ∃ W1, W1 = w.alloc (.cells #[.int .u64 0, .pointer none] 109) := ⟨_, rfl⟩
  obtain ⟨G, hG⟩ : ∃ G, w.heap.size = G := ⟨_, rfl⟩
  rw [← hW1] at H1 X1 sA ht1 b1
  rw [hG] at X1
  have hVl := lvalueb_any H1 ht1 hz
  have hGW : w.heap.size ≤ W1.heap.size := b1.size
  have hk : 1 ≤ k := by obtain ⟨_, _, _, _, _, _, _, _, M, _⟩ := H1; exact M.k1
  have hTb : 0 < w.heap.size := by obtain ⟨_, _, _, _, _, _, _, _, M, _⟩ := H; exact M.tab.tab.lt
  cases hp : placeC m.l z with
  | none =>
    have hV : m.value ((0, none) : Int × Option Addr) z = (((0, none) : Int × Option Addr), 8) := by unfold CSt.value; rw [hp]
    have hR : m.rem z = m := by unfold CSt.rem; rw [hp]
    rw [hV] at hVl ⊢
    rw [hR]
    go_enter Tryz.func88, Tryz.ntmps88
    go_wp2_with fail
    rw [← hW1]
    clear hW1
    refine hVl.mono ?_
    rintro e w2 ⟨rfl, b2⟩
    have b3 : Below W1.heap.size W1 (w2.alloc (.cells #[.int .u64 0, .pointer none] 109)) := b2.alloc b2.size _
    have X3 : BoxC col (w2.alloc (.cells #[.int .u64 0, .pointer none] 109)) G 0 (VBb ((0, none) : Int × Option Addr)) 109 := X1.keep (P := fun _ => False) (StepC.below ht1 b3) (fun h => h)
    have y0 : (w2.alloc (.cells #[.int .u64 0, .pointer none] 109)).cell? ⟨G, 0, none⟩ = some (.int .u64 0) := X3.cell 0 rfl
    have y1 : (w2.alloc (.cells #[.int .u64 0, .pointer none] 109)).cell? ⟨G, 1, none⟩ = some (.pointer none) := X3.cell 1 rfl
    have f0 := X3.free 0
    have f1 := X3.free 1
    have X4 := Lxb.vbox X3 (a := ((0, none) : Int × Option Addr)) ((0, none) : Int × Option Addr)
    have HX := Lib.hid X4.heap
    have HB := ((below_then b1 b3).setCell (p := ⟨G, 0, none⟩) (by rw [hG]; exact Nat.le_refl _) (.int .u64 0)).setCell (p := ⟨G, 1, none⟩) (by rw [hG]; exact Nat.le_refl _) (.pointer none)
    have HD := Lib.hid (show DidPL PLb col k w g m _ from ⟨col, H.below ht HB, StepC.below ht HB⟩)
    clear X1 X3 X4 HB b3 b2 b1 hVl hG hGW H1 H sA
    go_wp2
    refine bodyPost_ret (results_cell_row2 rfl _ _ G _ _ (0, 0) _ rfl HX.out Tryz.underlying109 rfl (by kernel_rfl)) rfl ?_
    exact ⟨rfl, HD.out⟩
  | some i =>
    have HB : ∀ W, Below W1.heap.size W1 W → PLb col k W g m := fun W hb => H1.below ht1 hb
    have hPr := fun W hb => lprevb_any (HB W hb) (ht1.size hb.size) hz
    have hNx := fun W hb => lnextb_any (HB W hb) (ht1.size hb.size) hz
    obtain ⟨P, b, N, c, U, Au, nu, cu, M, R⟩ := H1
    have hN1' := R.next hp
    have hP1' := R.prev hp
    obtain ⟨q, rfl, hqP, hqU, hi, hr⟩ := R.on hp
    obtain ⟨p, hp1, hp2, _⟩ := place_some hp
    have hV : m.value ((0, none) : Int × Option Addr) (q : Int) = (p.2, 0) := by unfold CSt.value; rw [hp]; show (((m.l[i]?).map Prod.snd).getD _, (0 : Int)) = _; rw [hp1]; rfl
    obtain ⟨RR, _, _⟩ := R.rem hp ((0, none) : Int × Option Addr)
    have hlen : (m.rem (q : Int)).l.length + 1 = m.l.length := by
      unfold CSt.rem; rw [hp]; show (remC m.l i).length + 1 = _; unfold remC; rw [List.length_append, List.length_take, List.length_drop]; omega
    have hmn : (m.rem (q : Int)).n = m.n := by unfold CSt.rem; rw [hp]
    have e1 : m.by_ (q : Int) (-1) = rg m.nodes i := by
      have h1 := (R.ring i (by omega)).2
      rw [hr, hP1'] at h1
      injection h1
    have e2 : m.by_ (q : Int) 1 = rg m.nodes (i + 2) := by
      have h1 := (R.ring (i + 1) (by omega)).1
      rw [hr, hN1'] at h1
      injection h1
    obtain ⟨_, _, _, hla⟩ := nN_place (R.ring i (by omega)).1
    obtain ⟨_, _, _, hld⟩ := pN_place (R.ring (i + 1) (by omega)).2
    have hga := rg_ge m.nodes i
    have hgd := rg_ge m.nodes (i + 2)
    have hlP := M.len
    have hlU := M.lenU
    have hN8 := R.lenN
    have hn8 := R.good.n8
    have hgl := R.good.len
    rw [hV] at hVl ⊢
    obtain ⟨F, hF⟩ : ∃ F, p.2 = F := ⟨_, rfl⟩
    rw [hF] at hVl ⊢
    rw [e1] at hPr
    rw [e2] at hNx
    rw [show i + 1 + 1 = i + 2 from rfl] at hld
    have RI := Lib.hid RR
    obtain ⟨a, ha⟩ : ∃ a, rg m.nodes i = a := ⟨_, rfl⟩
    obtain ⟨d, hd⟩ : ∃ d, rg m.nodes (i + 2) = d := ⟨_, rfl⟩
    rw [ha] at hPr hga hla RI
    rw [hd] at hNx hgd hld RI
    obtain ⟨X, hX⟩ : ∃ X, q + 1 = X := ⟨_, rfl⟩
    have hwX : IntKind.i64.wrap ((q : Int) + 1) = (X : Int) := by rw [IntKind.wrap_i64]; omega
    rw [hX] at RI
    obtain ⟨y, hy⟩ : ∃ y, q / 64 = y := ⟨_, rfl⟩
    have hw2 : (q : Int).tdiv 64 = (y : Int) := by rw [Int.tdiv_eq_ediv_of_nonneg (by omega)]; omega
    have hw3 : IntKind.i64.wrap (y : Int) = (y : Int) := by rw [IntKind.wrap_i64]; omega
    obtain ⟨u1, hu1⟩ : ∃ u1, (m.rem (q : Int)).l.length = u1 := ⟨_, rfl⟩
    have hwu : IntKind.i64.wrap ((m.l.length : Int) - 1) = (u1 : Int) := by rw [IntKind.wrap_i64]; omega
    have hyI : (y : Int) < (nu : Int) := by omega
    have hbS := fun W : World => (bit_any q (by omega) W).mono (R' := fun e w' => e = .returned (.int .u64 ((2 ^ (q % 64) : Nat) : Int)) ∧ w' = W) fun e w' h => ⟨h.1, h.2.symm⟩
    have hUb := Lib.hid R.big
    have HM := fun W hb => M.below ht1 (w' := W) hb
    obtain ⟨bu, rfl, _⟩ := M.word (i := y) (by omega)
    clear hN1' hP1' hr hi hp hp1 hp2 hV hF R RR e1 e2 HB M H ha hd
    go_enter Tryz.func88, Tryz.ntmps88
    go_wp2_with fail
    rw [← hW1]
    clear hW1
    refine hVl.mono ?_
    rintro e w2 ⟨rfl, b2⟩
    clear hVl
    have b3 : Below W1.heap.size W1 (w2.alloc (.cells (VBb F) 109)) := b2.alloc b2.size _
    have X6 : BoxC col (w2.alloc (.cells (VBb F) 109)) w2.heap.size 0 (VBb F) 109 := ⟨heap_alloc_new w2 _, (ht1.size b2.size) _ (Nat.le_refl _)⟩
    have X3 : BoxC col (w2.alloc (.cells (VBb F) 109)) G 0 (VBb ((0, none) : Int × Option Addr)) 109 := X1.keep (P := fun _ => False) (StepC.below ht1 b3) (fun h => h)
    obtain ⟨G6, hG6⟩ : ∃ G6, w2.heap.size = G6 := ⟨_, rfl⟩
    rw [hG6] at X6
    go_wp2_with fail
    generalize hW3 : w2.alloc (.cells #[.int .u64 F.1, .pointer F.2] 109) = W3 at *
    clear hW3 hG6 b2 X1
    refine (hPr _ b3).mono ?_
    rintro e w3 ⟨rfl, j2, rfl⟩
    go_wp2_with fail
    refine (hNx _ (below_drewN b3 j2)).mono ?_
    rintro e w3 ⟨rfl, j3, rfl⟩
    clear hNx hPr
    rw [World.drewN_drewN]
    have b4 := below_drewN b3 (j2 + j3)
    have M1 := HM _ b4
    have S1 : StepC (Rng k) col w col (W3.drewN (j2 + j3)) := sA.trans (StepC.below ht1 b4)
    have X4 : BoxC col (W3.drewN (j2 + j3)) G 0 (VBb ((0, none) : Int × Option Addr)) 109 := ⟨X3.heap, X3.col⟩
    have X7 : BoxC col (W3.drewN (j2 + j3)) G6 0 (VBb F) 109 := ⟨X6.heap, X6.col⟩
    clear HM b3 b4 X3 X6 sA
    have J1 := ljoinb_any M1 S1.tidy hga hgd (by omega) (by omega) (by omega)
    clear M1
    go_wp2_with fail
    refine J1.mono ?_
    rintro e w4 ⟨rfl, M2, s2⟩
    have S2 := S1.trans s2
    have X5 := X4.keep s2 (rng0 hk)
    have X8 := X7.keep s2 (rng0 hk)
    clear J1 s2 S1 X4 X7
    have hP3 : X < (joinP P a d).length := by rw [join_len]; omega
    obtain ⟨q3, hq3⟩ : ∃ q, (joinP P a d)[X]? = some q := ⟨_, List.getElem?_eq_getElem hP3⟩
    have y2 := M2.c2
    obtain ⟨hcp1, hcm1⟩ := M2.cap
    obtain ⟨z0, z1, ⟨z2, z3⟩, fz3⟩ := M2.at_ hq3
    have fza := fz3 (X * 4)
    have fzb := fz3 (X * 4 + 1)
    have fzc := fz3 (X * 4 + 2)
    have fzd := fz3 (X * 4 + 3)
    have hXI : (X : Int) < (N : Int) := by omega
    obtain ⟨M3, s3⟩ := M2.zero S2.tidy hq3
    obtain ⟨bu2, u0, y0, hAu, r3, rc, hor, frz, HT⟩ := M3.drop s3 hy (by omega) hUb.out u1
    injection hAu with hAu
    injection hAu with hAu
    subst hAu
    obtain ⟨t1, tf, M5, S5⟩ := HT 1
    have X9 := X5.keep S5 (rng0 hk)
    have X10 := X8.keep S5 (rng0 hk)
    have S6 := S2.trans S5
    obtain ⟨colf, M6, S7⟩ := M5.inNew S6 X9.col (by omega) X9.lt (fun e => by have h0 := hTb; omega) F
    have HD := Lib.hid (show DidPL PLb col k w g (m.rem (q : Int)) _ from ⟨_, ⟨_, b, N, c, _, some ⟨bu, 0, none⟩, nu, cu, by rw [hmn, hu1]; exact M6, RI.out⟩, S7⟩)
    have HX := Lib.hid (Lxb.vbox X9 (a := ((0, none) : Int × Option Addr)) F).heap
    clear HT M2 M3 M5 M6 S2 S5 S6 S7 s3 hq3 hP3 RI X5 X8
    go_wp2
    generalize (((w4.setCell _ _).setCell _ _).setCell _ _).setCell _ _ = W5 at *
    generalize 2 ^ (q % 64) = B at hor hbS
    have t1' : (W5.setCell ⟨bu, y, none⟩ (.int .u64 (y0 : Int))).cell? ⟨g, 1, none⟩ = some (.int .i64 (m.l.length : Int)) := t1
    have tf' : (W5.setCell ⟨bu, y, none⟩ (.int .u64 (y0 : Int))).frozen? ⟨g, 1, none⟩ = false := tf
    have v0 : ((W5.setCell ⟨bu, y, none⟩ (.int .u64 (y0 : Int))).setCell ⟨g, 1, none⟩ (.int .i64 (u1 : Int))).cell? ⟨G6, 0, none⟩ = some (.int .u64 F.1) := X10.cell 0 rfl
    have v1 : ((W5.setCell ⟨bu, y, none⟩ (.int .u64 (y0 : Int))).setCell ⟨g, 1, none⟩ (.int .i64 (u1 : Int))).cell? ⟨G6, 1, none⟩ = some (.pointer F.2) := X10.cell 1 rfl
    have g0 : ((W5.setCell ⟨bu, y, none⟩ (.int .u64 (y0 : Int))).setCell ⟨g, 1, none⟩ (.int .i64 (u1 : Int))).cell? ⟨G, 0, none⟩ = some (.int .u64 0) := X9.cell 0 rfl
    have g1 : ((W5.setCell ⟨bu, y, none⟩ (.int .u64 (y0 : Int))).setCell ⟨g, 1, none⟩ (.int .i64 (u1 : Int))).cell? ⟨G, 1, none⟩ = some (.pointer none) := X9.cell 1 rfl
    have gf0 : ((W5.setCell ⟨bu, y, none⟩ (.int .u64 (y0 : Int))).setCell ⟨g, 1, none⟩ (.int .i64 (u1 : Int))).frozen? ⟨G, 0, none⟩ = false := X9.free 0
    have gf1 : ((W5.setCell ⟨bu, y, none⟩ (.int .u64 (y0 : Int))).setCell ⟨g, 1, none⟩ (.int .i64 (u1 : Int))).frozen? ⟨G, 1, none⟩ = false := X9.free 1
    clear t1 tf z0 z1 z2 z3 fza fzb fzc fzd fz3 y2 X9 X10 hG
    go_still_tail 12, (by kernel_rfl)
    still_call (hbS _)
    repeat still_step
    refine wpStill_nil ?_
    change wpList _ _ _ _ _ (World.drew _)
    go_wp2
    refine bodyPost_ret (results_cell_row2 rfl _ _ G _ _ (0, 0) _ rfl HX.out Tryz.underlying109 rfl (by kernel_rfl)) rfl ?_
    exact ⟨rfl, HD.out⟩
end
end Go.Proofs.YtlfhkhnhcckajaaGreatDoor

/- The program's lists of heavykeys/ranks.bucket values: PushFront, InsertAfter, PushBack, New. Conditions: none beyond those typed. -/
namespace Go.Proofs.YtlfhkhnhcckajaaGreatDoor
open Go.ChangeShapes Go.WideShapes Go.ChangeAt Go.RowKit
set_option linter.unusedVariables false
set_option linter.unusedSimpArgs false
set_option maxRecDepth 100000

section
variable {P' : Nat → Prop} {col col' : Col} {w w' : World} {k g n u b N c nu cu x : Nat} {Au : Option Addr} {P : List (Pn (Int × Option Addr))} {U : List Nat} {i : Nat} {r : Pn (Int × Option Addr)} {m : CSt (Int × Option Addr)}
theorem AddOut.fromb {r : (Int × Int) × CSt (Int × Option Addr)} {e : Ending} (hs : StepC (Rng k) col w col w') {w2 : World} (h : AddOut PLb col k w' g r e w2) : AddOut PLb col k w g r e w2 := by
  obtain ⟨h1, col2, h2, h3⟩ := h
  exact ⟨h1, col2, h2, hs.trans h3⟩
set_option maxHeartbeats 1000000 in
theorem lpushFb_any (H : PLb col k w g m) (ht : Tidy col w) (v : (Int × Option Addr)) : Calls Tryz.prog 107 #[.pointer (some ⟨g, 0, none⟩), .agg (VBb v)] w (AddOut PLb col k w g (m.pushF v)) := by
  have b1 : Below w.heap.size w (w.alloc (.cells (VBb v) 109)) := (Below.refl _ _).alloc (Nat.le_refl _) _
  have H1 := H.below ht b1
  have sA : StepC (Rng k) col w col (w.alloc (.cells (VBb v) 109)) := StepC.below ht b1
  have ht1 := sA.tidy
  have v0 : (w.alloc (.cells (VBb v) 109)).cell? ⟨w.heap.size, 0, none⟩ = some (.int .u64 v.1) := (World.cell?_alloc_at (w := w) _ _ _ _ rfl).trans rfl
  have v1 : (w.alloc (.cells (VBb v) 109)).cell? ⟨w.heap.size, 1, none⟩ = some (.pointer v.2) := (World.cell?_alloc_at (w := w) _ _ _ _ rfl).trans rfl
  have hI := (linsertb_any H1 ht1 (a := -1) (i := 0) rfl (Nat.zero_le _) v).mono fun e w2 h => AddOut.fromb sA h
  have hE : m.pushF v = m.ins 0 v := rfl
  rw [hE]
  generalize m.ins 0 v = r1 at *
  clear H H1 hE b1 sA ht1
  go_enter Tryz.func107, Tryz.ntmps107
  go_wp2_with fail
  refine hI.mono ?_
  rintro e w1 ⟨rfl, hd⟩
  have HD := Lib.hid hd
  clear hd hI v0 v1
  go_wp2
  go_ret2
  exact ⟨rfl, HD.out⟩
set_option maxHeartbeats 1000000 in
theorem linsAb_any (H : PLb col k w g m) (ht : Tidy col w) {z : Int} (hz : J64 z) (v : (Int × Option Addr)) : Calls Tryz.prog 108 #[.pointer (some ⟨g, 0, none⟩), .int .i64 z, .agg (VBb v)] w (AddOut PLb col k w g (m.insA z v)) := by
  have b1 : Below w.heap.size w (w.alloc (.cells (VBb v) 109)) := (Below.refl _ _).alloc (Nat.le_refl _) _
  have H1 := H.below ht b1
  have sA : StepC (Rng k) col w col (w.alloc (.cells (VBb v) 109)) := StepC.below ht b1
  have ht1 := sA.tidy
  have v0 : (w.alloc (.cells (VBb v) 109)).cell? ⟨w.heap.size, 0, none⟩ = some (.int .u64 v.1) := (World.cell?_alloc_at (w := w) _ _ _ _ rfl).trans rfl
  have v1 : (w.alloc (.cells (VBb v) 109)).cell? ⟨w.heap.size, 1, none⟩ = some (.pointer v.2) := (World.cell?_alloc_at (w := w) _ _ _ _ rfl).trans rfl
  have hs : ∀ j, StepC (Rng k) col w col ((w.alloc (.cells (VBb v) 109)).drewN j) := fun j => sA.trans (StepC.below ht1 (below_drewN (Below.refl _ _) j))
  have HB : ∀ j, PLb col k ((w.alloc (.cells (VBb v) 109)).drewN j) g m := fun j => H1.below ht1 (below_drewN (Below.refl _ _) j)
  obtain ⟨P, b, N, c, U, Au, nu, cu, M, R⟩ := H1
  have hH := lhasb_any M R hz
  cases hp : placeC m.l z with
  | none =>
    rw [hp] at hH
    have hE : m.insA z v = ((0, 8), m) := by unfold CSt.insA; rw [hp]
    rw [hE]
    have HD := Lib.hid (show ∀ j, DidPL PLb col k w g m ((w.alloc (.cells (VBb v) 109)).drewN j) from fun j => ⟨col, HB j, hs j⟩)
    clear M R hE HB hs H b1 sA v0 v1
    go_enter Tryz.func108, Tryz.ntmps108
    go_wp2_with fail
    refine hH.mono ?_
    rintro e w1 ⟨rfl, j, rfl⟩
    go_wp2
    go_ret2
    exact ⟨rfl, HD.out j⟩
  | some i =>
    rw [hp] at hH
    obtain ⟨q, hq, _, _, hi, hr⟩ := R.on hp
    have hE : m.insA z v = m.ins (i + 1) v := by unfold CSt.insA; rw [hp]
    rw [hE]
    have hI := fun j => (linsertb_any (HB j) ht1 (a := z) (i := i + 1) (by rw [hr]; exact hq) (by omega) v).mono fun e w2 h => AddOut.fromb (hs j) h
    generalize m.ins (i + 1) v = r1 at *
    clear M R HB hs hE hq hr H b1 sA
    go_enter Tryz.func108, Tryz.ntmps108
    go_wp2_with fail
    refine hH.mono ?_
    rintro e w1 ⟨rfl, j, rfl⟩
    go_wp2_with fail
    refine (hI j).mono ?_
    rintro e w1 ⟨rfl, hd⟩
    have HD := Lib.hid hd
    clear hd hI v0 v1
    go_wp2
    go_ret2
    exact ⟨rfl, HD.out⟩
set_option maxHeartbeats 1000000 in
theorem lnewb_any (ht : Tidy col w) (hT : TbC col w) (hk : 1 ≤ k) (n : Int) (hn : J64 n) : Calls Tryz.prog 66 #[.int .i64 n] w (NewPL PLb col k n w) := by
  unfold J64 at hn
  by_cases h1 : n < 1
  · have HE := Lib.hid (show lstE n = 1 from if_pos (.inl h1))
    go_enter Tryz.func66, Tryz.ntmps66
    go_wp2
    go_ret2
    exact .inr ⟨HE.out, rfl, Below.refl _ _⟩
  by_cases h2 : 8192 < n
  · have HE := Lib.hid (show lstE n = 1 from if_pos (.inr h2))
    go_enter Tryz.func66, Tryz.ntmps66
    go_wp2
    go_ret2
    exact .inr ⟨HE.out, rfl, Below.refl _ _⟩
  obtain ⟨q, rfl⟩ : ∃ q : Nat, n = (q : Int) := ⟨n.toNat, by omega⟩
  have HE := Lib.hid (show lstE (q : Int) = 0 from if_neg (by omega))
  have hs1 := StepC.new ht (.cells #[.int .i64 (-1), .int .i64 (-1), .int .u64 0, .pointer none] 132) (k + 1) (Rng k)
  have O1 : OwnK kNb (w.alloc (.cells #[.int .i64 (-1), .int .i64 (-1), .int .u64 0, .pointer none] 132)) (.slice (some ⟨w.heap.size, 0, none⟩) 1 1) [(-1, -1, ((0, none) : Int × Option Addr))] := OwnK.one (K := kNb) rfl _ rfl
  have R1 : OwnKc kNb (dye col (some w.heap.size) (k + 1)) (w.alloc (.cells #[.int .i64 (-1), .int .i64 (-1), .int .u64 0, .pointer none] 132)) (k + 1) (.slice (some ⟨w.heap.size, 0, none⟩) 1 1) [(-1, -1, ((0, none) : Int × Option Addr))] := ⟨O1, HasCol.dye (.slice (some ⟨w.heap.size, 0, none⟩) 1 1) (k + 1)⟩
  have T1 := hT.keep hs1 (rng0 hk)
  have hs2 := fun cs => StepC.new hs1.tidy (.cells cs 135) k (Rng k)
  have hs2' := fun cs => StepC.new hs1.tidy (.cells cs 135) k (fun _ => False)
  have HD := Lib.hid (show DidPL PLb col k w (w.heap.size + 1) (newC (Int × Option Addr) q) ((w.alloc (.cells #[.int .i64 (-1), .int .i64 (-1), .int .u64 0, .pointer none] 132)).alloc (.cells #[.int .i64 (q : Int), .int .i64 0, .slice (some ⟨w.heap.size, 0, none⟩) 1 1, .slice none 0 0] 135)) from by
    refine ⟨_, ⟨[(-1, -1, ((0, none) : Int × Option Addr))], w.heap.size, 1, 1, [], none, 0, 0, ⟨⟨?_, ?_⟩, R1.keep (hs2' _) (fun h => h), OwnKc.nil kU _ _ _, T1.keep (hs2' _) (fun h => h), hk⟩, Rp.new (by omega) (by omega)⟩, hs1.trans (hs2 _)⟩
    · have := heap_alloc_new (w.alloc (.cells #[.int .i64 (-1), .int .i64 (-1), .int .u64 0, .pointer none] 132)) (.cells #[.int .i64 (q : Int), .int .i64 0, .slice (some ⟨w.heap.size, 0, none⟩) 1 1, .slice none 0 0] 135)
      rw [show (w.alloc (.cells #[.int .i64 (-1), .int .i64 (-1), .int .u64 0, .pointer none] 132)).heap.size = w.heap.size + 1 by simp] at this
      exact this
    · unfold dye
      rw [if_pos (by simp)])
  clear hs1 O1 R1 T1 hs2 hs2' hT
  go_enter Tryz.func66, Tryz.ntmps66
  go_wp2
  go_ret2
  exact .inl ⟨HE.out, w.heap.size + 1, rfl, HD.out⟩
end
end Go.Proofs.YtlfhkhnhcckajaaGreatDoor
