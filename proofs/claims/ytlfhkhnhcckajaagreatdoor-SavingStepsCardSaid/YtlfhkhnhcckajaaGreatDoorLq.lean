/- Words laid together in one text. Conditions: none beyond those typed. -/
import Derived.Test.YtlfhkhnhcckajaaGreatDoorZ12
import Derived.Test.YtlfhkhnhcckajaaGreatDoorZ13
import Derived.Laws.OwnMore
import Derived.StillTailTactics
import Derived.Test.YtlfhkhnhcckajaaGreatDoorZ03
import Derived.Test.YtlfhkhnhcckajaaGreatDoorZ02
/- The program's lists of int values in memory: the box, the row of places, the row of words. Conditions: none beyond those typed. -/
namespace Go.Proofs.YtlfhkhnhcckajaaGreatDoor
open Go.ChangeShapes Go.WideShapes Go.ChangeAt Go.RowKit
set_option linter.unusedVariables false
set_option linter.unusedSimpArgs false
set_option maxRecDepth 100000

def nEi (r : Pn Int) : List Value := [.int .i64 r.1, .int .i64 r.2.1, (fun z : Int => Value.int .i64 z) r.2.2]
/-- Places. -/
def kNi : Kind (Pn Int) where
  ty := 142
  sl := 143
  k := 3
  by_ := 24
  zero := .agg #[.int .i64 0, .int .i64 0, .int .i64 0]
  enc := nEi
  pos := by omega
  len := fun _ => rfl
  one := fun a u hu => by simp [nEi] at hu; rcases hu with rfl | rfl | rfl <;> rfl
  under := Tryz.underlying143
  info := by kernel_rfl
  zk := rfl
  small := by omega
/-- A list of the program: its box, its N places, its words; u nodes. -/
structure Lxi (col : Col) (k : Nat) (w : World) (g n u : Nat) (P : List (Pn Int)) (b N c : Nat) (U : List Nat) (Au : Option Addr) (nu cu : Nat) : Prop where
  box : BoxC col w g k #[.int .i64 n, .int .i64 u, .slice (some ⟨b, 0, none⟩) N c, .slice Au nu cu] 145
  row : OwnKc kNi col w (k + 1) (.slice (some ⟨b, 0, none⟩) N c) P
  wds : OwnKc kU col w (k + 2) (.slice Au nu cu) (U.map fun z : Nat => (z : Int))
  tab : TbC col w
  k1 : 1 ≤ k
section
variable {P' : Nat → Prop} {col col' : Col} {w w' : World} {k g n u b N c nu cu : Nat} {Au : Option Addr} {P : List (Pn Int)} {U : List Nat} {i : Nat} {r : Pn Int}
theorem Lxi.keep (h : Lxi col k w g n u P b N c U Au nu cu) (hs : StepC P' col w col' w') (hp : ∀ c, Rng k c → ¬ P' c) (h0 : ¬ P' 0) : Lxi col' k w' g n u P b N c U Au nu cu :=
  ⟨h.box.keep hs (hp _ ⟨Nat.le_refl _, by omega⟩), h.row.keep hs (hp _ ⟨by omega, by omega⟩), h.wds.keep hs (hp _ ⟨by omega, by omega⟩), h.tab.keep hs h0, h.k1⟩
theorem Lxi.below (h : Lxi col k w g n u P b N c U Au nu cu) (ht : Tidy col w) (hb : Below w.heap.size w w') : Lxi col k w' g n u P b N c U Au nu cu := h.keep (P' := fun _ => False) (StepC.below ht hb) (fun _ _ h => h) (fun h => h)
theorem Lxi.drewN (h : Lxi col k w g n u P b N c U Au nu cu) (ht : Tidy col w) (j : Nat) : Lxi col k (w.drewN j) g n u P b N c U Au nu cu := h.below ht (below_drewN (Below.refl _ _) j)
theorem Lxi.len (h : Lxi col k w g n u P b N c U Au nu cu) : P.length = N := h.row.own.len
theorem Lxi.lenU (h : Lxi col k w g n u P b N c U Au nu cu) : U.length = nu := by have := h.wds.own.len; simpa using this
theorem Lxi.c0 (h : Lxi col k w g n u P b N c U Au nu cu) : w.cell? ⟨g, 0, none⟩ = some (.int .i64 n) := h.box.cell 0 rfl
theorem Lxi.c1 (h : Lxi col k w g n u P b N c U Au nu cu) : w.cell? ⟨g, 1, none⟩ = some (.int .i64 u) := h.box.cell 1 rfl
theorem Lxi.c2 (h : Lxi col k w g n u P b N c U Au nu cu) : w.cell? ⟨g, 2, none⟩ = some (.slice (some ⟨b, 0, none⟩) N c) := h.box.cell 2 rfl
theorem Lxi.c3 (h : Lxi col k w g n u P b N c U Au nu cu) : w.cell? ⟨g, 3, none⟩ = some (.slice Au nu cu) := h.box.cell 3 rfl
theorem Lxi.cap (h : Lxi col k w g n u P b N c U Au nu cu) : N ≤ c ∧ c ≤ 9223372036854775807 := ⟨h.row.own.reads.cap, h.row.own.reads.max⟩
theorem Lxi.capU (h : Lxi col k w g n u P b N c U Au nu cu) : nu ≤ cu ∧ cu ≤ 9223372036854775807 := ⟨h.wds.own.reads.cap, h.wds.own.reads.max⟩
theorem Lxi.at_ (h : Lxi col k w g n u P b N c U Au nu cu) (hr : P[i]? = some r) :
    w.cell? ⟨b, i * 3, none⟩ = some (.int .i64 r.1) ∧ w.cell? ⟨b, i * 3 + 1, none⟩ = some (.int .i64 r.2.1) ∧ w.cell? ⟨b, i * 3 + 2, none⟩ = some ((fun z : Int => Value.int .i64 z) r.2.2) ∧ ∀ z, w.frozen? ⟨b, z, none⟩ = false :=
  ⟨h.row.own.cell hr (i := 0) rfl, h.row.own.cell hr (i := 1) rfl, h.row.own.cell hr (i := 2) rfl, fun z => h.row.own.free z⟩
theorem Lxi.word (h : Lxi col k w g n u P b N c U Au nu cu) (hi : i < nu) : ∃ bu, Au = some ⟨bu, 0, none⟩ ∧ w.cell? ⟨bu, i, none⟩ = some (.int .u64 (U.getD i 0 : Nat)) ∧ ∀ z, w.frozen? ⟨bu, z, none⟩ = false := by
  obtain ⟨bu, rfl, _⟩ := h.wds.own.head (by omega)
  have hU := h.lenU
  have h1 : (U.map fun z : Nat => (z : Int))[i]? = some ((U.getD i 0 : Nat) : Int) := by
    rw [List.getElem?_map, List.getD_eq_getElem?_getD, List.getElem?_eq_getElem (show i < U.length by omega)]; rfl
  have h2 := h.wds.own.cell h1 (i := 0) rfl
  rw [show kU.k = 1 from rfl, Nat.mul_one, Nat.add_zero] at h2
  exact ⟨bu, rfl, h2, fun z => h.wds.own.free z⟩
/-- A cell of a place is written. -/
theorem Lxi.put (h : Lxi col k w g n u P b N c U Au nu cu) (ht : Tidy col w) (hr : P[i]? = some r) {j : Nat} {v : Value} {r' : Pn Int} (hj : j < 3) (he : nEi r' = (nEi r).set j v) :
    Lxi col k (w.setCell ⟨b, i * 3 + j, none⟩ v) g n u (P.set i r') b N c U Au nu cu ∧ StepC (fun d => d = k + 1) col w col (w.setCell ⟨b, i * 3 + j, none⟩ v) := by
  have s1 : StepC (fun d => d = k + 1) col w col (w.setCell ⟨b, i * 3 + j, none⟩ v) := StepC.set ht h.row.col.of _
  have h1 := h.row.set (j := i) (i := j) (a' := r') (u := v) hr (by show j < 3; omega) he
  exact ⟨⟨h.box.keep s1 (by omega), h1, h.wds.keep s1 (by omega), h.tab.keep s1 (by omega), h.k1⟩, s1⟩
/-- A word is written. -/
theorem Lxi.putU {bu : Nat} (h : Lxi col k w g n u P b N c U (some ⟨bu, 0, none⟩) nu cu) (ht : Tidy col w) (hi : i < nu) (y : Nat) :
    Lxi col k (w.setCell ⟨bu, i, none⟩ (.int .u64 (y : Int))) g n u P b N c (U.set i y) (some ⟨bu, 0, none⟩) nu cu ∧ StepC (fun d => d = k + 2) col w col (w.setCell ⟨bu, i, none⟩ (.int .u64 (y : Int))) := by
  have hU := h.lenU
  have s1 : StepC (fun d => d = k + 2) col w col (w.setCell ⟨bu, i, none⟩ (.int .u64 (y : Int))) := StepC.set ht h.wds.col.of _
  have h0 : (U.map fun z : Nat => (z : Int))[i]? = some ((U.getD i 0 : Nat) : Int) := by
    rw [List.getElem?_map, List.getD_eq_getElem?_getD, List.getElem?_eq_getElem (show i < U.length by omega)]; rfl
  have h1 := h.wds.set (j := i) (i := 0) (a' := (y : Int)) (u := .int .u64 (y : Int)) h0 (by show 0 < 1; omega) rfl
  rw [show kU.k = 1 from rfl, Nat.mul_one, Nat.add_zero, show (U.map fun z : Nat => (z : Int)).set i (y : Int) = (U.set i y).map fun z : Nat => (z : Int) by rw [List.map_set]] at h1
  exact ⟨⟨h.box.keep s1 (by omega), h.row.keep s1 (by omega), h1, h.tab.keep s1 (by omega), h.k1⟩, s1⟩
/-- The number of nodes is written. -/
theorem Lxi.cnt (h : Lxi col k w g n u P b N c U Au nu cu) (ht : Tidy col w) (u' : Nat) :
    Lxi col k (w.setCell ⟨g, 1, none⟩ (.int .i64 u')) g n u' P b N c U Au nu cu ∧ StepC (fun d => d = k) col w col (w.setCell ⟨g, 1, none⟩ (.int .i64 u')) := by
  have s1 : StepC (fun d => d = k) col w col (w.setCell ⟨g, 1, none⟩ (.int .i64 u')) := StepC.set ht h.box.col _
  have h0 := h.k1
  exact ⟨⟨h.box.put 1 (.int .i64 u'), h.row.keep s1 (by omega), h.wds.keep s1 (by omega), h.tab.keep s1 (by omega), h.k1⟩, s1⟩
/-- The program's list m lies in block g. -/
def PLi : RepL Int := fun col k w g m => ∃ (P : List (Pn Int)) (b N c : Nat) (U : List Nat) (Au : Option Addr) (nu cu : Nat), Lxi col k w g m.n m.l.length P b N c U Au nu cu ∧ Rp m P U
variable {m : CSt Int}
theorem PLi.keep (h : PLi col k w g m) (hs : StepC P' col w col' w') (hp : ∀ c, Rng k c → ¬ P' c) (h0 : ¬ P' 0) : PLi col' k w' g m := by
  obtain ⟨P, b, N, c, U, Au, nu, cu, M, R⟩ := h
  exact ⟨P, b, N, c, U, Au, nu, cu, M.keep hs hp h0, R⟩
theorem PLi.below (h : PLi col k w g m) (ht : Tidy col w) (hb : Below w.heap.size w w') : PLi col k w' g m := h.keep (P' := fun _ => False) (StepC.below ht hb) (fun _ _ h => h) (fun h => h)
end
end Go.Proofs.YtlfhkhnhcckajaaGreatDoor

/- The program's lists of int values: has, join, least, Len, First, Last, Next, Prev, Value. Conditions: none beyond those typed. -/
namespace Go.Proofs.YtlfhkhnhcckajaaGreatDoor
open Go.ChangeShapes Go.WideShapes Go.ChangeAt Go.RowKit
set_option linter.unusedVariables false
set_option linter.unusedSimpArgs false
set_option maxRecDepth 100000

section
variable {P' : Nat → Prop} {col col' : Col} {w w' : World} {k g n u b N c nu cu : Nat} {Au : Option Addr} {P : List (Pn Int)} {U : List Nat} {i : Nat} {r : Pn Int} {m : CSt Int}
set_option maxHeartbeats 1000000 in
theorem lleasti_any (h : Lxi col k w g n u P b N c U Au nu cu) {ns : List Nat} (hbit : ∀ j, hasB U j = decide (j ∈ ns)) (hbig : ∀ u ∈ U, u < 18446744073709551616) (hlU : nu ≤ 128) :
    Calls Tryz.prog 132 #[.pointer (some ⟨g, 0, none⟩)] w fun e w' => e = .returned (.int .i64 (freeN ns : Int)) ∧ w = w' := by
  have x3 := h.c3
  have hU := h.lenU
  obtain ⟨hcp, hcm⟩ := h.capU
  have hTb := h.tab.tab
  obtain ⟨R, hR⟩ : ∃ R, freeN ns = R := ⟨_, rfl⟩
  rw [hR]
  go_enter Tryz.func132, Tryz.ntmps132
  go_wp2
  go_loopw [11] (fun iv wr => ∃ i : Nat, i ≤ nu ∧ iv = .int .i64 (i : Int) ∧ (∀ j, j < 64 * i → j ∈ ns) ∧ wr = w) (fun iv _ => nu - (intOf iv).toNat)
  case atStart => exact ⟨0, Nat.zero_le _, rfl, fun j hj => by omega, rfl⟩
  case round =>
    obtain ⟨i, hi, rfl, hall, hwr⟩ := hrel
    subst hwr
    by_cases hlt : i < nu
    · obtain ⟨bu, rfl, hc, _⟩ := h.word hlt
      have hxb := getD_lt hbig i
      obtain ⟨x, hx⟩ : ∃ x, U.getD i 0 = x := ⟨_, rfl⟩
      rw [hx] at hc hxb
      have hT := tz_any (18446744073709551615 - x) (by omega) wr hTb
      obtain ⟨y, hy⟩ : ∃ y, 18446744073709551615 - x = y := ⟨_, rfl⟩
      rw [hy] at hT
      have hiI : (i : Int) < (nu : Int) := by omega
      have hinv : bits .xor .u64 IntKind.u64.max (x : Int) = (y : Int) := by rw [inv_any hxb, hy]
      obtain ⟨f1, f2⟩ := free_word hbit hbig hall (i := i) (y := y) (by rw [hx]; exact hy)
      have hFb : Lib.ctz 64 y ≤ 64 := by
        rcases Nat.eq_zero_or_pos y with e | e
        · rw [e, ctz_zero]; omega
        · have := (ctz_bit (x := y) (by omega) (by omega)).1; omega
      generalize Lib.ctz 64 y = F at *
      clear hbit hbig hall hx hy
      go_wp2_with fail
      refine hT.mono ?_
      rintro e w1 ⟨rfl, hw⟩
      subst hw
      by_cases hF : F < 64
      · have hFI : (F : Int) < 64 := by omega
        have hw1 : IntKind.i64.wrap ((i : Int) * 64) = (((i * 64 : Nat)) : Int) := by rw [IntKind.wrap_i64]; omega
        have hw2 : IntKind.i64.wrap (((i * 64 : Nat) : Int) + (F : Int)) = (R : Int) := by rw [← hR, f1 hF, IntKind.wrap_i64]; omega
        have HR := Lib.hid (show (R : Int) = (i : Int) * 64 + (F : Int) by rw [← hR, f1 hF]; omega)
        clear f1 f2 hT hinv hR
        go_wp2
        go_ret
        rw [HR.out]
        exact ⟨rfl, rfl⟩
      · have hFI : ¬ (F : Int) < 64 := by omega
        have HA := Lib.hid (f2 hF)
        clear f1 f2 hT hinv
        go_wp2
        go_roundw
        case rel => exact ⟨i + 1, by omega, by go_num, HA.out, (by first | rfl | trivial)⟩
        case measure => (simp [intOf] <;> omega)
    · have hiI : ¬ (i : Int) < (nu : Int) := by omega
      have hR2 := free_end hbit (fun j hj => hall j (by omega))
      have hw1 : IntKind.i64.wrap ((nu : Int) * 64) = (R : Int) := by rw [← hR, hR2, hU, IntKind.wrap_i64]; omega
      clear hbit hall hR hR2
      go_wp2
      go_ret
      exact ⟨rfl, rfl⟩
set_option maxHeartbeats 1000000 in
theorem ljoini_any (h : Lxi col k w g n u P b N c U Au nu cu) (ht : Tidy col w) {a d : Int} (ha : -1 ≤ a) (hd : -1 ≤ d) (haN : (a + 1).toNat < N) (hdN : (d + 1).toNat < N) (hN : N ≤ 8193) :
    Calls Tryz.prog 98 #[.pointer (some ⟨g, 0, none⟩), .int .i64 a, .int .i64 d] w fun e w' => e = .returned (.tuple #[]) ∧ Lxi col k w' g n u (joinP P a d) b N c U Au nu cu ∧ StepC (Rng k) col w col w' := by
  have hl := h.len
  obtain ⟨A, hA⟩ : ∃ A, (a + 1).toNat = A := ⟨_, rfl⟩
  obtain ⟨D, hD⟩ : ∃ D, (d + 1).toNat = D := ⟨_, rfl⟩
  have hwA : IntKind.i64.wrap (a + 1) = (A : Int) := by rw [IntKind.wrap_i64]; omega
  have hwD : IntKind.i64.wrap (d + 1) = (D : Int) := by rw [IntKind.wrap_i64]; omega
  have hAI : (A : Int) < (N : Int) := by omega
  have hDI : (D : Int) < (N : Int) := by omega
  have hgA := List.getElem?_eq_getElem (show A < P.length by omega)
  obtain ⟨qa, hqa⟩ : ∃ q, P[A]? = some q := ⟨_, hgA⟩
  have x2 := h.c2
  obtain ⟨hcp, hcm⟩ := h.cap
  obtain ⟨_, y1, _, fz⟩ := h.at_ hqa
  obtain ⟨M1, s1⟩ := h.put ht hqa (j := 1) (v := .int .i64 d) (r' := (qa.1, d, qa.2.2)) (by omega) rfl
  have hp1 : P.set A (qa.1, d, qa.2.2) = joinN P a d := by unfold joinN; rw [hA, modN_set hqa]
  rw [hp1] at M1
  obtain ⟨qd, hqd⟩ : ∃ q, (joinN P a d)[D]? = some q := ⟨_, List.getElem?_eq_getElem (show D < (joinN P a d).length by unfold joinN; rw [List.length_modify]; omega)⟩
  have z2 := M1.c2
  obtain ⟨z0, _, _, fz1⟩ := M1.at_ hqd
  obtain ⟨M2, s2⟩ := M1.put s1.tidy hqd (j := 0) (v := .int .i64 a) (r' := (a, qd.2)) (by omega) rfl
  have hp2 : (joinN P a d).set D (a, qd.2) = joinP P a d := by unfold joinP; rw [hD, modN_set hqd]
  rw [hp2] at M2
  have f1 := fz (A * 3 + 1)
  have f2 := fz1 (D * 3)
  rw [Nat.add_zero] at M2 s2
  have hDn := Lib.hid (And.intro M2 ((s1.mono (P' := Rng k) (fun c e => ⟨by omega, by omega⟩)).trans (s2.mono (fun c e => ⟨by omega, by omega⟩))))
  clear h M1 M2 s1 s2 hp1 hp2 hqa hqd hgA hA hD fz fz1
  go_enter Tryz.func98, Tryz.ntmps98
  go_wp2
  go_end0
  exact ⟨rfl, hDn.out⟩
set_option maxHeartbeats 1000000 in
theorem lhasi_any (h : Lxi col k w g n u P b N c U Au nu cu) (R : Rp m P U) {z : Int} (hz : J64 z) :
    Calls Tryz.prog 94 #[.pointer (some ⟨g, 0, none⟩), .int .i64 z] w fun e w' => e = .returned (.bool (placeC m.l z).isSome) ∧ ∃ j, w' = w.drewN j := by
  have hl := h.len
  have hlU := h.lenU
  have x2 := h.c2
  have x3 := h.c3
  obtain ⟨hcp, hcm⟩ := h.cap
  obtain ⟨hcpU, hcmU⟩ := h.capU
  have hN1 := R.len1
  have hN8 := R.lenN
  have hn8 := R.good.n8
  have hroom := R.room
  have hU8 := R.lenU
  have hw1 : IntKind.i64.wrap ((N : Int) - 1) = (N : Int) - 1 := by rw [IntKind.wrap_i64]; omega
  obtain ⟨y, hy⟩ : ∃ y, (placeC m.l z).isSome = y := ⟨_, rfl⟩
  unfold J64 at hz
  rw [hy]
  by_cases h0 : 0 ≤ z
  rotate_left
  · rw [R.off (.inl (by omega))] at hy
    have hd : decide (z ≥ 0) = false := decide_eq_false (by omega)
    subst hy
    clear h R
    go_enter Tryz.func94, Tryz.ntmps94
    go_wp2
    go_quiet (fail)
    go_wp2
    go_ret
    exact ⟨rfl, _, rfl⟩
  have hd : decide (z ≥ 0) = true := decide_eq_true (by omega)
  by_cases h1 : z < (N : Int) - 1
  rotate_left
  · rw [R.off (.inr (by omega))] at hy
    have hd1 : decide (z < (N : Int) - 1) = false := decide_eq_false (by omega)
    subst hy
    clear h R
    go_enter Tryz.func94, Tryz.ntmps94
    go_wp2
    go_quiet (fail)
    go_wp2
    go_ret
    exact ⟨rfl, _, rfl⟩
  have hd1 : decide (z < (N : Int) - 1) = true := decide_eq_true (by omega)
  obtain ⟨q, rfl⟩ : ∃ q : Nat, z = (q : Int) := ⟨z.toNat, by omega⟩
  have hqU : q / 64 < nu := by omega
  obtain ⟨bu, rfl, hc, _⟩ := h.word hqU
  have hxb := getD_lt R.big (q / 64)
  have hBb := pow_lt64 (Nat.mod_lt q (show 0 < 64 by decide))
  have hpos : 0 < 2 ^ (q % 64) := Nat.pos_of_ne_zero (by simp)
  rw [← R.has] at hy
  have hand := bits_and_u64_nat (U.getD (q / 64) 0) (2 ^ (q % 64)) hxb hBb
  rw [and_pow] at hand
  have hb := fun W : World => (bit_any q (by omega) W).mono (R' := fun e w' => e = .returned (.int .u64 ((2 ^ (q % 64) : Nat) : Int)) ∧ w' = W) fun e w' h => ⟨h.1, h.2.symm⟩
  unfold hasB at hy
  rw [hy] at hand
  have hw2 : (q : Int).tdiv 64 = ((q / 64 : Nat) : Int) := by rw [Int.tdiv_eq_ediv_of_nonneg (by omega)]; omega
  have hw3 : IntKind.i64.wrap ((q / 64 : Nat) : Int) = ((q / 64 : Nat) : Int) := by rw [IntKind.wrap_i64]; omega
  have hiI : ((q / 64 : Nat) : Int) < (nu : Int) := by omega
  generalize U.getD (q / 64) 0 = x at *
  generalize q / 64 = i at *
  generalize 2 ^ (q % 64) = B at *
  clear R
  cases y
  · have hand2 : bits .and .u64 (x : Int) (B : Int) = 0 := by rw [hand]; simp
    clear hand h
    go_enter Tryz.func94, Tryz.ntmps94
    go_wp2
    go_quiet ((go_at_call 101; exact Calls.quiet_of_same (hb _)))
    go_wp2
    go_ret
    exact ⟨rfl, _, rfl⟩
  · have hand2 : bits .and .u64 (x : Int) (B : Int) = (B : Int) := by rw [hand]; simp
    have hBn : ((B : Int) == 0) = false := by simp; omega
    have hBn2 : ((B : Int) != 0) = true := by simp; omega
    clear hand h
    go_enter Tryz.func94, Tryz.ntmps94
    go_wp2
    go_quiet ((go_at_call 101; exact Calls.quiet_of_same (hb _)))
    go_wp2
    go_ret
    exact ⟨rfl, _, rfl⟩
theorem lleni_any (H : PLi col k w g m) : Calls Tryz.prog 86 #[.pointer (some ⟨g, 0, none⟩)] w fun e w' => e = .returned (.int .i64 m.l.length) ∧ w = w' := by
  obtain ⟨P, b, N, c, U, Au, nu, cu, M, R⟩ := H
  have x1 := M.c1
  clear M R
  go_enter Tryz.func86, Tryz.ntmps86
  go_wp2
  go_ret
  exact ⟨rfl, rfl⟩
set_option maxHeartbeats 1000000 in
theorem lfirsti_any (H : PLi col k w g m) : Calls Tryz.prog 79 #[.pointer (some ⟨g, 0, none⟩)] w fun e w' => e = .returned (.int .i64 m.first) ∧ ∃ j, w' = w.drewN j := by
  have hL := lleni_any H
  obtain ⟨P, b, N, c, U, Au, nu, cu, M, R⟩ := H
  have hl := M.len
  have x2 := M.c2
  obtain ⟨hcp, hcm⟩ := M.cap
  have hN1 := R.len1
  have h1 := R.first
  obtain ⟨q, hq⟩ : ∃ q, P[0]? = some q := ⟨_, List.getElem?_eq_getElem (by omega)⟩
  have h1' : (P[0]?).map (fun q => q.2.1) = some m.first := h1
  rw [hq] at h1'
  have hqf : q.2.1 = m.first := by injection h1'
  have hN : (0 : Int) < (N : Int) := by omega
  obtain ⟨_, y1, _, _⟩ := M.at_ hq
  rw [hqf] at y1
  have y1' : w.cell? ⟨b, 1, none⟩ = some (.int .i64 m.first) := by simpa using y1
  by_cases h0 : m.l.length = 0
  · have hF := firstC_nil h0
    rw [h0] at hL
    rw [hF]
    clear M R h1 h1' hqf y1 y1' hF hl h0
    go_enter Tryz.func79, Tryz.ntmps79
    go_wp2_with fail
    refine hL.mono ?_
    rintro e w1 ⟨rfl, hw⟩
    subst hw
    go_wp2
    go_ret
    exact ⟨rfl, 0, rfl⟩
  · have hne : ((m.l.length : Int) == 0) = false := by simp; intro e; rw [e] at h0; exact h0 rfl
    generalize m.first = F at *
    clear M R h1 h1' hqf y1 hl
    go_enter Tryz.func79, Tryz.ntmps79
    go_wp2_with fail
    refine hL.mono ?_
    rintro e w1 ⟨rfl, hw⟩
    subst hw
    go_wp2
    go_ret
    exact ⟨rfl, 0, rfl⟩
set_option maxHeartbeats 1000000 in
theorem llasti_any (H : PLi col k w g m) : Calls Tryz.prog 110 #[.pointer (some ⟨g, 0, none⟩)] w fun e w' => e = .returned (.int .i64 m.last) ∧ ∃ j, w' = w.drewN j := by
  have hL := lleni_any H
  obtain ⟨P, b, N, c, U, Au, nu, cu, M, R⟩ := H
  have hl := M.len
  have x2 := M.c2
  obtain ⟨hcp, hcm⟩ := M.cap
  have hN1 := R.len1
  have h1 := R.last
  obtain ⟨q, hq⟩ : ∃ q, P[0]? = some q := ⟨_, List.getElem?_eq_getElem (by omega)⟩
  have h1' : (P[0]?).map (fun q => q.1) = some m.last := h1
  rw [hq] at h1'
  have hqf : q.1 = m.last := by injection h1'
  have hN : (0 : Int) < (N : Int) := by omega
  obtain ⟨y0, _, _, _⟩ := M.at_ hq
  rw [hqf] at y0
  have y0' : w.cell? ⟨b, 0, none⟩ = some (.int .i64 m.last) := by simpa using y0
  by_cases h0 : m.l.length = 0
  · have hF := lastC_nil h0
    rw [h0] at hL
    rw [hF]
    clear M R h1 h1' hqf y0 y0' hF hl h0
    go_enter Tryz.func110, Tryz.ntmps110
    go_wp2_with fail
    refine hL.mono ?_
    rintro e w1 ⟨rfl, hw⟩
    subst hw
    go_wp2
    go_ret
    exact ⟨rfl, 0, rfl⟩
  · have hne : ((m.l.length : Int) == 0) = false := by simp; intro e; rw [e] at h0; exact h0 rfl
    generalize m.last = F at *
    clear M R h1 h1' hqf y0 hl
    go_enter Tryz.func110, Tryz.ntmps110
    go_wp2_with fail
    refine hL.mono ?_
    rintro e w1 ⟨rfl, hw⟩
    subst hw
    go_wp2
    go_ret
    exact ⟨rfl, 0, rfl⟩
set_option maxHeartbeats 1000000 in
theorem lnexti_any (H : PLi col k w g m) (ht : Tidy col w) {z : Int} (hz : J64 z) : Calls Tryz.prog 100 #[.pointer (some ⟨g, 0, none⟩), .int .i64 z] w fun e w' => e = .returned (.int .i64 (m.by_ z 1)) ∧ ∃ j, w' = w.drewN j := by
  obtain ⟨P, b, N, c, U, Au, nu, cu, M, R⟩ := H
  have hH := lhasi_any M R hz
  have hl := M.len
  obtain ⟨hcp, hcm⟩ := M.cap
  cases hp : placeC m.l z with
  | none =>
    rw [hp] at hH
    rw [by_off 1 hp]
    clear M R
    go_enter Tryz.func100, Tryz.ntmps100
    go_wp2_with fail
    refine hH.mono ?_
    rintro e w1 ⟨rfl, j, rfl⟩
    go_wp2
    go_ret
    exact ⟨rfl, j, rfl⟩
  | some i =>
    rw [hp] at hH
    have hN := R.next hp
    obtain ⟨q, rfl, hqP, hqU, hi, hr⟩ := R.on hp
    obtain ⟨y, hy⟩ : ∃ y, P[q + 1]? = some y := ⟨_, List.getElem?_eq_getElem hqP⟩
    have hN' : (P[((q : Int) + 1).toNat]?).map (fun q => q.2.1) = some (m.by_ (q : Int) 1) := hN
    rw [show ((q : Int) + 1).toNat = q + 1 by omega, hy] at hN'
    have hyf : y.2.1 = m.by_ (q : Int) 1 := by injection hN'
    have hN8 := R.lenN
    have hn8 := R.good.n8
    obtain ⟨B, hB⟩ : ∃ B, q + 1 = B := ⟨_, rfl⟩
    rw [hB] at hy
    have hw1 : IntKind.i64.wrap ((q : Int) + 1) = (B : Int) := by rw [IntKind.wrap_i64]; omega
    have hBI : (B : Int) < (N : Int) := by omega
    generalize m.by_ (q : Int) 1 = F at *
    have hM := fun j => M.drewN ht j
    clear hN hN' hB hqP hqU hi hr R hp
    go_enter Tryz.func100, Tryz.ntmps100
    go_wp2_with fail
    refine hH.mono ?_
    rintro e w1 ⟨rfl, j, rfl⟩
    have x2 := (hM j).c2
    obtain ⟨_, y1, _, _⟩ := (hM j).at_ hy
    rw [hyf] at y1
    clear hM M hyf hy
    go_wp2
    go_ret
    exact ⟨rfl, j, rfl⟩
set_option maxHeartbeats 1000000 in
theorem lprevi_any (H : PLi col k w g m) (ht : Tidy col w) {z : Int} (hz : J64 z) : Calls Tryz.prog 99 #[.pointer (some ⟨g, 0, none⟩), .int .i64 z] w fun e w' => e = .returned (.int .i64 (m.by_ z (-1))) ∧ ∃ j, w' = w.drewN j := by
  obtain ⟨P, b, N, c, U, Au, nu, cu, M, R⟩ := H
  have hH := lhasi_any M R hz
  have hl := M.len
  obtain ⟨hcp, hcm⟩ := M.cap
  cases hp : placeC m.l z with
  | none =>
    rw [hp] at hH
    rw [by_off (-1) hp]
    clear M R
    go_enter Tryz.func99, Tryz.ntmps99
    go_wp2_with fail
    refine hH.mono ?_
    rintro e w1 ⟨rfl, j, rfl⟩
    go_wp2
    go_ret
    exact ⟨rfl, j, rfl⟩
  | some i =>
    rw [hp] at hH
    have hN := R.prev hp
    obtain ⟨q, rfl, hqP, hqU, hi, hr⟩ := R.on hp
    obtain ⟨y, hy⟩ : ∃ y, P[q + 1]? = some y := ⟨_, List.getElem?_eq_getElem hqP⟩
    have hN' : (P[((q : Int) + 1).toNat]?).map (fun q => q.1) = some (m.by_ (q : Int) (-1)) := hN
    rw [show ((q : Int) + 1).toNat = q + 1 by omega, hy] at hN'
    have hyf : y.1 = m.by_ (q : Int) (-1) := by injection hN'
    have hN8 := R.lenN
    have hn8 := R.good.n8
    obtain ⟨B, hB⟩ : ∃ B, q + 1 = B := ⟨_, rfl⟩
    rw [hB] at hy
    have hw1 : IntKind.i64.wrap ((q : Int) + 1) = (B : Int) := by rw [IntKind.wrap_i64]; omega
    have hBI : (B : Int) < (N : Int) := by omega
    generalize m.by_ (q : Int) (-1) = F at *
    have hM := fun j => M.drewN ht j
    clear hN hN' hB hqP hqU hi hr R hp
    go_enter Tryz.func99, Tryz.ntmps99
    go_wp2_with fail
    refine hH.mono ?_
    rintro e w1 ⟨rfl, j, rfl⟩
    have x2 := (hM j).c2
    obtain ⟨y0, _, _, _⟩ := (hM j).at_ hy
    rw [hyf] at y0
    clear hM M hyf hy
    go_wp2
    go_ret
    exact ⟨rfl, j, rfl⟩
set_option maxHeartbeats 1000000 in
theorem lvaluei_any (H : PLi col k w g m) (ht : Tidy col w) {z : Int} (hz : J64 z) : Calls Tryz.prog 78 #[.pointer (some ⟨g, 0, none⟩), .int .i64 z] w fun e w' => e = .returned (.tuple #[(fun z : Int => Value.int .i64 z) (m.value (0 : Int) z).1, .int .i64 (m.value (0 : Int) z).2]) ∧ ∃ j, w' = w.drewN j := by
  obtain ⟨P, b, N, c, U, Au, nu, cu, M, R⟩ := H
  have hH := lhasi_any M R hz
  have hl := M.len
  obtain ⟨hcp, hcm⟩ := M.cap
  cases hp : placeC m.l z with
  | none =>
    rw [hp] at hH
    have hV : m.value (0 : Int) z = ((0 : Int), 8) := by unfold CSt.value; rw [hp]
    rw [hV]
    clear M R hV
    go_enter Tryz.func78, Tryz.ntmps78
    go_wp2_with fail
    refine hH.mono ?_
    rintro e w1 ⟨rfl, j, rfl⟩
    go_wp2
    go_ret2
    exact ⟨rfl, j, rfl⟩
  | some i =>
    rw [hp] at hH
    obtain ⟨q, rfl, hqP, hqU, hi, hr⟩ := R.on hp
    obtain ⟨p, hp1, hp2, _⟩ := place_some hp
    have hpq : p.1 = q := by omega
    have hV : m.value (0 : Int) (q : Int) = (p.2, 0) := by unfold CSt.value; rw [hp]; show (((m.l[i]?).map Prod.snd).getD _, (0 : Int)) = _; rw [hp1]; rfl
    have hN := R.val i p hp1
    obtain ⟨y, hy⟩ : ∃ y, P[q + 1]? = some y := ⟨_, List.getElem?_eq_getElem hqP⟩
    have hN' : (P[p.1 + 1]?).map (fun q => q.2.2) = some p.2 := hN
    rw [hpq, hy] at hN'
    have hyf : y.2.2 = p.2 := by injection hN'
    have hN8 := R.lenN
    have hn8 := R.good.n8
    obtain ⟨B, hB⟩ : ∃ B, q + 1 = B := ⟨_, rfl⟩
    rw [hB] at hy
    have hw1 : IntKind.i64.wrap ((q : Int) + 1) = (B : Int) := by rw [IntKind.wrap_i64]; omega
    have hBI : (B : Int) < (N : Int) := by omega
    rw [hV]
    obtain ⟨F, hF⟩ : ∃ F, p.2 = F := ⟨_, rfl⟩
    rw [hF] at hyf
    rw [hF]
    have hM := fun j => M.drewN ht j
    clear hN hN' hB hqP hqU hi hr R hp hV hp1 hp2 hpq hF
    go_enter Tryz.func78, Tryz.ntmps78
    go_wp2_with fail
    refine hH.mono ?_
    rintro e w1 ⟨rfl, j, rfl⟩
    have x2 := (hM j).c2
    obtain ⟨_, _, y2, _⟩ := (hM j).at_ hy
    rw [hyf] at y2
    have y2' : (w.drewN j).cell? ⟨b, B * 3 + 2, none⟩ = some ((fun z : Int => Value.int .i64 z) F) := y2
    clear hM M hyf hy y2
    go_wp2
    go_ret2
    exact ⟨rfl, j, rfl⟩
end
end Go.Proofs.YtlfhkhnhcckajaaGreatDoor

/- The program's lists of int values: take, insert. Conditions: none beyond those typed. -/
namespace Go.Proofs.YtlfhkhnhcckajaaGreatDoor
open Go.ChangeShapes Go.WideShapes Go.ChangeAt Go.RowKit
set_option linter.unusedVariables false
set_option linter.unusedSimpArgs false
set_option maxRecDepth 100000

section
variable {P' : Nat → Prop} {col col' : Col} {w w' w6 w7 : World} {k g n u b N c nu cu x : Nat} {Au : Option Addr} {P : List (Pn Int)} {U : List Nat} {i : Nat} {r : Pn Int} {m : CSt Int}
/-- A place more. -/
theorem Lxi.moreP (h : Lxi col k w g n u P b N c U Au nu cu) (ht : Tidy col w) {v7 : Value} {Q : List (Pn Int)} {N' : Nat} (hQ : Q.length = N' + 1) (O7 : OwnK kNi w7 v7 Q) (G7 : w.grownBy w7 (Value.slice (some ⟨b, 0, none⟩) N c).ownBlock) (hat7 : v7.ownBlock = (Value.slice (some ⟨b, 0, none⟩) N c).ownBlock ∨ v7.ownBlock = some w.heap.size) :
    ∃ b' c', v7 = .slice (some ⟨b', 0, none⟩) (N' + 1) c' ∧ w7.frozen? ⟨g, 2, none⟩ = false ∧ w7.cell? ⟨g, 2, none⟩ = some (.slice (some ⟨b, 0, none⟩) N c) ∧ ∃ col', Lxi col' k (w7.setCell ⟨g, 2, none⟩ v7) g n u Q b' (N' + 1) c' U Au nu cu ∧ StepC (Rng k) col w col' (w7.setCell ⟨g, 2, none⟩ v7) := by
  have S7 := StepC.app (P := fun c => c = k + 1) ht G7 h.row.col rfl hat7 O7.lt
  have hk := h.k1
  have B7 := h.box.keep S7 (by omega)
  obtain ⟨A7, c', rfl, _, hh⟩ := O7.form hQ
  obtain ⟨b', rfl, _⟩ : ∃ g, A7 = some ⟨g, 0, none⟩ ∧ g < w7.heap.size := by
    rcases hh with ⟨_, h2, _⟩ | h2
    · rw [h2] at hQ; simp at hQ
    · exact h2
  have R7 : OwnKc kNi _ w7 (k + 1) _ Q := OwnKc.mk' (col := col) (c := k + 1) kNi O7
  have s8 := StepC.set (P := fun d => d = k) S7.tidy (a := ⟨g, 2, none⟩) B7.col (.slice (some ⟨b', 0, none⟩) (N' + 1) c')
  exact ⟨b', c', rfl, B7.free 2, B7.cell 2 rfl, _, ⟨B7.put 2 _, R7.keep s8 (by omega), (h.wds.keep S7 (by omega)).keep s8 (by omega), (h.tab.keep S7 (by omega)).keep s8 (by omega), hk⟩,
    (S7.mono fun c e => ⟨by omega, by omega⟩).trans (s8.mono fun c e => ⟨by omega, by omega⟩)⟩
/-- A word more. -/
theorem Lxi.moreU (h : Lxi col k w g n u P b N c U Au nu cu) (ht : Tidy col w) {v7 : Value} {Q : List Nat} {N' : Nat} (hQ : Q.length = N' + 1) (O7 : OwnK kU w7 v7 (Q.map fun z : Nat => (z : Int))) (G7 : w.grownBy w7 (Value.slice Au nu cu).ownBlock) (hat7 : v7.ownBlock = (Value.slice Au nu cu).ownBlock ∨ v7.ownBlock = some w.heap.size) :
    ∃ b' c', v7 = .slice (some ⟨b', 0, none⟩) (N' + 1) c' ∧ w7.frozen? ⟨g, 3, none⟩ = false ∧ w7.cell? ⟨g, 3, none⟩ = some (.slice Au nu cu) ∧ ∃ col', Lxi col' k (w7.setCell ⟨g, 3, none⟩ v7) g n u P b N c Q (some ⟨b', 0, none⟩) (N' + 1) c' ∧ StepC (Rng k) col w col' (w7.setCell ⟨g, 3, none⟩ v7) := by
  have S7 := StepC.app (P := fun c => c = k + 2) ht G7 h.wds.col rfl hat7 O7.lt
  have hk := h.k1
  have B7 := h.box.keep S7 (by omega)
  obtain ⟨A7, c', rfl, _, hh⟩ := O7.form (n := N' + 1) (by rw [List.length_map]; exact hQ)
  obtain ⟨b', rfl, _⟩ : ∃ g, A7 = some ⟨g, 0, none⟩ ∧ g < w7.heap.size := by
    rcases hh with ⟨_, h2, _⟩ | h2
    · have := congrArg List.length h2; rw [List.length_map, List.length_nil] at this; omega
    · exact h2
  have R7 : OwnKc kU _ w7 (k + 2) _ (Q.map fun z : Nat => (z : Int)) := OwnKc.mk' (col := col) (c := k + 2) kU O7
  have s8 := StepC.set (P := fun d => d = k) S7.tidy (a := ⟨g, 3, none⟩) B7.col (.slice (some ⟨b', 0, none⟩) (N' + 1) c')
  exact ⟨b', c', rfl, B7.free 3, B7.cell 3 rfl, _, ⟨B7.put 3 _, (h.row.keep S7 (by omega)).keep s8 (by omega), R7.keep s8 (by omega), (h.tab.keep S7 (by omega)).keep s8 (by omega), hk⟩,
    (S7.mono fun c e => ⟨by omega, by omega⟩).trans (s8.mono fun c e => ⟨by omega, by omega⟩)⟩
/-- A place and a bit for number x are there. -/
def TookLi (col : Col) (k : Nat) (w : World) (g n u : Nat) (P : List (Pn Int)) (U : List Nat) (x : Nat) (w' : World) : Prop :=
  ∃ col' b N c Au nu cu, Lxi col' k w' g n u (morP (0 : Int) P x) b N c (putB (morU U x) x) Au nu cu ∧ StepC (Rng k) col w col' w'
/-- Where the places and the words are there: what is left is the bit. -/
theorem Lxi.ready {P1 : List (Pn Int)} {U1 : List Nat} (H : Lxi col' k w' g n u P1 b N c U1 Au nu cu) (hP1 : P1 = morP (0 : Int) P x) (hU1 : U1 = morU U x) (hs : StepC (Rng k) col w col' w') (hi : x / 64 = i) (hin : i < nu) (hU : ∀ u ∈ U, u < 18446744073709551616) :
    ∃ bu u0 y : Nat, Au = some ⟨bu, 0, none⟩ ∧ w'.cell? ⟨g, 3, none⟩ = some (.slice (some ⟨bu, 0, none⟩) nu cu) ∧ w'.cell? ⟨bu, i, none⟩ = some (.int .u64 (u0 : Int)) ∧ bits .or .u64 (u0 : Int) ((2 ^ (x % 64) : Nat) : Int) = (y : Int) ∧ w'.frozen? ⟨bu, i, none⟩ = false ∧
      ∀ j, TookLi col k w g n u P U x ((w'.drewN j).setCell ⟨bu, i, none⟩ (.int .u64 (y : Int))) := by
  subst hP1 hU1
  obtain ⟨bu, rfl, hc, fz⟩ := H.word hin
  have hb := getD_lt (morU_big (x := x) hU) i
  refine ⟨bu, (morU U x).getD i 0, (morU U x).getD i 0 ||| 2 ^ (x % 64), rfl, H.c3, hc, bits_or_u64_nat _ _ hb (pow_lt64 (Nat.mod_lt _ (by decide))), fz i, fun j => ?_⟩
  have ht := hs.tidy
  have H2 := H.drewN ht j
  have ht2 : Tidy col' (w'.drewN j) := ht
  have s2 : StepC (Rng k) col' w' col' (w'.drewN j) := StepC.below ht (below_drewN (Below.refl _ _) j)
  obtain ⟨H3, s3⟩ := H2.putU ht2 hin ((morU U x).getD i 0 ||| 2 ^ (x % 64))
  refine ⟨col', b, N, c, some ⟨bu, 0, none⟩, nu, cu, ?_, (hs.trans s2).trans (s3.mono fun c e => ⟨by omega, by omega⟩)⟩
  unfold putB
  rw [hi]
  exact H3
set_option maxHeartbeats 4000000 in
theorem ltakei_any (H : Lxi col k w g m.n m.l.length P b N c U Au nu cu) (R : Rp m P U) (ht : Tidy col w) (hn : m.l.length < m.n) (hx : freeN m.nodes = x) :
    Calls Tryz.prog 124 #[.pointer (some ⟨g, 0, none⟩)] w fun e w' => e = .returned (.int .i64 (x : Int)) ∧ TookLi col k w g m.n m.l.length P U x w' := by
  have hLs := lleasti_any H R.bit R.big (by rw [← H.lenU]; exact R.lenU)
  rw [hx] at hLs
  obtain ⟨f1, f2, f3, f4⟩ := R.free hn hx
  have hl := H.len
  have hlU := H.lenU
  have hN8 := R.lenN
  have hn8 := R.good.n8
  have hU8 := R.lenU
  have hN1 := R.len1
  have hUb := Lib.hid R.big
  have x2 := H.c2
  have x3 := H.c3
  obtain ⟨hcp, hcm⟩ := H.cap
  obtain ⟨hcpU, hcmU⟩ := H.capU
  obtain ⟨i, hi⟩ : ∃ i, x / 64 = i := ⟨_, rfl⟩
  have hw1 : IntKind.i64.wrap ((N : Int) - 1) = ((N : Int) - 1) := by rw [IntKind.wrap_i64]; omega
  have hw2 : (x : Int).tdiv 64 = (i : Int) := by rw [Int.tdiv_eq_ediv_of_nonneg (by omega)]; omega
  have hw3 : IntKind.i64.wrap (i : Int) = (i : Int) := by rw [IntKind.wrap_i64]; omega
  have hb := fun W : World => bit_any x (by omega) W
  have hHi := Lib.hid hi
  have hmP1 : x + 1 = P.length → P ++ [((0, 0, (0 : Int)) : Pn Int)] = morP (0 : Int) P x := fun h => (if_pos h).symm
  have hmP0 : x + 1 < P.length → P = morP (0 : Int) P x := fun h => (if_neg (by omega)).symm
  have hmU1 : i = U.length → U ++ [0] = morU U x := fun h => (if_pos (by omega)).symm
  have hmU0 : i < U.length → U = morU U x := fun h => (if_neg (by omega)).symm
  have hx1 : x + 1 = N ∨ x + 1 < N := by omega
  have hx2 : i = nu ∨ i < nu := by omega
  generalize hB : 2 ^ (x % 64) = B at hb
  have hHB := Lib.hid hB
  have hbS := fun W : World => (hb W).mono (R' := fun e w' => e = .returned (.int .u64 (B : Int)) ∧ w' = W) fun e w' h => ⟨h.1, h.2.symm⟩
  clear hB hb
  rcases hx1 with hx1 | hx1 <;> rcases hx2 with hx2 | hx2
  · have hI1 : ((x : Int) == (N : Int) - 1) = true := beq_iff_eq.2 (by omega)
    replace hx2 := hx2.symm
    subst hx2
    have hI2 : ((nu : Int) == (nu : Int)) = true := beq_iff_eq.2 rfl
    have hPm := Lib.hid (hmP1 (by omega))
    have hUm := Lib.hid (hmU1 (by omega))
    have hBd : Below w.heap.size w (w.alloc (.cells #[.int .i64 0, .int .i64 0, .int .i64 0] 142)) := (Below.refl _ _).alloc (Nat.le_refl _) _
    have H6 := H.below ht hBd
    have ht6 := ht.size hBd.size
    have S6 : StepC (Rng k) col w col (w.alloc (.cells #[.int .i64 0, .int .i64 0, .int .i64 0] 142)) := StepC.below ht hBd
    have rd6 : RdG kNi (w.alloc (.cells #[.int .i64 0, .int .i64 0, .int .i64 0] 142)) (some ⟨w.heap.size, 0, none⟩) 1 1 [(0, 0, (0 : Int))] := RdG.one' kNi rfl _
    have oN := H6.row.own
    have hby : P.length + 1 ≤ 1000000000 := by omega
    have hlS : (P ++ [((0, 0, (0 : Int)) : Pn Int)]).length = N + 1 := by simp [hl]
    have HH6 := Lib.hid H6
    have hapU : (U.map fun z : Nat => (z : Int)) ++ [(0 : Int)] = (U ++ [0]).map fun z : Nat => (z : Int) := by simp
    have hby2 : (U.map fun z : Nat => (z : Int)).length + 1 ≤ 1000000000 := by rw [List.length_map]; omega
    have hlS2 : (U ++ [0]).length = nu + 1 := by simp [hlU]
    have hinI : (nu : Int) < (nu : Int) + 1 := by omega
    have hin : nu < nu + 1 := by omega
    clear H H6 f1 hmP1 hmP0 hmU1 hmU0 hi R hx f2 f3 f4 hN1 hn hN8 hl
    go_enter Tryz.func124, Tryz.ntmps124
    go_wp2_with fail
    refine hLs.mono ?_
    rintro e w1 ⟨rfl, hw⟩
    subst hw
    clear hLs
    go_wp2_with (first | (at_builtin; refine wpList_appK kNi rfl (.tmp 18) (.tmp 20) rfl _ P rfl _ 1 1 [(0, 0, (0 : Int))] rfl oN rd6 hby ?_; intro v7 w7 O7 G7 hat7; obtain ⟨b7, c7, rfl, fz7, cc7, col8, H8, S8⟩ := HH6.out.moreP ht6 hlS O7 G7 hat7; have q3 := H8.c3; have HH8 := Lib.hid (And.intro H8 (S6.trans S8)); clear H8 S8 S6 O7 G7 hat7 oN rd6; have H9 := HH8.out.1.below HH8.out.2.tidy ((Below.refl _ _).alloc (Nat.le_refl _) (.cells #[.int .u64 0] 30)); have s9 : StepC (Rng k) _ _ _ _ := StepC.below HH8.out.2.tidy ((Below.refl _ _).alloc (Nat.le_refl _) (.cells #[.int .u64 0] 30)); have HS9 := Lib.hid (HH8.out.2.trans s9); have ht9 := s9.tidy; have rd9 : RdG kU _ (some ⟨w7.heap.size, 0, none⟩) 1 1 [(0 : Int)] := RdG.one' kU (w := w7.setCell ⟨g, 2, none⟩ (.slice (some ⟨b7, 0, none⟩) (N + 1 : Nat) c7)) (by simp [World.setCell]) _; have oU9 := H9.wds.own; have HH9 := Lib.hid H9; clear H9 s9) | (at_builtin; refine wpList_appK kU rfl (.tmp 36) (.tmp 37) rfl _ (U.map fun z : Nat => (z : Int)) rfl _ 1 1 [(0 : Int)] rfl oU9 rd9 hby2 ?_; intro v9 w9 O9 G9 hat9; rw [hapU] at O9; obtain ⟨b10, c10, rfl, fz10, cc10, col10, H10, S10⟩ := HH9.out.moreU ht9 hlS2 O9 G9 hat9; have q10 := H10.c3; have HH10 := Lib.hid (And.intro H10 S10); clear H10 S10 O9 G9 hat9 oU9 rd9))
    obtain ⟨bu, u0, y, hAu, r3, rc, hor, frz, HT0⟩ := HH10.out.1.ready hPm.out hUm.out (HS9.out.trans HH10.out.2) hHi.out hin hUb.out
    obtain rfl : b10 = bu := by injection hAu with h; injection h
    clear q10 fz10 cc10 HH9 HH10 ht9 HS9 x2 x3 hAu
    rw [hHB.out] at hor
    have HT := Lib.hid HT0
    clear HT0
    generalize w9.setCell _ _ = W9 at *
    go_still_tail 12, (by kernel_rfl)
    still_call (hbS _)
    repeat still_step
    refine wpStill_nil ?_
    change wpList _ _ _ _ _ (World.drew _)
    go_wp2
    go_ret
    exact ⟨rfl, HT.out 1⟩
  · have hI1 : ((x : Int) == (N : Int) - 1) = true := beq_iff_eq.2 (by omega)
    have hI2 : ((i : Int) == (nu : Int)) = false := beq_false_of_ne (by omega)
    obtain ⟨bu, rfl, _⟩ := H.word hx2
    have hPm := Lib.hid (hmP1 (by omega))
    have hUm := Lib.hid (hmU0 (by omega))
    have hBd : Below w.heap.size w (w.alloc (.cells #[.int .i64 0, .int .i64 0, .int .i64 0] 142)) := (Below.refl _ _).alloc (Nat.le_refl _) _
    have H6 := H.below ht hBd
    have ht6 := ht.size hBd.size
    have S6 : StepC (Rng k) col w col (w.alloc (.cells #[.int .i64 0, .int .i64 0, .int .i64 0] 142)) := StepC.below ht hBd
    have rd6 : RdG kNi (w.alloc (.cells #[.int .i64 0, .int .i64 0, .int .i64 0] 142)) (some ⟨w.heap.size, 0, none⟩) 1 1 [(0, 0, (0 : Int))] := RdG.one' kNi rfl _
    have oN := H6.row.own
    have hby : P.length + 1 ≤ 1000000000 := by omega
    have hlS : (P ++ [((0, 0, (0 : Int)) : Pn Int)]).length = N + 1 := by simp [hl]
    have HH6 := Lib.hid H6
    have hinI : (i : Int) < (nu : Int) := by omega
    have hin : i < nu := by omega
    clear H H6 f1 hmP1 hmP0 hmU1 hmU0 hi R hx f2 f3 f4 hN1 hn hN8 hl
    go_enter Tryz.func124, Tryz.ntmps124
    go_wp2_with fail
    refine hLs.mono ?_
    rintro e w1 ⟨rfl, hw⟩
    subst hw
    clear hLs
    go_wp2_with (at_builtin; refine wpList_appK kNi rfl (.tmp 18) (.tmp 20) rfl _ P rfl _ 1 1 [(0, 0, (0 : Int))] rfl oN rd6 hby ?_; intro v7 w7 O7 G7 hat7; obtain ⟨b7, c7, rfl, fz7, cc7, col8, H8, S8⟩ := HH6.out.moreP ht6 hlS O7 G7 hat7; have q3 := H8.c3; have HH8 := Lib.hid (And.intro H8 (S6.trans S8)); clear H8 S8 S6 O7 G7 hat7 oN rd6)
    obtain ⟨bu2, u0, y, hAu, r3, rc, hor, frz, HT0⟩ := HH8.out.1.ready hPm.out hUm.out HH8.out.2 hHi.out hin hUb.out
    injection hAu with hAu
    injection hAu with hAu
    subst hAu
    clear q3 fz7 cc7 HH8 x2 x3 HH6 hBd ht6
    rw [hHB.out] at hor
    have HT := Lib.hid HT0
    clear HT0
    generalize w7.setCell _ _ = W9 at *
    go_still_tail 12, (by kernel_rfl)
    still_call (hbS _)
    repeat still_step
    refine wpStill_nil ?_
    change wpList _ _ _ _ _ (World.drew _)
    go_wp2
    go_ret
    exact ⟨rfl, HT.out 1⟩
  · have hI1 : ((x : Int) == (N : Int) - 1) = false := beq_false_of_ne (by omega)
    replace hx2 := hx2.symm
    subst hx2
    have hI2 : ((nu : Int) == (nu : Int)) = true := beq_iff_eq.2 rfl
    have hPm := Lib.hid (hmP0 (by omega))
    have hUm := Lib.hid (hmU1 (by omega))
    have hapU : (U.map fun z : Nat => (z : Int)) ++ [(0 : Int)] = (U ++ [0]).map fun z : Nat => (z : Int) := by simp
    have hby2 : (U.map fun z : Nat => (z : Int)).length + 1 ≤ 1000000000 := by rw [List.length_map]; omega
    have hlS2 : (U ++ [0]).length = nu + 1 := by simp [hlU]
    have hinI : (nu : Int) < (nu : Int) + 1 := by omega
    have hin : nu < nu + 1 := by omega
    have hB9 : Below w.heap.size w (w.alloc (.cells #[.int .u64 0] 30)) := (Below.refl _ _).alloc (Nat.le_refl _) _
    have H9 := H.below ht hB9
    have s9 : StepC (Rng k) col w col (w.alloc (.cells #[.int .u64 0] 30)) := StepC.below ht hB9
    have HS9 := Lib.hid s9
    have ht9 := s9.tidy
    have rd9 : RdG kU (w.alloc (.cells #[.int .u64 0] 30)) (some ⟨w.heap.size, 0, none⟩) 1 1 [(0 : Int)] := RdG.one' kU rfl _
    have oU9 := H9.wds.own
    have HH9 := Lib.hid H9
    clear H H9 s9 f1 hmP1 hmP0 hmU1 hmU0 hi R hx f2 f3 f4 hN1 hn hN8 hl
    go_enter Tryz.func124, Tryz.ntmps124
    go_wp2_with fail
    refine hLs.mono ?_
    rintro e w1 ⟨rfl, hw⟩
    subst hw
    clear hLs
    go_wp2_with (at_builtin; refine wpList_appK kU rfl (.tmp 36) (.tmp 37) rfl _ (U.map fun z : Nat => (z : Int)) rfl _ 1 1 [(0 : Int)] rfl oU9 rd9 hby2 ?_; intro v9 w9 O9 G9 hat9; rw [hapU] at O9; obtain ⟨b10, c10, rfl, fz10, cc10, col10, H10, S10⟩ := HH9.out.moreU ht9 hlS2 O9 G9 hat9; have q10 := H10.c3; have HH10 := Lib.hid (And.intro H10 S10); clear H10 S10 O9 G9 hat9 oU9 rd9)
    obtain ⟨bu, u0, y, hAu, r3, rc, hor, frz, HT0⟩ := HH10.out.1.ready hPm.out hUm.out (HS9.out.trans HH10.out.2) hHi.out hin hUb.out
    obtain rfl : b10 = bu := by injection hAu with h; injection h
    clear q10 fz10 cc10 HH9 HH10 ht9 HS9 x2 x3 hAu
    rw [hHB.out] at hor
    have HT := Lib.hid HT0
    clear HT0
    generalize w9.setCell _ _ = W9 at *
    go_still_tail 12, (by kernel_rfl)
    still_call (hbS _)
    repeat still_step
    refine wpStill_nil ?_
    change wpList _ _ _ _ _ (World.drew _)
    go_wp2
    go_ret
    exact ⟨rfl, HT.out 1⟩
  · have hI1 : ((x : Int) == (N : Int) - 1) = false := beq_false_of_ne (by omega)
    have hI2 : ((i : Int) == (nu : Int)) = false := beq_false_of_ne (by omega)
    have hPm := hmP0 (by omega)
    have hUm := hmU0 (by omega)
    have hinI : (i : Int) < (nu : Int) := by omega
    have hin : i < nu := by omega
    obtain ⟨bu, u0, y, rfl, r3, rc, hor, frz, HT0⟩ := H.ready hPm hUm (StepC.refl ht) hHi.out hin hUb.out
    rw [hHB.out] at hor
    have HT := Lib.hid HT0
    clear HT0
    clear H hPm hUm f1 hmP1 hmP0 hmU1 hmU0 hi R hx f2 f3 f4 hN1 hn hN8 hl r3
    go_enter Tryz.func124, Tryz.ntmps124
    go_wp2_with fail
    refine hLs.mono ?_
    rintro e w1 ⟨rfl, hw⟩
    subst hw
    clear hLs
    go_wp2
    have r3 := x3
    go_still_tail 12, (by kernel_rfl)
    still_call (hbS _)
    repeat still_step
    refine wpStill_nil ?_
    change wpList _ _ _ _ _ (World.drew _)
    go_wp2
    go_ret
    exact ⟨rfl, HT.out 1⟩
set_option maxHeartbeats 4000000 in
theorem linserti_any (H : PLi col k w g m) (ht : Tidy col w) {a : Int} (ha : a = rg m.nodes i) (hi : i ≤ m.l.length) (v : Int) :
    Calls Tryz.prog 109 #[.pointer (some ⟨g, 0, none⟩), .int .i64 a, (fun z : Int => Value.int .i64 z) v] w (AddOut PLi col k w g (m.ins i v)) := by
  have H0 := H
  obtain ⟨P, b, N, c, U, Au, nu, cu, M, R⟩ := H
  have hn8 := R.good.n8
  have hlen := R.good.len
  have hN8 := R.lenN
  have x0 := M.c0
  have x1 := M.c1
  have HM := fun j => M.drewN ht j
  by_cases hfull : m.l.length = m.n
  · have hfI : ((m.l.length : Int) == (m.n : Int)) = true := beq_iff_eq.2 (by omega)
    rw [insC_full hfull]
    have HD := Lib.hid (show ∀ j, DidPL PLi col k w g m (w.drewN j) from fun j => ⟨col, H0.below ht (below_drewN (Below.refl _ _) j), StepC.below ht (below_drewN (Below.refl _ _) j)⟩)
    clear M R HM H0 ha hfull hlen
    go_enter Tryz.func109, Tryz.ntmps109
    go_wp2
    go_quiet (fail)
    go_wp2
    go_ret2
    exact ⟨rfl, HD.out _⟩
  · have hfI : ((m.l.length : Int) == (m.n : Int)) = false := beq_false_of_ne (by omega)
    obtain ⟨x, hx⟩ : ∃ x, freeN m.nodes = x := ⟨_, rfl⟩
    have hn : m.l.length < m.n := by omega
    obtain ⟨l1, l2, l3⟩ := morP_len (z0 := (0 : Int)) R hn hx
    obtain ⟨hr1, hr2⟩ := R.ring i hi
    rw [insC_room hfull hx]
    have hTk := fun j => ltakei_any (HM j) R ht hn hx
    have RI := Lib.hid (R.ins (z0 := (0 : Int)) hn hx hi v)
    obtain ⟨q, hq, hqf, hql⟩ := nN_place (morP_n (z0 := (0 : Int)) (x := x) hr1)
    obtain ⟨_, _, _, hql2⟩ := pN_place (morP_p (z0 := (0 : Int)) (x := x) hr2)
    have hga := rg_ge m.nodes i
    have hgd := rg_ge m.nodes (i + 1)
    rw [← ha] at hq hql RI hga
    obtain ⟨d, hd⟩ : ∃ d, rg m.nodes (i + 1) = d := ⟨_, rfl⟩
    rw [hd] at hqf hql2 RI hgd
    obtain ⟨A, hA⟩ : ∃ A, (a + 1).toNat = A := ⟨_, rfl⟩
    have hwA : IntKind.i64.wrap (a + 1) = (A : Int) := by rw [IntKind.wrap_i64]; omega
    obtain ⟨X, hX⟩ : ∃ X, x + 1 = X := ⟨_, rfl⟩
    have hwX : IntKind.i64.wrap ((x : Int) + 1) = (X : Int) := by rw [IntKind.wrap_i64]; omega
    obtain ⟨u1, hu1⟩ : ∃ u1, m.l.length + 1 = u1 := ⟨_, rfl⟩
    have hwu : IntKind.i64.wrap ((m.l.length : Int) + 1) = (u1 : Int) := by rw [IntKind.wrap_i64]; omega
    have hins := ins_len m.l i v
    rw [hA] at hq
    have hxa : (((x : Int)) + 1).toNat = X := by omega
    clear hr1 hr2 R ha hd M H0
    go_enter Tryz.func109, Tryz.ntmps109
    go_wp2
    go_quiet (fail)
    go_wp2_with fail
    refine (hTk _).mono ?_
    rintro e w1 ⟨rfl, col1, b1, N1, c1, Au1, nu1, cu1, M1, s1⟩
    have s0 : ∀ j, StepC (Rng k) col w col (w.drewN j) := fun j => StepC.below ht (below_drewN (Below.refl _ _) j)
    have S1 := (s0 _).trans s1
    clear hTk HM s1 s0
    have hN1 := M1.len
    obtain ⟨hcp1, hcm1⟩ := M1.cap
    have y2 := M1.c2
    obtain ⟨_, z1, _, _⟩ := M1.at_ hq
    rw [hqf] at z1
    have hAI : (A : Int) < (N1 : Int) := by omega
    have J1 := ljoini_any M1 S1.tidy hga (show (-1 : Int) ≤ (x : Int) by omega) (by omega) (by omega) (by omega)
    clear M1
    go_wp2_with fail
    refine J1.mono ?_
    rintro e w2 ⟨rfl, M2, s2⟩
    have S2 := S1.trans s2
    have J2 := ljoini_any M2 S2.tidy (show (-1 : Int) ≤ (x : Int) by omega) hgd (by omega) (by omega) (by omega)
    clear M2 J1 s2 y2 z1
    go_wp2_with fail
    refine J2.mono ?_
    rintro e w3 ⟨rfl, M3, s3⟩
    have S3 := S2.trans s3
    clear J2 s3
    have hP3 : X < (joinP (joinP (morP (0 : Int) P x) a x) x d).length := by rw [join_len, join_len]; omega
    obtain ⟨q3, hq3⟩ : ∃ q, (joinP (joinP (morP (0 : Int) P x) a x) x d)[X]? = some q := ⟨_, List.getElem?_eq_getElem hP3⟩
    have y2 := M3.c2
    obtain ⟨_, _, _, fz3⟩ := M3.at_ hq3
    have fz := fz3 (X * 3 + 2)
    have hXI : (X : Int) < (N1 : Int) := by omega
    obtain ⟨M4, s4⟩ := M3.put S3.tidy hq3 (j := 2) (v := (fun z : Int => Value.int .i64 z) v) (r' := (q3.1, q3.2.1, v)) (by omega) rfl
    have S4 := S3.trans (s4.mono (P' := Rng k) fun c e => ⟨by omega, by omega⟩)
    have hp : (joinP (joinP (morP (0 : Int) P x) a x) x d).set X (q3.1, q3.2.1, v) = insP (0 : Int) P x a d v := by unfold insP; rw [hX, modN_set hq3]
    rw [hp] at M4
    have y1 := M4.c1
    have f1 := M4.box.free 1
    obtain ⟨M5, s5⟩ := M4.cnt S4.tidy u1
    have S5 := S4.trans (s5.mono (P' := Rng k) fun c e => ⟨by omega, by omega⟩)
    have HD := Lib.hid (show DidPL PLi col k w g ({ m with l := insC m.l i v } : CSt Int) _ from ⟨_, ⟨_, b1, N1, c1, _, Au1, nu1, cu1, by rw [show ({ m with l := insC m.l i v } : CSt Int).l.length = u1 by rw [← hu1]; exact hins]; exact M5, RI.out⟩, S5⟩)
    clear M3 M4 M5 S1 S2 S3 S4 S5 s4 s5 RI hp hq3 hP3 fz3 hq hins hcp1 hN1
    go_wp2
    go_ret2
    exact ⟨rfl, HD.out⟩
end
end Go.Proofs.YtlfhkhnhcckajaaGreatDoor

/- The program's lists of int values: Remove. Conditions: none beyond those typed. -/
namespace Go.Proofs.YtlfhkhnhcckajaaGreatDoor
open Go.ChangeShapes Go.WideShapes Go.ChangeAt Go.RowKit
set_option linter.unusedVariables false
set_option linter.unusedSimpArgs false
set_option maxRecDepth 100000

section
variable {P' : Nat → Prop} {col col' : Col} {w w' : World} {k g n u b N c nu cu x : Nat} {Au : Option Addr} {P : List (Pn Int)} {U : List Nat} {i : Nat} {r : Pn Int} {m : CSt Int}
/-- A place is cleared. -/
theorem Lxi.zero (h : Lxi col k w g n u P b N c U Au nu cu) (ht : Tidy col w) (hr : P[i]? = some r) :
    Lxi col k (((w.setCell ⟨b, i * 3, none⟩ (.int .i64 0)).setCell ⟨b, i * 3 + 1, none⟩ (.int .i64 0)).setCell ⟨b, i * 3 + 2, none⟩ ((fun z : Int => Value.int .i64 z) (0 : Int))) g n u (P.set i (0, 0, (0 : Int))) b N c U Au nu cu ∧
      StepC (Rng k) col w col (((w.setCell ⟨b, i * 3, none⟩ (.int .i64 0)).setCell ⟨b, i * 3 + 1, none⟩ (.int .i64 0)).setCell ⟨b, i * 3 + 2, none⟩ ((fun z : Int => Value.int .i64 z) (0 : Int))) := by
  have hi := (List.getElem?_eq_some_iff.1 hr).1
  obtain ⟨h1, s1⟩ := h.put ht hr (j := 0) (v := .int .i64 0) (r' := (0, r.2)) (by omega) rfl
  rw [Nat.add_zero] at h1 s1
  obtain ⟨h2, s2⟩ := h1.put s1.tidy (r := (0, r.2)) (by rw [List.getElem?_set, if_pos rfl, if_pos hi]) (j := 1) (v := .int .i64 0) (r' := (0, 0, r.2.2)) (by omega) rfl
  rw [List.set_set] at h2
  obtain ⟨h3, s3⟩ := h2.put s2.tidy (r := (0, 0, r.2.2)) (by rw [List.getElem?_set, if_pos rfl, if_pos hi]) (j := 2) (v := (fun z : Int => Value.int .i64 z) (0 : Int)) (r' := (0, 0, (0 : Int))) (by omega) rfl
  rw [List.set_set] at h3
  exact ⟨h3, ((s1.trans s2).trans s3).mono fun c e => ⟨by omega, by omega⟩⟩
/-- What is left is the bit and the number of nodes. -/
theorem Lxi.drop (H : Lxi col' k w' g n u P b N c U Au nu cu) (hs : StepC (Rng k) col w col' w') (hi : x / 64 = i) (hin : i < nu) (hU : ∀ u ∈ U, u < 18446744073709551616) (u1 : Nat) :
    ∃ bu u0 y : Nat, Au = some ⟨bu, 0, none⟩ ∧ w'.cell? ⟨g, 3, none⟩ = some (.slice (some ⟨bu, 0, none⟩) nu cu) ∧ w'.cell? ⟨bu, i, none⟩ = some (.int .u64 (u0 : Int)) ∧ bits .andNot .u64 (u0 : Int) ((2 ^ (x % 64) : Nat) : Int) = (y : Int) ∧ w'.frozen? ⟨bu, i, none⟩ = false ∧
      ∀ j, ((w'.drewN j).setCell ⟨bu, i, none⟩ (.int .u64 (y : Int))).cell? ⟨g, 1, none⟩ = some (.int .i64 u) ∧ ((w'.drewN j).setCell ⟨bu, i, none⟩ (.int .u64 (y : Int))).frozen? ⟨g, 1, none⟩ = false ∧
        Lxi col' k (((w'.drewN j).setCell ⟨bu, i, none⟩ (.int .u64 (y : Int))).setCell ⟨g, 1, none⟩ (.int .i64 (u1 : Int))) g n u1 P b N c (delB U x) Au nu cu ∧
        StepC (Rng k) col w col' (((w'.drewN j).setCell ⟨bu, i, none⟩ (.int .u64 (y : Int))).setCell ⟨g, 1, none⟩ (.int .i64 (u1 : Int))) := by
  obtain ⟨bu, rfl, hc, fz⟩ := H.word hin
  have hb := getD_lt hU i
  refine ⟨bu, U.getD i 0, U.getD i 0 &&& (18446744073709551615 - 2 ^ (x % 64)), rfl, H.c3, hc, u64_andNot_nat _ _ hb (pow_lt64 (Nat.mod_lt _ (by decide))), fz i, fun j => ?_⟩
  have ht := hs.tidy
  have H2 := H.drewN ht j
  have ht2 : Tidy col' (w'.drewN j) := ht
  have s2 : StepC (Rng k) col' w' col' (w'.drewN j) := StepC.below ht (below_drewN (Below.refl _ _) j)
  obtain ⟨H3, s3⟩ := H2.putU ht2 hin (U.getD i 0 &&& (18446744073709551615 - 2 ^ (x % 64)))
  obtain ⟨H4, s4⟩ := H3.cnt s3.tidy u1
  refine ⟨H3.c1, H3.box.free 1, ?_, ((hs.trans s2).trans (s3.mono fun c e => ⟨by omega, by omega⟩)).trans (s4.mono fun c e => ⟨by omega, by omega⟩)⟩
  unfold delB
  rw [hi]
  exact H4
set_option maxHeartbeats 4000000 in
theorem lremi_any (H : PLi col k w g m) (ht : Tidy col w) {z : Int} (hz : J64 z) :
    Calls Tryz.prog 85 #[.pointer (some ⟨g, 0, none⟩), .int .i64 z] w fun e w' => e = .returned (.tuple #[(fun z : Int => Value.int .i64 z) (m.value (0 : Int) z).1, .int .i64 (m.value (0 : Int) z).2]) ∧ DidPL PLi col k w g (m.rem z) w' := by
  have H0 := H
  have hVl := lvaluei_any H ht hz
  have HB : ∀ j, PLi col k (w.drewN j) g m := fun j => H.below ht (below_drewN (Below.refl _ _) j)
  have hSB : ∀ j, StepC (Rng k) col w col (w.drewN j) := fun j => StepC.below ht (below_drewN (Below.refl _ _) j)
  have hPr := fun j => lprevi_any (HB j) ht hz
  have hNx := fun j => lnexti_any (HB j) ht hz
  obtain ⟨P, b, N, c, U, Au, nu, cu, M, R⟩ := H
  cases hp : placeC m.l z with
  | none =>
    have hV : m.value (0 : Int) z = ((0 : Int), 8) := by unfold CSt.value; rw [hp]
    have hR : m.rem z = m := by unfold CSt.rem; rw [hp]
    rw [hV] at hVl ⊢
    rw [hR]
    have HD := Lib.hid (show ∀ j, DidPL PLi col k w g m (w.drewN j) from fun j => ⟨col, HB j, hSB j⟩)
    clear hPr hNx M R HB hSB hV hR H0
    go_enter Tryz.func85, Tryz.ntmps85
    go_wp2_with fail
    refine hVl.mono ?_
    rintro e w1 ⟨rfl, j, rfl⟩
    go_wp2
    go_ret2
    exact ⟨rfl, HD.out j⟩
  | some i =>
    have hN1' := R.next hp
    have hP1' := R.prev hp
    obtain ⟨q, rfl, hqP, hqU, hi, hr⟩ := R.on hp
    obtain ⟨p, hp1, hp2, _⟩ := place_some hp
    have hV : m.value (0 : Int) (q : Int) = (p.2, 0) := by unfold CSt.value; rw [hp]; show (((m.l[i]?).map Prod.snd).getD _, (0 : Int)) = _; rw [hp1]; rfl
    obtain ⟨RR, _, _⟩ := R.rem hp (0 : Int)
    have hlen : (m.rem (q : Int)).l.length + 1 = m.l.length := by
      unfold CSt.rem; rw [hp]; show (remC m.l i).length + 1 = _; unfold remC; rw [List.length_append, List.length_take, List.length_drop]; omega
    have hmn : (m.rem (q : Int)).n = m.n := by unfold CSt.rem; rw [hp]
    have e1 : m.by_ (q : Int) (-1) = rg m.nodes i := by
      have h1 := (R.ring i (by omega)).2
      rw [hr, hP1'] at h1
      injection h1
    have e2 : m.by_ (q : Int) 1 = rg m.nodes (i + 2) := by
      have h1 := (R.ring (i + 1) (by omega)).1
      rw [hr, hN1'] at h1
      injection h1
    obtain ⟨_, _, _, hla⟩ := nN_place (R.ring i (by omega)).1
    obtain ⟨_, _, _, hld⟩ := pN_place (R.ring (i + 1) (by omega)).2
    have hga := rg_ge m.nodes i
    have hgd := rg_ge m.nodes (i + 2)
    have hlP := M.len
    have hlU := M.lenU
    have hN8 := R.lenN
    have hn8 := R.good.n8
    have hgl := R.good.len
    rw [hV] at hVl ⊢
    obtain ⟨F, hF⟩ : ∃ F, p.2 = F := ⟨_, rfl⟩
    rw [hF] at hVl ⊢
    rw [e1] at hPr
    rw [e2] at hNx
    rw [show i + 1 + 1 = i + 2 from rfl] at hld
    have RI := Lib.hid RR
    obtain ⟨a, ha⟩ : ∃ a, rg m.nodes i = a := ⟨_, rfl⟩
    obtain ⟨d, hd⟩ : ∃ d, rg m.nodes (i + 2) = d := ⟨_, rfl⟩
    rw [ha] at hPr hga hla RI
    rw [hd] at hNx hgd hld RI
    obtain ⟨X, hX⟩ : ∃ X, q + 1 = X := ⟨_, rfl⟩
    have hwX : IntKind.i64.wrap ((q : Int) + 1) = (X : Int) := by rw [IntKind.wrap_i64]; omega
    rw [hX] at RI
    obtain ⟨y, hy⟩ : ∃ y, q / 64 = y := ⟨_, rfl⟩
    have hw2 : (q : Int).tdiv 64 = (y : Int) := by rw [Int.tdiv_eq_ediv_of_nonneg (by omega)]; omega
    have hw3 : IntKind.i64.wrap (y : Int) = (y : Int) := by rw [IntKind.wrap_i64]; omega
    obtain ⟨u1, hu1⟩ : ∃ u1, (m.rem (q : Int)).l.length = u1 := ⟨_, rfl⟩
    have hwu : IntKind.i64.wrap ((m.l.length : Int) - 1) = (u1 : Int) := by rw [IntKind.wrap_i64]; omega
    have hyI : (y : Int) < (nu : Int) := by omega
    have hbS := fun W : World => (bit_any q (by omega) W).mono (R' := fun e w' => e = .returned (.int .u64 ((2 ^ (q % 64) : Nat) : Int)) ∧ w' = W) fun e w' h => ⟨h.1, h.2.symm⟩
    have hUb := Lib.hid R.big
    have HM := fun j => M.drewN ht j
    obtain ⟨bu, rfl, _⟩ := M.word (i := y) (by omega)
    clear hN1' hP1' hr hi hp hp1 hp2 hV hF R RR e1 e2 HB M H0 ha hd
    go_enter Tryz.func85, Tryz.ntmps85
    go_wp2_with fail
    refine hVl.mono ?_
    rintro e w1 ⟨rfl, j1, rfl⟩
    clear hVl
    go_wp2_with fail
    refine (hPr _).mono ?_
    rintro e w2 ⟨rfl, j2, rfl⟩
    clear hPr
    rw [World.drewN_drewN]
    go_wp2_with fail
    refine (hNx _).mono ?_
    rintro e w3 ⟨rfl, j3, rfl⟩
    clear hNx
    rw [World.drewN_drewN]
    have M1 := HM (j1 + j2 + j3)
    have S1 := hSB (j1 + j2 + j3)
    clear HM hSB
    have J1 := ljoini_any M1 S1.tidy hga hgd (by omega) (by omega) (by omega)
    clear M1
    go_wp2_with fail
    refine J1.mono ?_
    rintro e w4 ⟨rfl, M2, s2⟩
    have S2 := S1.trans s2
    clear J1 s2 S1
    have hP3 : X < (joinP P a d).length := by rw [join_len]; omega
    obtain ⟨q3, hq3⟩ : ∃ q, (joinP P a d)[X]? = some q := ⟨_, List.getElem?_eq_getElem hP3⟩
    have y2 := M2.c2
    obtain ⟨hcp1, hcm1⟩ := M2.cap
    obtain ⟨z0, z1, z2, fz3⟩ := M2.at_ hq3
    have fz := fz3 (X * 3)
    have fz' := fz3 (X * 3 + 1)
    have fz'' := fz3 (X * 3 + 2)
    have hXI : (X : Int) < (N : Int) := by omega
    obtain ⟨M3, s3⟩ := M2.zero S2.tidy hq3
    have S3 := S2.trans s3
    obtain ⟨bu2, u0, y0, hAu, r3, rc, hor, frz, HT⟩ := M3.drop S3 hy (by omega) hUb.out u1
    injection hAu with hAu
    injection hAu with hAu
    subst hAu
    obtain ⟨t1, tf, M5, S5⟩ := HT 1
    have HD := Lib.hid (show DidPL PLi col k w g (m.rem (q : Int)) _ from ⟨_, ⟨_, b, N, c, _, some ⟨bu, 0, none⟩, nu, cu, by rw [hmn, hu1]; exact M5, RI.out⟩, S5⟩)
    clear HT M2 M3 M5 S2 S3 S5 s3 hq3 hP3 RI
    go_wp2
    generalize ((w4.setCell _ _).setCell _ _).setCell _ _ = W5 at *
    generalize 2 ^ (q % 64) = B at hor hbS
    have t1' : (W5.setCell ⟨bu, y, none⟩ (.int .u64 (y0 : Int))).cell? ⟨g, 1, none⟩ = some (.int .i64 (m.l.length : Int)) := t1
    have tf' : (W5.setCell ⟨bu, y, none⟩ (.int .u64 (y0 : Int))).frozen? ⟨g, 1, none⟩ = false := tf
    clear t1 tf z0 z1 z2 fz fz' fz'' fz3 y2
    go_still_tail 12, (by kernel_rfl)
    still_call (hbS _)
    repeat still_step
    refine wpStill_nil ?_
    change wpList _ _ _ _ _ (World.drew _)
    go_wp2
    go_ret2
    exact ⟨rfl, HD.out⟩
end
end Go.Proofs.YtlfhkhnhcckajaaGreatDoor

/- The program's lists of int values: PushFront, PushBack, InsertAfter, Values, New. Conditions: none beyond those typed. -/
namespace Go.Proofs.YtlfhkhnhcckajaaGreatDoor
open Go.ChangeShapes Go.WideShapes Go.ChangeAt Go.RowKit
set_option linter.unusedVariables false
set_option linter.unusedSimpArgs false
set_option maxRecDepth 100000

section
variable {P' : Nat → Prop} {col col' : Col} {w w' : World} {k g n u b N c nu cu x : Nat} {Au : Option Addr} {P : List (Pn Int)} {U : List Nat} {i : Nat} {r : Pn Int} {m : CSt Int}
theorem AddOut.fromi {r : (Int × Int) × CSt Int} {e : Ending} (hs : StepC (Rng k) col w col w') {w2 : World} (h : AddOut PLi col k w' g r e w2) : AddOut PLi col k w g r e w2 := by
  obtain ⟨h1, col2, h2, h3⟩ := h
  exact ⟨h1, col2, h2, hs.trans h3⟩
set_option maxHeartbeats 1000000 in
theorem lpushBi_any (H : PLi col k w g m) (ht : Tidy col w) (v : Int) : Calls Tryz.prog 91 #[.pointer (some ⟨g, 0, none⟩), (fun z : Int => Value.int .i64 z) v] w (AddOut PLi col k w g (m.pushB v)) := by
  have hLa := llasti_any H
  have hs : ∀ j, StepC (Rng k) col w col (w.drewN j) := fun j => StepC.below ht (below_drewN (Below.refl _ _) j)
  have hI := fun j => (linserti_any (H.below ht (below_drewN (Below.refl _ _) j)) ht (a := m.last) (i := m.l.length) (last_rg m) (Nat.le_refl _) v).mono fun e w2 h => AddOut.fromi (hs j) h
  have hE : m.pushB v = m.ins m.l.length v := rfl
  rw [hE]
  generalize m.ins m.l.length v = r1 at *
  clear H hE hs
  generalize m.last = F at *
  go_enter Tryz.func91, Tryz.ntmps91
  go_wp2_with fail
  refine hLa.mono ?_
  rintro e w1 ⟨rfl, j, rfl⟩
  go_wp2_with fail
  refine (hI j).mono ?_
  rintro e w1 ⟨rfl, hd⟩
  have HD := Lib.hid hd
  clear hd hI
  go_wp2
  go_ret2
  exact ⟨rfl, HD.out⟩
def lenVi : Value → Nat
  | .slice _ n _ => n
  | _ => 0
set_option maxHeartbeats 1000000 in
theorem lnewi_any (ht : Tidy col w) (hT : TbC col w) (hk : 1 ≤ k) (n : Int) (hn : J64 n) : Calls Tryz.prog 106 #[.int .i64 n] w (NewPL PLi col k n w) := by
  unfold J64 at hn
  by_cases h1 : n < 1
  · have HE := Lib.hid (show lstE n = 1 from if_pos (.inl h1))
    go_enter Tryz.func106, Tryz.ntmps106
    go_wp2
    go_ret2
    exact .inr ⟨HE.out, rfl, Below.refl _ _⟩
  by_cases h2 : 8192 < n
  · have HE := Lib.hid (show lstE n = 1 from if_pos (.inr h2))
    go_enter Tryz.func106, Tryz.ntmps106
    go_wp2
    go_ret2
    exact .inr ⟨HE.out, rfl, Below.refl _ _⟩
  obtain ⟨q, rfl⟩ : ∃ q : Nat, n = (q : Int) := ⟨n.toNat, by omega⟩
  have HE := Lib.hid (show lstE (q : Int) = 0 from if_neg (by omega))
  have hs1 := StepC.new ht (.cells #[.int .i64 (-1), .int .i64 (-1), .int .i64 0] 142) (k + 1) (Rng k)
  have O1 : OwnK kNi (w.alloc (.cells #[.int .i64 (-1), .int .i64 (-1), .int .i64 0] 142)) (.slice (some ⟨w.heap.size, 0, none⟩) 1 1) [(-1, -1, (0 : Int))] := OwnK.one (K := kNi) rfl _ rfl
  have R1 : OwnKc kNi (dye col (some w.heap.size) (k + 1)) (w.alloc (.cells #[.int .i64 (-1), .int .i64 (-1), .int .i64 0] 142)) (k + 1) (.slice (some ⟨w.heap.size, 0, none⟩) 1 1) [(-1, -1, (0 : Int))] := ⟨O1, HasCol.dye (.slice (some ⟨w.heap.size, 0, none⟩) 1 1) (k + 1)⟩
  have T1 := hT.keep hs1 (rng0 hk)
  have hs2 := fun cs => StepC.new hs1.tidy (.cells cs 145) k (Rng k)
  have hs2' := fun cs => StepC.new hs1.tidy (.cells cs 145) k (fun _ => False)
  have HD := Lib.hid (show DidPL PLi col k w (w.heap.size + 1) (newC Int q) ((w.alloc (.cells #[.int .i64 (-1), .int .i64 (-1), .int .i64 0] 142)).alloc (.cells #[.int .i64 (q : Int), .int .i64 0, .slice (some ⟨w.heap.size, 0, none⟩) 1 1, .slice none 0 0] 145)) from by
    refine ⟨_, ⟨[(-1, -1, (0 : Int))], w.heap.size, 1, 1, [], none, 0, 0, ⟨⟨?_, ?_⟩, R1.keep (hs2' _) (fun h => h), OwnKc.nil kU _ _ _, T1.keep (hs2' _) (fun h => h), hk⟩, Rp.new (by omega) (by omega)⟩, hs1.trans (hs2 _)⟩
    · have := heap_alloc_new (w.alloc (.cells #[.int .i64 (-1), .int .i64 (-1), .int .i64 0] 142)) (.cells #[.int .i64 (q : Int), .int .i64 0, .slice (some ⟨w.heap.size, 0, none⟩) 1 1, .slice none 0 0] 145)
      rw [show (w.alloc (.cells #[.int .i64 (-1), .int .i64 (-1), .int .i64 0] 142)).heap.size = w.heap.size + 1 by simp] at this
      exact this
    · unfold dye
      rw [if_pos (by simp)])
  clear hs1 O1 R1 T1 hs2 hs2' hT
  go_enter Tryz.func106, Tryz.ntmps106
  go_wp2
  go_ret2
  exact .inl ⟨HE.out, w.heap.size + 1, rfl, HD.out⟩
end
end Go.Proofs.YtlfhkhnhcckajaaGreatDoor
