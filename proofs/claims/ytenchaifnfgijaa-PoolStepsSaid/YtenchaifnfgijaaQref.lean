/- The specified pool (heavykeysref08.Pool) in memory: Find, Len, Text. Conditions: none beyond those typed. -/
import Derived.Test.YtenchaifnfgijaaQdead
import Derived.Test.YtenchaifnfgijaaAprog
import Derived.Test.YtenchaifnfgijaaTm
namespace Go.Proofs.Ytenchaifnfgijaa
open Go.ChangeShapes Go.WideShapes Go.ChangeAt Go.RowKit
set_option linter.unusedVariables false
set_option linter.unusedSimpArgs false
set_option maxRecDepth 100000

/-- Texts. -/
def kT : Kind ByteArray where
  ty := 9
  sl := 59
  k := 1
  by_ := 16
  zero := .string ⟨#[]⟩
  enc := fun z => [.string z]
  pos := by omega
  len := fun _ => rfl
  one := fun a u hu => by rw [List.mem_singleton.1 hu]; rfl
  under := Try.underlying59
  info := by kernel_rfl
  zk := rfl
  small := by omega
/-- The rows of the specified pool: place 0 is not used. -/
def ksR (e : List PEn) : List ByteArray := ⟨#[]⟩ :: e.map PEn.k
def usR (e : List PEn) : List Int := 0 :: e.map fun y => (y.u : Int)
def hsR (e : List PEn) : List Hd := (0, 0, 0) :: e.map PEn.h
structure RefQB (col : Col) (k : Nat) (w : World) (g ga : Nat) (q : PSt) (bK cK bU cU bH cH : Nat) : Prop where
  box : BoxC col w g k #[.pointer (some ⟨ga, 0, none⟩), .int .i64 q.n, .slice (some ⟨bK, 0, none⟩) (q.e.length + 1) cK, .slice (some ⟨bU, 0, none⟩) (q.e.length + 1) cU, .slice (some ⟨bH, 0, none⟩) (q.e.length + 1) cH] 84
  ks : OwnKc kT col w (k + 1) (.slice (some ⟨bK, 0, none⟩) (q.e.length + 1) cK) (ksR q.e)
  us : OwnKc kI col w (k + 2) (.slice (some ⟨bU, 0, none⟩) (q.e.length + 1) cU) (usR q.e)
  hs : OwnKc kH col w (k + 3) (.slice (some ⟨bH, 0, none⟩) (q.e.length + 1) cH) (hsR q.e)
  k1 : 1 ≤ k
/-- The specified pool q lies in block g, over the arena in block ga. -/
def RefQ (col : Col) (k : Nat) (w : World) (g ga : Nat) (q : PSt) : Prop := GoodQ q ∧ ∃ bK cK bU cU bH cH, RefQB col k w g ga q bK cK bU cU bH cH
section
variable {P : Nat → Prop} {col col' : Col} {w w' : World} {k g ga : Nat} {q : PSt} {bK cK bU cU bH cH : Nat}
theorem RefQB.keep (h : RefQB col k w g ga q bK cK bU cU bH cH) (hs : StepC P col w col' w') (hp : ∀ c, Rng k c → ¬ P c) : RefQB col' k w' g ga q bK cK bU cU bH cH :=
  ⟨h.box.keep hs (hp _ ⟨Nat.le_refl _, by omega⟩), h.ks.keep hs (hp _ ⟨by omega, by omega⟩), h.us.keep hs (hp _ ⟨by omega, by omega⟩), h.hs.keep hs (hp _ ⟨by omega, by omega⟩), h.k1⟩
theorem RefQ.keep (h : RefQ col k w g ga q) (hs : StepC P col w col' w') (hp : ∀ c, Rng k c → ¬ P c) : RefQ col' k w' g ga q := by
  obtain ⟨hG, _, _, _, _, _, _, h⟩ := h
  exact ⟨hG, _, _, _, _, _, _, h.keep hs hp⟩
theorem RefQB.below (h : RefQB col k w g ga q bK cK bU cU bH cH) (ht : Tidy col w) (hb : Below w.heap.size w w') : RefQB col k w' g ga q bK cK bU cU bH cH := h.keep (P := fun _ => False) (StepC.below ht hb) (fun _ _ h => h)
theorem RefQB.c0 (h : RefQB col k w g ga q bK cK bU cU bH cH) : w.cell? ⟨g, 0, none⟩ = some (.pointer (some ⟨ga, 0, none⟩)) := h.box.cell 0 rfl
theorem RefQB.c1 (h : RefQB col k w g ga q bK cK bU cU bH cH) : w.cell? ⟨g, 1, none⟩ = some (.int .i64 q.n) := h.box.cell 1 rfl
theorem RefQB.c2 (h : RefQB col k w g ga q bK cK bU cU bH cH) : w.cell? ⟨g, 2, none⟩ = some (.slice (some ⟨bK, 0, none⟩) (q.e.length + 1) cK) := h.box.cell 2 rfl
theorem RefQB.c3 (h : RefQB col k w g ga q bK cK bU cU bH cH) : w.cell? ⟨g, 3, none⟩ = some (.slice (some ⟨bU, 0, none⟩) (q.e.length + 1) cU) := h.box.cell 3 rfl
theorem RefQB.c4 (h : RefQB col k w g ga q bK cK bU cU bH cH) : w.cell? ⟨g, 4, none⟩ = some (.slice (some ⟨bH, 0, none⟩) (q.e.length + 1) cH) := h.box.cell 4 rfl
theorem RefQB.caps (h : RefQB col k w g ga q bK cK bU cU bH cH) : (q.e.length + 1 ≤ cK ∧ cK ≤ 9223372036854775807) ∧ (q.e.length + 1 ≤ cU ∧ cU ≤ 9223372036854775807) ∧ q.e.length + 1 ≤ cH ∧ cH ≤ 9223372036854775807 :=
  ⟨⟨h.ks.own.reads.cap, h.ks.own.reads.max⟩, ⟨h.us.own.reads.cap, h.us.own.reads.max⟩, h.hs.own.reads.cap, h.hs.own.reads.max⟩
theorem RefQB.ck (h : RefQB col k w g ga q bK cK bU cU bH cH) {i : Nat} {y : PEn} (hy : q.e[i]? = some y) : w.cell? ⟨bK, i + 1, none⟩ = some (.string y.k) := by
  have := h.ks.own.cell (j := i + 1) (i := 0) (a := y.k) (u := .string y.k) (by simp [ksR, hy]) rfl
  simpa [kT] using this
theorem RefQB.cu (h : RefQB col k w g ga q bK cK bU cU bH cH) {i : Nat} {y : PEn} (hy : q.e[i]? = some y) : w.cell? ⟨bU, i + 1, none⟩ = some (.int .i64 y.u) := by
  have := h.us.own.cell (j := i + 1) (i := 0) (a := (y.u : Int)) (u := .int .i64 y.u) (by simp [usR, hy]) rfl
  simpa [kI] using this
theorem RefQB.ch (h : RefQB col k w g ga q bK cK bU cU bH cH) {i : Nat} {y : PEn} (hy : q.e[i]? = some y) :
    w.cell? ⟨bH, (i + 1) * 3, none⟩ = some (.int .i64 y.h.1) ∧ w.cell? ⟨bH, (i + 1) * 3 + 1, none⟩ = some (.int .i64 y.h.2.1) ∧ w.cell? ⟨bH, (i + 1) * 3 + 2, none⟩ = some (.int .i64 y.h.2.2) := by
  have e : (hsR q.e)[i + 1]? = some y.h := by simp [hsR, hy]
  exact ⟨h.hs.own.cell e (i := 0) rfl, h.hs.own.cell e (i := 1) rfl, h.hs.own.cell e (i := 2) rfl⟩
set_option maxHeartbeats 1000000 in
theorem rqFind (H : RefQ col k w g ga q) (ht : Tidy col w) (s : ByteArray) :
    Calls Try.prog 24 #[.pointer (some ⟨g, 0, none⟩), .string s] w fun e w' => e = .returned (.tuple #[.int .i64 (q.look s).1, .int .i64 (q.look s).2]) ∧ Below w.heap.size w w' := by
  obtain ⟨hG, bK, cK, bU, cU, bH, cH, H⟩ := H
  have hlen := hG.len
  have hn8 := hG.n8
  obtain ⟨⟨q1, q2⟩, ⟨q3, q4⟩, _⟩ := H.caps
  go_enter Try.func24, Try.ntmps24
  go_wp2
  go_loopw [6] (fun i wr => ∃ j : Nat, j ≤ q.e.length ∧ i = .int .i64 ((j + 1 : Nat) : Int) ∧ q.find s = ((q.e.drop j).findIdx? (isK s)).map (· + j) ∧ Below w.heap.size w wr) (fun i _ => q.e.length + 1 - (intOf i).toNat)
  case atStart => exact ⟨0, Nat.zero_le _, rfl, by simp [PSt.find], Below.refl _ _⟩
  case round =>
    obtain ⟨j, hj, rfl, hf, hB⟩ := hrel
    have H1 := H.below ht hB
    have x2 := H1.c2
    have x3 := H1.c3
    have hj8 : (j : Int) ≤ 8192 := by omega
    by_cases hlt : j < q.e.length
    · obtain ⟨y, hy⟩ : ∃ y, q.e[j]? = some y := ⟨_, List.getElem?_eq_getElem hlt⟩
      have y2 := H1.ck hy
      have y3 := H1.cu hy
      have hu8 := hG.ut y (List.mem_of_getElem? hy)
      rw [drop_at hy, List.findIdx?_cons] at hf
      have hlt2 : (j : Int) + 1 < (q.e.length : Int) + 1 := by omega
      have hw : IntKind.i64.wrap ((j : Int) + 1) = (j : Int) + 1 := by rw [IntKind.wrap_i64]; omega
      by_cases hu : 0 < y.u
      · by_cases hk : y.k = s
        · have HF := Lib.hid (show q.find s = some j by rw [hf]; simp [isK, hu, hk])
          have HY := Lib.hid hy
          have hbe : (y.k.toList == s.toList) = true := by rw [str_beq]; exact decide_eq_true hk
          have hu2 : (0 : Int) < (y.u : Int) := by omega
          clear hf H H1 hk
          go_wp2
          go_quiet (fail)
          go_wp2
          go_ret2
          exact ⟨by unfold PSt.look; rw [HF.out]; simp [HY.out], below_drewN hB _⟩
        · have HF := Lib.hid (show q.find s = ((q.e.drop (j + 1)).findIdx? (isK s)).map (· + (j + 1)) by
            rw [hf]; simp [isK, hk, Option.map_map]; congr 1; funext z; simp; omega)
          have hbe : (y.k.toList == s.toList) = false := by rw [str_beq]; exact decide_eq_false hk
          have hu2 : (0 : Int) < (y.u : Int) := by omega
          clear hf H1 hk
          go_wp2
          go_roundw
          case rel => exact ⟨j + 1, by omega, by go_num, HF.out, hB⟩
          case measure => (simp [intOf] <;> omega)
      · have HF := Lib.hid (show q.find s = ((q.e.drop (j + 1)).findIdx? (isK s)).map (· + (j + 1)) by
          rw [hf]; simp [isK, hu, Option.map_map]; congr 1; funext z; simp; omega)
        have hu2 : ¬ (0 : Int) < (y.u : Int) := by omega
        clear hf H1
        go_wp2
        go_roundw
        case rel => exact ⟨j + 1, by omega, by go_num, HF.out, hB⟩
        case measure => (simp [intOf] <;> omega)
    · have HF := Lib.hid (show q.find s = none by rw [hf, List.drop_of_length_le (by omega)]; rfl)
      have hlt2 : ¬ (j : Int) + 1 < (q.e.length : Int) + 1 := by omega
      clear hf
      go_wp2
      go_ret2
      exact ⟨by unfold PSt.look; rw [HF.out]; rfl, hB⟩
end
end Go.Proofs.Ytenchaifnfgijaa
