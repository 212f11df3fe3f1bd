/- The specified pool in memory: Len, Text, Release. Conditions: none beyond those typed. -/
import Derived.Test.YtenchaifnfgijaaQref
import Derived.Test.YtenchaifnfgijaaAref4
namespace Go.Proofs.Ytenchaifnfgijaa
open Go.ChangeShapes Go.WideShapes Go.ChangeAt Go.RowKit
set_option linter.unusedVariables false
set_option linter.unusedSimpArgs false
set_option maxRecDepth 100000

section
variable {P : Nat → Prop} {col col' : Col} {w w' : World} {k ka g ga : Nat} {q : PSt} {x : ASt} {bK cK bU cU bH cH : Nat}
theorem alive_next {e : List PEn} {j : Nat} {y : PEn} (hy : e[j]? = some y) : aliveN (e.take (j + 1)) = aliveN (e.take j) + if 0 < y.u then 1 else 0 := by
  unfold aliveN
  rw [List.take_add_one, hy, List.countP_append]
  by_cases h : 0 < y.u <;> simp [h]
theorem RefQB.u0 (h : RefQB col k w g ga q bK cK bU cU bH cH) : w.cell? ⟨bU, 0, none⟩ = some (.int .i64 0) := by
  have := h.us.own.cell (j := 0) (i := 0) (a := 0) (u := .int .i64 0) rfl rfl
  simpa [kI] using this
set_option maxHeartbeats 1000000 in
theorem rqLen (H : RefQ col k w g ga q) (ht : Tidy col w) :
    Calls Try.prog 25 #[.pointer (some ⟨g, 0, none⟩)] w fun e w' => e = .returned (.int .i64 (aliveN q.e : Nat)) ∧ Below w.heap.size w w' := by
  obtain ⟨hG, bK, cK, bU, cU, bH, cH, H⟩ := H
  have hlen := hG.len
  have hn8 := hG.n8
  obtain ⟨⟨q1, q2⟩, ⟨q3, q4⟩, _⟩ := H.caps
  have x3 := H.c3
  go_enter Try.func25, Try.ntmps25
  go_wp2
  go_loopw [3, 11] (fun m i wr => ∃ j : Nat, j ≤ q.e.length + 1 ∧ i = .int .i64 (j : Int) ∧ m = .int .i64 (aliveN (q.e.take (j - 1)) : Nat) ∧ Below w.heap.size w wr) (fun _ i _ => q.e.length + 1 - (intOf i).toNat)
  case atStart => exact ⟨0, Nat.zero_le _, rfl, rfl, Below.refl _ _⟩
  case round =>
    obtain ⟨j, hj, rfl, rfl, hB⟩ := hrel
    have H1 := H.below ht hB
    have hj8 : (j : Int) ≤ 8193 := by omega
    by_cases hlt : j < q.e.length + 1
    · have hlt2 : (j : Int) < (q.e.length : Int) + 1 := by omega
      have hac : aliveN (q.e.take (j - 1)) ≤ 8192 := by
        have := countP_le_len (q.e.take (j - 1))
        rw [List.length_take] at this; omega
      cases j with
      | zero =>
        have u0 := H1.u0
        clear H1
        go_wp2
        go_roundw
        case rel => exact ⟨1, by omega, by go_num, rfl, by first | exact hB | exact hB.alloc hB.size _⟩
        case measure => (simp [intOf] <;> omega)
      | succ j =>
        obtain ⟨y, hy⟩ : ∃ y, q.e[j]? = some y := ⟨_, List.getElem?_eq_getElem (by omega)⟩
        have y3 := H1.cu hy
        have hu8 := hG.ut y (List.mem_of_getElem? hy)
        have hnx := alive_next hy
        rw [show j + 1 - 1 = j by omega] at hac ⊢
        generalize aliveN (q.e.take j) = N at hnx hac ⊢
        by_cases hu : 0 < y.u
        · rw [if_pos hu] at hnx
          have hu2 : (0 : Int) < (y.u : Int) := by omega
          have HN := Lib.hid hnx
          clear H1 hnx
          go_wp2
          go_roundw
          case rel => exact ⟨j + 2, by omega, by go_num, by rw [show j + 2 - 1 = j + 1 by omega, HN.out]; go_num, by first | exact hB | exact hB.alloc hB.size _⟩
          case measure => (simp [intOf] <;> omega)
        · rw [if_neg hu] at hnx
          have hu2 : ¬ (0 : Int) < (y.u : Int) := by omega
          have HN := Lib.hid hnx
          clear H1 hnx
          go_wp2
          go_roundw
          case rel => exact ⟨j + 2, by omega, by go_num, by rw [show j + 2 - 1 = j + 1 by omega, HN.out]; rfl, by first | exact hB | exact hB.alloc hB.size _⟩
          case measure => (simp [intOf] <;> omega)
    · have hlt2 : ¬ (j : Int) < (q.e.length : Int) + 1 := by omega
      have HF := Lib.hid (show aliveN (q.e.take (j - 1)) = aliveN q.e by rw [List.take_of_length_le (by omega)])
      generalize aliveN (q.e.take (j - 1)) = N at HF ⊢
      go_wp2
      go_ret
      exact ⟨ret_i64 (by rw [HF.out]), hB⟩
theorem at_neg {id : Int} (h : id < 1) : q.at id = none := by unfold PSt.at; rw [if_neg (by omega)]
theorem at_big {id : Int} (h : (q.e.length : Int) < id) : q.at id = none := by
  unfold PSt.at
  split
  · rw [List.getElem?_eq_none (by omega)]
  · rfl
theorem at_dead {id : Int} {i : Nat} {y : PEn} (hi : (i : Int) = id - 1) (hy : q.e[i]? = some y) (hu : ¬ 0 < y.u) : q.at id = none := by
  unfold PSt.at
  rw [if_pos (by omega), show (id - 1).toNat = i by omega, hy]
  simp [hu]
/-- The ways of a number. -/
theorem at_ways (q : PSt) (id : Int) : id < 1 ∨ (q.e.length : Int) < id ∨ ∃ (i : Nat) (y : PEn), id = (i : Int) + 1 ∧ q.e[i]? = some y ∧ i < q.e.length := by
  by_cases h1 : id < 1
  · exact .inl h1
  by_cases h2 : (q.e.length : Int) < id
  · exact .inr (.inl h2)
  have h3 : (id - 1).toNat < q.e.length := by omega
  exact .inr (.inr ⟨(id - 1).toNat, _, by omega, List.getElem?_eq_getElem h3, h3⟩)
set_option maxHeartbeats 1000000 in
theorem rqText (H : RefQ col k w g ga q) (ht : Tidy col w) (id : Int) (hid : I64 id) :
    Calls Try.prog 23 #[.pointer (some ⟨g, 0, none⟩), .int .i64 id] w fun e w' => e = .returned (.tuple #[.string (q.text id).1, .int .i64 (q.text id).2]) ∧ Below w.heap.size w w' := by
  obtain ⟨hG, bK, cK, bU, cU, bH, cH, H⟩ := H
  have hlen := hG.len
  have hn8 := hG.n8
  obtain ⟨⟨q1, q2⟩, ⟨q3, q4⟩, _⟩ := H.caps
  have x2 := H.c2
  have x3 := H.c3
  obtain ⟨i1, i2⟩ := hid
  rcases at_ways q id with h1 | h1 | ⟨i, y, rfl, hy, hi⟩
  · have HP := Lib.hid (show q.text id = (⟨#[]⟩, 8) by unfold PSt.text; rw [at_neg h1])
    clear H
    go_enter Try.func23, Try.ntmps23
    go_wp2
    go_ret2
    exact ⟨by rw [HP.out]; rfl, Below.refl _ _⟩
  · have HP := Lib.hid (show q.text id = (⟨#[]⟩, 8) by unfold PSt.text; rw [at_big h1])
    have h2 : ¬ id < 1 := by omega
    have h3 : (q.e.length : Int) + 1 ≤ id := by omega
    clear H
    go_enter Try.func23, Try.ntmps23
    go_wp2
    go_ret2
    exact ⟨by rw [HP.out]; rfl, Below.refl _ _⟩
  · have y2 := H.ck hy
    have y3 := H.cu hy
    have h2 : ¬ (i : Int) + 1 < 1 := by omega
    have h3 : ¬ (q.e.length : Int) + 1 ≤ (i : Int) + 1 := by omega
    have h4 : (i : Int) + 1 < (q.e.length : Int) + 1 := by omega
    by_cases hu : 0 < y.u
    · have HP := Lib.hid (show q.text ((i : Int) + 1) = (y.k, 0) by unfold PSt.text; rw [at_is (by omega) hy hu])
      obtain ⟨u, hu2⟩ : ∃ u : Int, (y.u : Int) = u := ⟨_, rfl⟩
      have hu3 : (u == 0) = false := by rw [beq_eq_false_iff_ne]; omega
      rw [hu2] at y3
      clear H hu hu2
      go_enter Try.func23, Try.ntmps23
      go_wp2
      go_ret2
      exact ⟨by rw [HP.out]; rfl, Below.refl _ _⟩
    · have HP := Lib.hid (show q.text ((i : Int) + 1) = (⟨#[]⟩, 8) by unfold PSt.text; rw [at_dead (by omega) hy hu])
      have hu2 : (y.u : Int) = 0 := by omega
      clear H
      go_enter Try.func23, Try.ntmps23
      go_wp2
      go_ret2
      exact ⟨by rw [HP.out]; rfl, Below.refl _ _⟩
end
end Go.Proofs.Ytenchaifnfgijaa
