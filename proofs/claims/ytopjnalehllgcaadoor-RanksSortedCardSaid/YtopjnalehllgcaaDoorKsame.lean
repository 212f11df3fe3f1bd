/- SameInts, SameTexts: two rows compared. Conditions: none beyond those typed. -/
import Derived.Test.YtopjnalehllgcaaDoorZcol
import Derived.Test.YtopjnalehllgcaaDoorAm
import Derived.Test.YtopjnalehllgcaaDoorKtext
import Derived.Test.YtopjnalehllgcaaDoorTm
import Derived.BigQuiet
namespace Go.Proofs.YtopjnalehllgcaaDoor
open Go.ChangeShapes Go.WideShapes Go.ChangeAt Go.RowKit
set_option linter.unusedVariables false
set_option linter.unusedSimpArgs false
set_option maxRecDepth 100000

set_option maxHeartbeats 400000 in
theorem sameInts_any (A A' : Option Addr) (n n' c c' : Nat) (l l' : List Int) (w : World) (h : RdG kI w A n c l) (h' : RdG kI w A' n' c' l') :
    Calls Tryd.prog 24 #[.slice A n c, .slice A' n' c'] w fun e w' => e = .returned (.bool (decide (l = l'))) ∧ ∃ j, w' = w.drewN j := by
  have hcap := h.cap
  have hmax := h.max
  have hcap' := h'.cap
  have hmax' := h'.max
  have hl := h.len
  have hl' := h'.len
  by_cases hnn : n = n'
  · subst hnn
    go_enter Tryd.func24, Tryd.ntmps24
    go_wp2
    go_loopw [13] (fun i wr => ∃ k j : Nat, k ≤ n ∧ i = .int .i64 k ∧ l.take k = l'.take k ∧ wr = w.drewN j) (fun i _ => n - (intOf i).toNat)
    case atStart => exact ⟨0, 0, Nat.zero_le _, rfl, rfl, rfl⟩
    case round =>
      obtain ⟨k, j, hk, rfl, hq, rfl⟩ := hrel
      by_cases hlt : k < n
      · obtain ⟨b, o, p, rfl, hp, _, _, c0⟩ := h.atI hlt
        obtain ⟨b', o', p', rfl, hp', _, _, c0'⟩ := h'.atI hlt
        by_cases hpp : p = p'
        · subst hpp
          have HQ := Lib.hid (show l.take (k + 1) = l'.take (k + 1) by rw [List.take_add_one, List.take_add_one, hq, hp, hp'])
          clear hq hp hp'
          go_wp2
          go_quiet (fail)
          go_wp2
          go_roundw
          case rel => exact ⟨k + 1, _, by omega, by go_num, HQ.out, rfl⟩
          case measure => (simp [intOf] <;> omega)
        · have HN := Lib.hid (show ¬ l = l' by rintro rfl; rw [hp] at hp'; injection hp' with e; exact hpp e)
          have hne : (p != p') = true := bne_iff_ne.2 hpp
          clear hq hp hp'
          go_wp2
          go_quiet (fail)
          go_wp2
          go_ret
          exact ⟨ret_bool (by rw [decide_eq_false HN.out]), j + nq, by simp⟩
      · have HQ := Lib.hid (show l = l' by rw [List.take_of_length_le (by omega), List.take_of_length_le (by omega)] at hq; exact hq)
        clear hq
        go_wp2
        go_ret
        exact ⟨ret_bool (by rw [decide_eq_true HQ.out]), _, rfl⟩
  · have HN := Lib.hid (show ¬ l = l' by rintro rfl; omega)
    have hv : ((n : Int) != (n' : Int)) = true := bne_iff_ne.2 (by omega)
    clear hl hl'
    go_enter Tryd.func24, Tryd.ntmps24
    go_wp2
    go_ret
    exact ⟨ret_bool (by rw [decide_eq_false HN.out]), 0, rfl⟩
end Go.Proofs.YtopjnalehllgcaaDoor
