/- heavykeysref01.SameTags. Conditions: none beyond those typed. -/
import Derived.Test.YtbbmjmelbhdgeaaTmem
import Derived.Laws.StructEq
namespace Go.Proofs.Ytbbmjmelbhdgeaa
open Go.ChangeShapes Go.WideShapes Go.ChangeAt Go.RowKit
set_option linter.unusedVariables false
set_option maxRecDepth 100000
set_option linter.unusedSimpArgs false


theorem fields_tag : Try.prog.underlying 35 = some (.struct (Try.prog.fieldsOf 35)) := by
  unfold Program.fieldsOf; rw [Try.underlying35]
theorem str_eq {a b : ByteArray} (h : a.toList = b.toList) : a = b := by
  rw [Lib.toList_data, Lib.toList_data] at h
  exact ByteArray.ext (Array.toList_inj.1 h)
theorem str_beq (a b : ByteArray) : (a.toList == b.toList) = decide (a = b) := by
  rw [Bool.eq_iff_iff, beq_iff_eq, decide_eq_true_iff]
  exact ⟨str_eq, fun h => by rw [h]⟩
theorem eqIn_tag (p q p' q' : ByteArray) (w : World) : (Op.equalIn 10000 35 (.agg #[.string p, .string q]) (.agg #[.string p', .string q'])).run Try.prog w = .ok (decide ((p, q) = (p', q'))) w := by
  have h9 := fun w => Try.isAgg9 w
  rw [run_equalIn_agg w 9999 _ _ _ fields_tag (by kernel_rfl)]
  unfold Program.fieldsOf
  rw [Try.underlying35]
  have e1 : ∀ (a b : ByteArray) (d : Nat) (w : World), (Op.equalIn (d + 1) 9 (.string a) (.string b)).run Try.prog w = .ok (decide (a = b)) w := fun a b d w => by
    rw [run_equalIn_string w d _ a b Try.underlying9, str_beq]
  simp [Op.eqFields, part, h9]
  rw [e1]
  by_cases h1 : p = p'
  · by_cases h2 : q = q' <;> simp [h1, h2, e1]
  · simp [h1]
theorem take_eq_next {l r : List Tg} {k : Nat} {t : Tg} (h : l.take k = r.take k) (hl : l[k]? = some t) (hr : r[k]? = some t) : l.take (k + 1) = r.take (k + 1) := by
  rw [List.take_add_one, List.take_add_one, h, hl, hr]
theorem ne_at {l r : List Tg} {k : Nat} {t u : Tg} (hl : l[k]? = some t) (hr : r[k]? = some u) (hne : t ≠ u) : decide (l = r) = false := by
  rw [decide_eq_false_iff_not]; rintro rfl; rw [hl] at hr; exact hne (Option.some.inj hr)

set_option maxHeartbeats 400000 in
theorem same_any (A B : Option Addr) (n c m d : Nat) (l r : List Tg) (w : World) (hR : RdT w A n c l) (hS : RdT w B m d r) (hn : n ≤ 1000) (hm : m ≤ 1000) :
    Calls Try.prog 35 #[.slice A n c, .slice B m d] w fun e w' => e = .returned (.bool (decide (l = r))) ∧ ∃ n, w' = w.drewN n := by
  by_cases hnm : n = m
  · subst hnm
    go_enter Try.func35, Try.ntmps35
    go_wp2
    go_loopw [13] (fun i W => ∃ k : Nat, k ≤ n ∧ l.take k = r.take k ∧ (∃ n, W = w.drewN n) ∧ i = .int .i64 k) (fun i _ => n - (intOf i).toNat)
    case atStart => exact ⟨0, by omega, rfl, ⟨0, rfl⟩, rfl⟩
    case round =>
      obtain ⟨k, hk, hT, ⟨x, rfl⟩, rfl⟩ := hrel
      have HT := Lib.hid hT
      clear hT
      by_cases hlt : k < n
      · obtain ⟨b, o, p, q, rfl, hg, hp, hq, hbl, h1, h2⟩ := hR.at_ hlt
        obtain ⟨b', o', p', q', rfl, hg', hp', hq', hbl', h1', h2'⟩ := hS.at_ hlt
        by_cases he : (p, q) = (p', q')
        · have hE : ∀ w, (Op.equalIn 10000 35 (.agg #[.string p, .string q]) (.agg #[.string p', .string q'])).run Try.prog w = .ok true w := fun w => by rw [eqIn_tag, he]; simp
          have HN := Lib.hid (take_eq_next HT.out hg (he ▸ hg'))
          clear hg hg' HT he
          go_wp2
          go_quiet (fail)
          go_wp2
          go_roundw
          case rel => exact ⟨k + 1, by omega, HN.out, ⟨x + nq, by first | rfl | exact World.drewN_drewN _ _ _⟩, by go_num⟩
          case measure => simp [intOf]; omega
        · have hE : ∀ w, (Op.equalIn 10000 35 (.agg #[.string p, .string q]) (.agg #[.string p', .string q'])).run Try.prog w = .ok false w := fun w => by rw [eqIn_tag, decide_eq_false he]
          have HN := Lib.hid (ne_at hg hg' he)
          clear hg hg' HT he
          go_wp2
          go_quiet (fail)
          go_wp2
          go_ret
          exact ⟨ret_bool HN.out.symm, x + nq, by first | rfl | exact World.drewN_drewN _ _ _⟩
      · have HN : Hid (decide (l = r) = true) := Lib.hid (by
          rw [decide_eq_true_iff]
          have := HT.out
          rwa [List.take_of_length_le (by rw [hR.len]; omega), List.take_of_length_le (by rw [hS.len]; omega)] at this)
        go_wp2
        go_ret
        exact ⟨ret_bool HN.out.symm, _, rfl⟩
  · have HN : Hid (decide (l = r) = false) := Lib.hid (by
      rw [decide_eq_false_iff_not]; rintro rfl
      exact hnm (hR.len.symm.trans hS.len))
    have h0 : ((n : Int) != (m : Int)) = true := by simp; omega
    have h1 : ((n : Int) == (m : Int)) = false := beq_false_of_ne (by omega)
    go_enter Try.func35, Try.ntmps35
    go_wp2
    go_ret
    exact ⟨ret_bool HN.out.symm, 0, rfl⟩
end Go.Proofs.Ytbbmjmelbhdgeaa
