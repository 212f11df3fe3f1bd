/- == on entries; SameEntries on equal lists; the specified table: Entries; Deck.Entry. Conditions: none beyond those typed. -/
import Derived.Test.YtjkomnjkolggnaaSvsort
import Derived.Test.YtjkomnjkolggnaaQshort
namespace Go.Proofs.Ytjkomnjkolggnaa
open Go.ChangeShapes Go.WideShapes Go.ChangeAt Go.RowKit
set_option linter.unusedVariables false
set_option linter.unusedSimpArgs false
set_option maxRecDepth 100000

theorem fields_entry : Try.prog.underlying 32 = some (.struct (Try.prog.fieldsOf 32)) := by
  unfold Program.fieldsOf; rw [Try.underlying32]
theorem eqIn_entry (s s' : ByteArray) (t t' x x' : Int) (w : World) : (Op.equalIn 10000 32 (.agg #[.string s, .int .u64 t, .int .u64 x]) (.agg #[.string s', .int .u64 t', .int .u64 x'])).run Try.prog w = .ok (decide (((s, t, x) : En) = (s', t', x'))) w := by
  have h9 := fun w => Try.isAgg9 w
  have h7 := fun w => Try.isAgg30 w
  rw [run_equalIn_agg w 9999 _ _ _ fields_entry (by kernel_rfl)]
  unfold Program.fieldsOf
  rw [Try.underlying32]
  have e1 : ∀ (a b : ByteArray) (d : Nat) (w : World), (Op.equalIn (d + 1) 9 (.string a) (.string b)).run Try.prog w = .ok (decide (a = b)) w := fun a b d w => by
    rw [run_equalIn_string w d _ a b Try.underlying9, str_beq]
  simp [Op.eqFields, part, h9, h7]
  rw [e1]
  simp [Result.andThen, run_equalIn_int]
  by_cases hs : s = s'
  · by_cases ht : t = t'
    · by_cases hx : x = x' <;> simp [hs, ht, hx]
    · simp [hs, ht]
  · simp [hs]
set_option maxHeartbeats 1000000 in
theorem sameEntries_yes (A A' : Option Addr) (n c c' : Nat) (l : List En) (w : World) (h : RdG kEn w A n c l) (h' : RdG kEn w A' n c' l) :
    Calls Try.prog 24 #[.slice A n c, .slice A' n c'] w fun e w' => e = .returned (.bool true) ∧ Below w.heap.size w w' := by
  have hcap := h.cap
  have hmax := h.max
  have hcap' := h'.cap
  have hmax' := h'.max
  go_enter Try.func24, Try.ntmps24
  go_wp2
  go_loopw [13] (fun i wr => ∃ k j : Nat, k ≤ n ∧ i = .int .i64 k ∧ wr = w.drewN j) (fun i _ => n - (intOf i).toNat)
  case atStart => exact ⟨0, 0, Nat.zero_le _, rfl, rfl⟩
  case round =>
    obtain ⟨k, j, hk, rfl, rfl⟩ := hrel
    by_cases hlt : k < n
    · obtain ⟨b, o, p, rfl, hp, z0, z1, z2⟩ := h.atEn hlt
      obtain ⟨b', o', p', rfl, hp', y0, y1, y2⟩ := h'.atEn hlt
      rw [hp] at hp'; injection hp' with hp'; subst hp'
      have hki : (k : Int) < (n : Int) := by omega
      have hQ := eqIn_entry p.1 p.1 p.2.1 p.2.1 p.2.2 p.2.2
      rw [decide_eq_true rfl] at hQ
      clear hp
      go_wp2
      go_quiet (fail)
      go_wp2
      go_roundw
      case rel => exact ⟨k + 1, _, by omega, by go_num, rfl⟩
      case measure => (simp [intOf] <;> omega)
    · have hki : ¬ (k : Int) < (n : Int) := by omega
      go_wp2
      go_ret
      exact ⟨rfl, below_drewN (Below.refl _ _) j⟩
theorem get_own {t : TSt} (G : GoodT t) {i : Nat} {e : En} (he : t.l[i]? = some e) : t.get e.1 = (e, true) := by
  have hp : placeE t.l e.1 = some i := placeE_at he rfl fun j x hj hx hxe => by
    have hn := G.nd
    have h1 : (t.l.map Prod.fst)[j]? = some e.1 := by rw [List.getElem?_map, hx, ← hxe]; rfl
    have h2 : (t.l.map Prod.fst)[i]? = some e.1 := by rw [List.getElem?_map, he]; rfl
    obtain ⟨a, ha⟩ := List.getElem?_eq_some_iff.1 h1
    obtain ⟨b, hb⟩ := List.getElem?_eq_some_iff.1 h2
    exact List.pairwise_iff_getElem.1 hn j i a b hj (ha.trans hb.symm)
  unfold TSt.get
  rw [hp]
  show ((t.l[i]?).getD zeroE, true) = _
  rw [he]; rfl
section
variable {col : Col} {w w' : World} {k g : Nat} {t : TSt}
end
end Go.Proofs.Ytjkomnjkolggnaa
