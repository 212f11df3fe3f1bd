/- Sorted, whose result is a row of the call's own. Conditions: none beyond those typed. -/
import Derived.Test.YtjkomnjkolggnaaSvsort
import Derived.Test.YtjkomnjkolggnaaSvref2
namespace Go.Proofs.Ytjkomnjkolggnaa
open Go.ChangeShapes Go.WideShapes Go.ChangeAt Go.RowKit
set_option linter.unusedVariables false
set_option linter.unusedSimpArgs false
set_option maxRecDepth 100000

set_option maxHeartbeats 4000000 in
theorem sorted_own {w : World} {A : Option Addr} {n c : Nat} {l : List En} (h : RdG kEn w A n c l) (hn : n ≤ 1000) :
    Calls Try.prog 37 #[.slice A n c] w (OwnOut kEn w n (sortE l)) := by
  have hcap := h.cap
  have hmax := h.max
  have hll := h.len
  go_enter Try.func37, Try.ntmps37
  go_wp2
  go_loopw [3, 9] (fun v iv wr => ∃ i : Nat, i ≤ n ∧ iv = .int .i64 (i : Int) ∧ OwnK kEn wr v (sortE (l.take i)) ∧ New w v ∧ Below w.heap.size w wr) (fun _ iv _ => n - (intOf iv).toNat)
  case atStart => exact ⟨0, Nat.zero_le _, rfl, OwnK.nil kEn _, fun q hq => by simp [Value.ownBlock] at hq, Below.refl _ _⟩
  case round =>
    obtain ⟨i, hi, rfl, hO, hN, hB⟩ := hrel
    by_cases hlt : i < n
    · obtain ⟨b0, o0, e, rfl, he, z0, z1, z2⟩ := (h.below hB).atEn hlt
      have hiI : (i : Int) < (n : Int) := by omega
      obtain ⟨lo, hlo⟩ : ∃ lo, sortE (l.take i) = lo := ⟨_, rfl⟩
      have hnx := Lib.hid (show insSE lo e = sortE (l.take (i + 1)) by rw [sortE_next he, hlo])
      have hlol : lo.length = i := by rw [← hlo, sortE_len, List.length_take]; omega
      rw [hlo] at hO
      obtain ⟨Ao, co, rfl, hR, hform⟩ := hO.form hlol
      have hbW1 : Below w.heap.size w (wr.alloc (.cells (VE e) 32)) := hB.alloc hB.size _
      have c0 : (wr.alloc (.cells (VE e) 32)).cell? ⟨wr.heap.size, 0, none⟩ = some (.string e.1) := (World.cell?_alloc_at (w := wr) _ _ _ _ rfl).trans rfl
      have c1 : (wr.alloc (.cells (VE e) 32)).cell? ⟨wr.heap.size, 1, none⟩ = some (.int .u64 e.2.1) := (World.cell?_alloc_at (w := wr) _ _ _ _ rfl).trans rfl
      have c2 : (wr.alloc (.cells (VE e) 32)).cell? ⟨wr.heap.size, 2, none⟩ = some (.int .u64 e.2.2) := (World.cell?_alloc_at (w := wr) _ _ _ _ rfl).trans rfl
      have R1 : RdG kEn (wr.alloc (.cells (VE e) 32)) Ao i co lo := hR.below ((Below.refl _ _).alloc (Nat.le_refl _) _)
      have hcapo := hR.cap
      have hmaxo := hR.max
      clear hO hR hlo he
      rcases hform with ⟨rfl, hl0, rfl⟩ | ⟨b, rfl, hbl⟩
      · have hi0 : i = 0 := by rw [← hlol, hl0]; rfl
        subst hi0
        subst hl0
        have HFin := Lib.hid (show ([] ++ ([] : List En)) ++ [e] ++ ([] : List En) = sortE (l.take (0 + 1)) by rw [← hnx.out]; rfl)
        rw [Nat.zero_mul, Nat.add_zero] at z0 z1 z2
        go_wp2
        go_loopw [6] (fun kv W => kv = .int .i64 0 ∧ ∃ m, W = (wr.alloc (.cells (VE e) 32)).drewN m) (fun _ _ => 0)
        case atStart => exact ⟨rfl, 0, rfl⟩
        case round =>
          obtain ⟨rfl, m, rfl⟩ := hrel
          go_wp2
          go_quiet (fail)
          go_wp2_with fail
          rw [World.drewN_drewN]
          have r1 : RdG kEn (wr.alloc (.cells (VE e) 32)) none 0 0 [] := RdG.nil _ _ _ (by decide)
          have r2 : RdG kEn (wr.alloc (.cells (VE e) 32)) none 0 0 [] := RdG.nil _ _ _ (by decide)
          have hby1 : ([] : List En).length + 0 ≤ 1000000000 := by simp
          have hby2 : ([] ++ ([] : List En)).length + 1 ≤ 1000000000 := by simp
          have hby3 : ([] ++ ([] : List En) ++ [e]).length + 0 ≤ 1000000000 := by simp
          have hW1z := hbW1.size
          clear h hnx R1 hlol
          generalize wr.alloc (.cells (VE e) 32) = W1 at *
          generalize wr.heap.size = G at *
          go_region_held3 (fun W => W.cell? ⟨G, 0, none⟩ = some (.string e.1) ∧ W.cell? ⟨G, 1, none⟩ = some (.int .u64 e.2.1) ∧ W.cell? ⟨G, 2, none⟩ = some (.int .u64 e.2.2) ∧ Below W1.heap.size W1 W) ((refine KE.mk' c0 c1 c2 ?_; first | assumption | exact below_drewN (Below.refl _ _) _ | exact (below_drewN (Below.refl _ _) _).drew | exact bq1 _ _ _ | exact bq2 _ _ _ _ | exact Below.alloc (by assumption) (Below.size (by assumption)) _)) (first | (refine step_appNC kEn W1 rfl (.tmp 29) (.tmp 32) rfl _ [] rfl none 0 0 [] rfl (by first | exact OwnK.empty' kEn rfl rfl | exact OwnK.empty' kEn rfl (aZ _ _ _) | exact (OwnK.empty' kEn rfl rfl).alloc _ | exact (OwnK.empty' kEn rfl (aZ _ _ _)).alloc _) (New.lit (by first | exact Nat.le_refl _ | exact Nat.le_succ _)) (by first | exact bq1 _ _ _ | exact bq2 _ _ _ _) (RdG.below r1 (by first | exact bq1 _ _ _ | exact bq2 _ _ _ _)) hby1 ?_; intro v1 w1 hO1 hN1 hB1 hC1) | (refine step_appNC kEn W1 rfl (.tmp 33) (.tmp 35) rfl v1 _ rfl _ 1 1 [e] rfl (by first | exact hO1 | exact hO1.alloc _) hN1 (by first | exact hB1 | exact hB1.alloc hB1.size _) (by first | exact RdG.one2 kEn e rfl rfl rfl | exact RdG.one2 kEn e rfl rfl (aZ _ _ _) | exact hC1 _ _ _ _ (RdG.one2 kEn e rfl rfl rfl) (lit_ne (by first | exact Nat.ne_of_lt (Nat.lt_succ_self _) | exact Nat.ne_of_gt (Nat.lt_succ_self _))) | exact hC1 _ _ _ _ (RdG.one2 kEn e rfl rfl (aZ _ _ _)) (lit_ne (by first | exact Nat.ne_of_lt (Nat.lt_succ_self _) | exact Nat.ne_of_gt (Nat.lt_succ_self _))) | exact hC1 _ _ _ _ ((RdG.one2 kEn e rfl rfl rfl).alloc' _) (lit_ne (by first | exact Nat.ne_of_lt (Nat.lt_succ_self _) | exact Nat.ne_of_gt (Nat.lt_succ_self _))) | exact hC1 _ _ _ _ ((RdG.one2 kEn e rfl rfl (aZ _ _ _)).alloc' _) (lit_ne (by first | exact Nat.ne_of_lt (Nat.lt_succ_self _) | exact Nat.ne_of_gt (Nat.lt_succ_self _)))) hby2 ?_; intro v2 w2 hO2 hN2 hB2 hC2) | (refine step_appNC kEn W1 rfl (.tmp 36) (.tmp 39) rfl v2 _ rfl none 0 0 [] rfl hO2 hN2 hB2 (RdG.below r2 hB2) hby3 ?_; intro v3 w3 hO3 hN3 hB3 hC3))
          all_goals
            have HZ : Hid (OwnK kEn w3 v3 (sortE (l.take (0 + 1))) ∧ New w v3 ∧ Below w.heap.size w w3) := Lib.hid ⟨by rw [← HFin.out]; exact hO3, fun q hq => Nat.le_trans hW1z (hN3 q hq), hbW1.trans (hB3.mono hW1z)⟩
            clear hO1 hO2 hO3 hN1 hN2 hN3 hB1 hB2 hB3 hC1 hC2 hC3 r1 r2
            go_wp2
            go_roundw
            case rel => exact ⟨0 + 1, by omega, by go_num, HZ.out.1, HZ.out.2.1, HZ.out.2.2⟩
            case measure => (simp [intOf] <;> omega)
      · go_wp2
        go_loopw [6] (fun kv W => ∃ k : Nat, k ≤ i ∧ kv = .int .i64 (k : Int) ∧ (∀ (j : Nat) (p : En), j < k → lo[j]? = some p → sless p.1 e.1 = true) ∧ ∃ m, W = (wr.alloc (.cells (VE e) 32)).drewN m) (fun kv _ => i - (intOf kv).toNat)
        case atStart => exact ⟨0, Nat.zero_le _, rfl, fun j p hj => absurd hj (Nat.not_lt_zero _), 0, rfl⟩
        case round =>
          obtain ⟨k, hki, rfl, hless, m, rfl⟩ := hrel
          by_cases hlk : k < i
          · obtain ⟨b', o', p, hA', hp, p0, _, _⟩ := R1.atEn hlk
            injection hA' with hA'; injection hA' with hA1 hA2; subst hA1 hA2
            rw [Nat.zero_add] at p0
            have hkI : (k : Int) < (i : Int) := by omega
            have hd1 : decide ((k : Int) < (i : Int)) = true := decide_eq_true hkI
            cases hb1 : Op.bytesLess p.1.toList e.1.toList with
            | true =>
              have HL := Lib.hid (show ∀ (j : Nat) (p : En), j < k + 1 → lo[j]? = some p → sless p.1 e.1 = true from fun j q hj hq => by
                rcases Nat.lt_or_ge j k with h1 | h1
                · exact hless j q h1 hq
                · obtain rfl : j = k := by omega
                  rw [hp] at hq; injection hq with hq; subst hq; exact hb1)
              clear hless hp
              go_wp2
              go_quiet (fail)
              go_wp2
              go_roundw
              case rel => exact ⟨k + 1, by omega, by go_num, HL.out, m + nq, by first | rfl | exact World.drewN_drewN _ _ _⟩
              case measure => (simp [intOf] <;> omega)
            | false =>
              have HP := Lib.hid (show placeM lo e.1 = k from placeM_is hless (fun q hq => by rw [hp] at hq; injection hq with hq; subst hq; exact hb1) (by omega))
              clear hless hp
              have HFin := Lib.hid (show ([] ++ lo.take k) ++ [e] ++ lo.drop k = sortE (l.take (i + 1)) by rw [← hnx.out]; unfold insSE; rw [HP.out]; simp)
              have r1 := R1.head (j := k) hki
              obtain ⟨AD, hAD, r2⟩ : ∃ AD, (if co = k then (some ⟨b, 0, none⟩ : Option Addr) else some ⟨b, k * 3, none⟩) = some AD ∧ RdG kEn (wr.alloc (.cells (VE e) 32)) (some AD) (i - k) (co - k) (lo.drop k) := by
                have h := R1.dropIf (i := k) hki
                rw [show 0 + k * kEn.k = k * 3 by simp [kEn]] at h
                by_cases hc : co = k
                · rw [if_pos hc] at h ⊢; exact ⟨_, rfl, h⟩
                · rw [if_neg hc] at h ⊢; exact ⟨_, rfl, h⟩
              have hki1 : (k : Int) ≤ (i : Int) := by omega
              have hKh : (k : Int) ≤ (co : Int) := by omega
              have hby1 : ([] : List En).length + k ≤ 1000000000 := by simp; omega
              have hby2 : ([] ++ lo.take k).length + 1 ≤ 1000000000 := by simp; omega
              have hby3 : ([] ++ lo.take k ++ [e]).length + (i - k) ≤ 1000000000 := by simp; omega
              have hW1z := hbW1.size
              clear hnx R1 hlol h
              go_wp2
              go_quiet (fail)
              go_wp2_with fail
              rw [World.drewN_drewN]
              generalize wr.alloc (.cells (VE e) 32) = W1 at *
              generalize wr.heap.size = G at *
              go_region_held3 (fun W => W.cell? ⟨G, 0, none⟩ = some (.string e.1) ∧ W.cell? ⟨G, 1, none⟩ = some (.int .u64 e.2.1) ∧ W.cell? ⟨G, 2, none⟩ = some (.int .u64 e.2.2) ∧ Below W1.heap.size W1 W) ((refine KE.mk' c0 c1 c2 ?_; first | assumption | exact below_drewN (Below.refl _ _) _ | exact (below_drewN (Below.refl _ _) _).drew | exact bq1 _ _ _ | exact bq2 _ _ _ _ | exact Below.alloc (by assumption) (Below.size (by assumption)) _)) (first | (refine step_appNC kEn W1 rfl (.tmp 29) (.tmp 32) rfl _ [] rfl (some ⟨b, 0, none⟩) k co (lo.take k) rfl (by first | exact OwnK.empty' kEn rfl rfl | exact OwnK.empty' kEn rfl (aZ _ _ _) | exact (OwnK.empty' kEn rfl rfl).alloc _ | exact (OwnK.empty' kEn rfl (aZ _ _ _)).alloc _) (New.lit (by first | exact Nat.le_refl _ | exact Nat.le_succ _)) (by first | exact bq1 _ _ _ | exact bq2 _ _ _ _) (RdG.below r1 (by first | exact bq1 _ _ _ | exact bq2 _ _ _ _)) hby1 ?_; intro v1 w1 hO1 hN1 hB1 hC1) | (refine step_appNC kEn W1 rfl (.tmp 33) (.tmp 35) rfl v1 _ rfl _ 1 1 [e] rfl (by first | exact hO1 | exact hO1.alloc _) hN1 (by first | exact hB1 | exact hB1.alloc hB1.size _) (by first | exact RdG.one2 kEn e rfl rfl rfl | exact RdG.one2 kEn e rfl rfl (aZ _ _ _) | exact hC1 _ _ _ _ (RdG.one2 kEn e rfl rfl rfl) (lit_ne (by first | exact Nat.ne_of_lt (Nat.lt_succ_self _) | exact Nat.ne_of_gt (Nat.lt_succ_self _))) | exact hC1 _ _ _ _ (RdG.one2 kEn e rfl rfl (aZ _ _ _)) (lit_ne (by first | exact Nat.ne_of_lt (Nat.lt_succ_self _) | exact Nat.ne_of_gt (Nat.lt_succ_self _))) | exact hC1 _ _ _ _ ((RdG.one2 kEn e rfl rfl rfl).alloc' _) (lit_ne (by first | exact Nat.ne_of_lt (Nat.lt_succ_self _) | exact Nat.ne_of_gt (Nat.lt_succ_self _))) | exact hC1 _ _ _ _ ((RdG.one2 kEn e rfl rfl (aZ _ _ _)).alloc' _) (lit_ne (by first | exact Nat.ne_of_lt (Nat.lt_succ_self _) | exact Nat.ne_of_gt (Nat.lt_succ_self _)))) hby2 ?_; intro v2 w2 hO2 hN2 hB2 hC2) | (refine step_appNC kEn W1 rfl (.tmp 36) (.tmp 39) rfl v2 _ rfl (some AD) (i - k) (co - k) (lo.drop k) rfl hO2 hN2 hB2 (RdG.below r2 hB2) hby3 ?_; intro v3 w3 hO3 hN3 hB3 hC3))
              all_goals
                have HZ : Hid (OwnK kEn w3 v3 (sortE (l.take (i + 1))) ∧ New w v3 ∧ Below w.heap.size w w3) := Lib.hid ⟨by rw [← HFin.out]; exact hO3, fun q hq => Nat.le_trans hW1z (hN3 q hq), hbW1.trans (hB3.mono hW1z)⟩
                clear hO1 hO2 hO3 hN1 hN2 hN3 hB1 hB2 hB3 hC1 hC2 hC3 r1 r2
                go_wp2
                go_roundw
                case rel => exact ⟨i + 1, by omega, by go_num, HZ.out.1, HZ.out.2.1, HZ.out.2.2⟩
                case measure => (simp [intOf] <;> omega)
          · have hkI : ¬ (k : Int) < (i : Int) := by omega
            have hd1 : decide ((k : Int) < (i : Int)) = false := decide_eq_false hkI
            have HP := Lib.hid (show placeM lo e.1 = k from placeM_is hless (fun q hq => by have := (List.getElem?_eq_some_iff.1 hq).1; omega) (by omega))
            clear hless
            have HFin := Lib.hid (show ([] ++ lo.take k) ++ [e] ++ lo.drop k = sortE (l.take (i + 1)) by rw [← hnx.out]; unfold insSE; rw [HP.out]; simp)
            have r1 := R1.head (j := k) hki
            obtain ⟨AD, hAD, r2⟩ : ∃ AD, (if co = k then (some ⟨b, 0, none⟩ : Option Addr) else some ⟨b, k * 3, none⟩) = some AD ∧ RdG kEn (wr.alloc (.cells (VE e) 32)) (some AD) (i - k) (co - k) (lo.drop k) := by
              have h := R1.dropIf (i := k) hki
              rw [show 0 + k * kEn.k = k * 3 by simp [kEn]] at h
              by_cases hc : co = k
              · rw [if_pos hc] at h ⊢; exact ⟨_, rfl, h⟩
              · rw [if_neg hc] at h ⊢; exact ⟨_, rfl, h⟩
            have hki1 : (k : Int) ≤ (i : Int) := by omega
            have hKh : (k : Int) ≤ (co : Int) := by omega
            have hby1 : ([] : List En).length + k ≤ 1000000000 := by simp; omega
            have hby2 : ([] ++ lo.take k).length + 1 ≤ 1000000000 := by simp; omega
            have hby3 : ([] ++ lo.take k ++ [e]).length + (i - k) ≤ 1000000000 := by simp; omega
            have hW1z := hbW1.size
            clear hnx R1 hlol h
            go_wp2
            go_quiet (fail)
            go_wp2_with fail
            rw [World.drewN_drewN]
            generalize wr.alloc (.cells (VE e) 32) = W1 at *
            generalize wr.heap.size = G at *
            go_region_held3 (fun W => W.cell? ⟨G, 0, none⟩ = some (.string e.1) ∧ W.cell? ⟨G, 1, none⟩ = some (.int .u64 e.2.1) ∧ W.cell? ⟨G, 2, none⟩ = some (.int .u64 e.2.2) ∧ Below W1.heap.size W1 W) ((refine KE.mk' c0 c1 c2 ?_; first | assumption | exact below_drewN (Below.refl _ _) _ | exact (below_drewN (Below.refl _ _) _).drew | exact bq1 _ _ _ | exact bq2 _ _ _ _ | exact Below.alloc (by assumption) (Below.size (by assumption)) _)) (first | (refine step_appNC kEn W1 rfl (.tmp 29) (.tmp 32) rfl _ [] rfl (some ⟨b, 0, none⟩) k co (lo.take k) rfl (by first | exact OwnK.empty' kEn rfl rfl | exact OwnK.empty' kEn rfl (aZ _ _ _) | exact (OwnK.empty' kEn rfl rfl).alloc _ | exact (OwnK.empty' kEn rfl (aZ _ _ _)).alloc _) (New.lit (by first | exact Nat.le_refl _ | exact Nat.le_succ _)) (by first | exact bq1 _ _ _ | exact bq2 _ _ _ _) (RdG.below r1 (by first | exact bq1 _ _ _ | exact bq2 _ _ _ _)) hby1 ?_; intro v1 w1 hO1 hN1 hB1 hC1) | (refine step_appNC kEn W1 rfl (.tmp 33) (.tmp 35) rfl v1 _ rfl _ 1 1 [e] rfl (by first | exact hO1 | exact hO1.alloc _) hN1 (by first | exact hB1 | exact hB1.alloc hB1.size _) (by first | exact RdG.one2 kEn e rfl rfl rfl | exact RdG.one2 kEn e rfl rfl (aZ _ _ _) | exact hC1 _ _ _ _ (RdG.one2 kEn e rfl rfl rfl) (lit_ne (by first | exact Nat.ne_of_lt (Nat.lt_succ_self _) | exact Nat.ne_of_gt (Nat.lt_succ_self _))) | exact hC1 _ _ _ _ (RdG.one2 kEn e rfl rfl (aZ _ _ _)) (lit_ne (by first | exact Nat.ne_of_lt (Nat.lt_succ_self _) | exact Nat.ne_of_gt (Nat.lt_succ_self _))) | exact hC1 _ _ _ _ ((RdG.one2 kEn e rfl rfl rfl).alloc' _) (lit_ne (by first | exact Nat.ne_of_lt (Nat.lt_succ_self _) | exact Nat.ne_of_gt (Nat.lt_succ_self _))) | exact hC1 _ _ _ _ ((RdG.one2 kEn e rfl rfl (aZ _ _ _)).alloc' _) (lit_ne (by first | exact Nat.ne_of_lt (Nat.lt_succ_self _) | exact Nat.ne_of_gt (Nat.lt_succ_self _)))) hby2 ?_; intro v2 w2 hO2 hN2 hB2 hC2) | (refine step_appNC kEn W1 rfl (.tmp 36) (.tmp 39) rfl v2 _ rfl (some AD) (i - k) (co - k) (lo.drop k) rfl hO2 hN2 hB2 (RdG.below r2 hB2) hby3 ?_; intro v3 w3 hO3 hN3 hB3 hC3))
            all_goals
              have HZ : Hid (OwnK kEn w3 v3 (sortE (l.take (i + 1))) ∧ New w v3 ∧ Below w.heap.size w w3) := Lib.hid ⟨by rw [← HFin.out]; exact hO3, fun q hq => Nat.le_trans hW1z (hN3 q hq), hbW1.trans (hB3.mono hW1z)⟩
              clear hO1 hO2 hO3 hN1 hN2 hN3 hB1 hB2 hB3 hC1 hC2 hC3 r1 r2
              go_wp2
              go_roundw
              case rel => exact ⟨i + 1, by omega, by go_num, HZ.out.1, HZ.out.2.1, HZ.out.2.2⟩
              case measure => (simp [intOf] <;> omega)
    · have hin : i = n := by omega
      have hiI : ¬ (i : Int) < (n : Int) := by omega
      rw [hin, List.take_of_length_le (by omega)] at hO
      obtain ⟨Ao, co, rfl, hR, hform⟩ := hO.form (n := n) (by rw [sortE_len, hll])
      have HR := Lib.hid (And.intro hO (And.intro hN hB))
      clear hO hR hform hN hB h
      go_wp2
      go_ret
      exact ⟨Ao, co, rfl, HR.out.1, HR.out.2.1, HR.out.2.2⟩
end Go.Proofs.Ytjkomnjkolggnaa
