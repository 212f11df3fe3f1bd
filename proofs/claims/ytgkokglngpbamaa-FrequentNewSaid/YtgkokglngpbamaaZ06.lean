/- Words laid together in one text. Conditions: none beyond those typed. -/
import Derived.Test.YtgkokglngpbamaaZ04
import Derived.Test.YtgkokglngpbamaaMmath
import Derived.Test.YtgkokglngpbamaaZ05
import Derived.Test.YtgkokglngpbamaaBase
import Derived.Test.YtgkokglngpbamaaTm
import Derived.Test.YtgkokglngpbamaaBm
import Derived.Deep.RegionHeld3
import Derived.Deep.RegionLaw
/- The specified table: Sorted. Conditions: none beyond those typed. -/
namespace Go.Proofs.Ytgkokglngpbamaa
open Go.ChangeShapes Go.WideShapes Go.ChangeAt Go.RowKit
set_option linter.unusedVariables false
set_option linter.unusedSimpArgs false
set_option maxRecDepth 100000

/-- An entry comes behind those with lesser keys. -/
def insSE (out : List En) (e : En) : List En := out.take (placeM out e.1) ++ e :: out.drop (placeM out e.1)
/-- Entries in ascending order of their keys. -/
def sortE (l : List En) : List En := l.foldl insSE []
theorem insSE_len (out : List En) (e : En) : (insSE out e).length = out.length + 1 := by
  unfold insSE
  rw [List.length_append, List.length_cons, List.length_take, List.length_drop]
  have := place_le out e.1
  omega
theorem insSE_perm (out : List En) (e : En) : (insSE out e).Perm (e :: out) := by
  unfold insSE
  have := List.perm_middle (a := e) (l₁ := out.take (placeM out e.1)) (l₂ := out.drop (placeM out e.1))
  rwa [List.take_append_drop] at this
theorem foldSE_perm : ∀ (l out : List En), (l.foldl insSE out).Perm (l ++ out)
  | [], out => List.Perm.refl _
  | e :: l, out => (foldSE_perm l (insSE out e)).trans (by
      have h1 : (l ++ insSE out e).Perm (l ++ e :: out) := (insSE_perm out e).append_left l
      exact h1.trans List.perm_middle)
theorem sortE_perm (l : List En) : (sortE l).Perm l := by
  have := foldSE_perm l []
  rwa [List.append_nil] at this
theorem sortE_len (l : List En) : (sortE l).length = l.length := (sortE_perm l).length_eq
theorem sortE_next {l : List En} {i : Nat} {e : En} (h : l[i]? = some e) : sortE (l.take (i + 1)) = insSE (sortE (l.take i)) e := by
  unfold sortE
  rw [List.take_add_one, h, List.foldl_append]
  rfl
theorem placeM_is {out : List En} {s : ByteArray} {k : Nat} (hb : ∀ (j : Nat) (p : En), j < k → out[j]? = some p → sless p.1 s = true) (hk : ∀ p : En, out[k]? = some p → sless p.1 s = false) (hl : k ≤ out.length) : placeM out s = k := by
  rcases Nat.lt_trichotomy (placeM out s) k with h | h | h
  · obtain ⟨p, hp⟩ : ∃ p, out[placeM out s]? = some p := ⟨_, List.getElem?_eq_getElem (by omega)⟩
    have h1 := hb _ p h hp
    rw [place_at hp] at h1; cases h1
  · exact h
  · have h2 := place_le out s
    obtain ⟨p, hp⟩ : ∃ p, out[k]? = some p := ⟨_, List.getElem?_eq_getElem (by omega)⟩
    have h1 := place_before h hp
    rw [hk p hp] at h1; cases h1
theorem KE.mk' {W1 w : World} {g : Nat} {e : En} (c0 : W1.cell? ⟨g, 0, none⟩ = some (.string e.1)) (c1 : W1.cell? ⟨g, 1, none⟩ = some (.int .u64 e.2.1)) (c2 : W1.cell? ⟨g, 2, none⟩ = some (.int .u64 e.2.2)) (h : Below W1.heap.size W1 w) :
    w.cell? ⟨g, 0, none⟩ = some (.string e.1) ∧ w.cell? ⟨g, 1, none⟩ = some (.int .u64 e.2.1) ∧ w.cell? ⟨g, 2, none⟩ = some (.int .u64 e.2.2) ∧ Below W1.heap.size W1 w :=
  ⟨(h.cell (p := ⟨g, 0, none⟩) (World.block_lt_of_cell? _ _ c0)).trans c0, (h.cell (p := ⟨g, 1, none⟩) (World.block_lt_of_cell? _ _ c1)).trans c1, (h.cell (p := ⟨g, 2, none⟩) (World.block_lt_of_cell? _ _ c2)).trans c2, h⟩
theorem aZ (W : World) (m : Nat) (o : Obj) : W.heap.size + 1 = ((W.drewN m).alloc o).heap.size := by simp
theorem bq1 (W : World) (m : Nat) (o : Obj) : Below W.heap.size W ((W.drewN m).alloc o) := (below_drewN (Below.refl _ _) m).alloc (Nat.le_refl _) o
theorem bq2 (W : World) (m : Nat) (o o' : Obj) : Below W.heap.size W (((W.drewN m).alloc o).alloc o') := (bq1 W m o).alloc (bq1 W m o).size o'
set_option maxHeartbeats 4000000 in
theorem sorted_any {w : World} {A : Option Addr} {n c : Nat} {l : List En} (h : RdG kEn w A n c l) (hn : n ≤ 1000) :
    Calls Try.prog 49 #[.slice A n c] w (RowOut kEn w (sortE l)) := by
  have hcap := h.cap
  have hmax := h.max
  have hll := h.len
  go_enter Try.func49, Try.ntmps49
  go_wp2
  go_loopw [3, 9] (fun v iv wr => ∃ i : Nat, i ≤ n ∧ iv = .int .i64 (i : Int) ∧ OwnK kEn wr v (sortE (l.take i)) ∧ New w v ∧ Below w.heap.size w wr) (fun _ iv _ => n - (intOf iv).toNat)
  case atStart => exact ⟨0, Nat.zero_le _, rfl, OwnK.nil kEn _, fun q hq => by simp [Value.ownBlock] at hq, Below.refl _ _⟩
  case round =>
    obtain ⟨i, hi, rfl, hO, hN, hB⟩ := hrel
    by_cases hlt : i < n
    · obtain ⟨b0, o0, e, rfl, he, z0, z1, z2⟩ := (h.below hB).atEn hlt
      have hiI : (i : Int) < (n : Int) := by omega
      obtain ⟨lo, hlo⟩ : ∃ lo, sortE (l.take i) = lo := ⟨_, rfl⟩
      have hnx := Lib.hid (show insSE lo e = sortE (l.take (i + 1)) by rw [sortE_next he, hlo])
      have hlol : lo.length = i := by rw [← hlo, sortE_len, List.length_take]; omega
      rw [hlo] at hO
      obtain ⟨Ao, co, rfl, hR, hform⟩ := hO.form hlol
      have hbW1 : Below w.heap.size w (wr.alloc (.cells (VE e) 32)) := hB.alloc hB.size _
      have c0 : (wr.alloc (.cells (VE e) 32)).cell? ⟨wr.heap.size, 0, none⟩ = some (.string e.1) := (World.cell?_alloc_at (w := wr) _ _ _ _ rfl).trans rfl
      have c1 : (wr.alloc (.cells (VE e) 32)).cell? ⟨wr.heap.size, 1, none⟩ = some (.int .u64 e.2.1) := (World.cell?_alloc_at (w := wr) _ _ _ _ rfl).trans rfl
      have c2 : (wr.alloc (.cells (VE e) 32)).cell? ⟨wr.heap.size, 2, none⟩ = some (.int .u64 e.2.2) := (World.cell?_alloc_at (w := wr) _ _ _ _ rfl).trans rfl
      have R1 : RdG kEn (wr.alloc (.cells (VE e) 32)) Ao i co lo := hR.below ((Below.refl _ _).alloc (Nat.le_refl _) _)
      have hcapo := hR.cap
      have hmaxo := hR.max
      clear hO hR hlo he
      rcases hform with ⟨rfl, hl0, rfl⟩ | ⟨b, rfl, hbl⟩
      · have hi0 : i = 0 := by rw [← hlol, hl0]; rfl
        subst hi0
        subst hl0
        have HFin := Lib.hid (show ([] ++ ([] : List En)) ++ [e] ++ ([] : List En) = sortE (l.take (0 + 1)) by rw [← hnx.out]; rfl)
        rw [Nat.zero_mul, Nat.add_zero] at z0 z1 z2
        go_wp2
        go_loopw [6] (fun kv W => kv = .int .i64 0 ∧ ∃ m, W = (wr.alloc (.cells (VE e) 32)).drewN m) (fun _ _ => 0)
        case atStart => exact ⟨rfl, 0, rfl⟩
        case round =>
          obtain ⟨rfl, m, rfl⟩ := hrel
          go_wp2
          go_quiet (fail)
          go_wp2_with fail
          rw [World.drewN_drewN]
          have r1 : RdG kEn (wr.alloc (.cells (VE e) 32)) none 0 0 [] := RdG.nil _ _ _ (by decide)
          have r2 : RdG kEn (wr.alloc (.cells (VE e) 32)) none 0 0 [] := RdG.nil _ _ _ (by decide)
          have hby1 : ([] : List En).length + 0 ≤ 1000000000 := by simp
          have hby2 : ([] ++ ([] : List En)).length + 1 ≤ 1000000000 := by simp
          have hby3 : ([] ++ ([] : List En) ++ [e]).length + 0 ≤ 1000000000 := by simp
          have hW1z := hbW1.size
          clear h hnx R1 hlol
          generalize wr.alloc (.cells (VE e) 32) = W1 at *
          generalize wr.heap.size = G at *
          go_region_held3 (fun W => W.cell? ⟨G, 0, none⟩ = some (.string e.1) ∧ W.cell? ⟨G, 1, none⟩ = some (.int .u64 e.2.1) ∧ W.cell? ⟨G, 2, none⟩ = some (.int .u64 e.2.2) ∧ Below W1.heap.size W1 W) ((refine KE.mk' c0 c1 c2 ?_; first | assumption | exact below_drewN (Below.refl _ _) _ | exact (below_drewN (Below.refl _ _) _).drew | exact bq1 _ _ _ | exact bq2 _ _ _ _ | exact Below.alloc (by assumption) (Below.size (by assumption)) _)) (first | (refine step_appNC kEn W1 rfl (.tmp 29) (.tmp 32) rfl _ [] rfl none 0 0 [] rfl (by first | exact OwnK.empty' kEn rfl rfl | exact OwnK.empty' kEn rfl (aZ _ _ _) | exact (OwnK.empty' kEn rfl rfl).alloc _ | exact (OwnK.empty' kEn rfl (aZ _ _ _)).alloc _) (New.lit (by first | exact Nat.le_refl _ | exact Nat.le_succ _)) (by first | exact bq1 _ _ _ | exact bq2 _ _ _ _) (RdG.below r1 (by first | exact bq1 _ _ _ | exact bq2 _ _ _ _)) hby1 ?_; intro v1 w1 hO1 hN1 hB1 hC1) | (refine step_appNC kEn W1 rfl (.tmp 33) (.tmp 35) rfl v1 _ rfl _ 1 1 [e] rfl (by first | exact hO1 | exact hO1.alloc _) hN1 (by first | exact hB1 | exact hB1.alloc hB1.size _) (by first | exact RdG.one2 kEn e rfl rfl rfl | exact RdG.one2 kEn e rfl rfl (aZ _ _ _) | exact hC1 _ _ _ _ (RdG.one2 kEn e rfl rfl rfl) (lit_ne (by first | exact Nat.ne_of_lt (Nat.lt_succ_self _) | exact Nat.ne_of_gt (Nat.lt_succ_self _))) | exact hC1 _ _ _ _ (RdG.one2 kEn e rfl rfl (aZ _ _ _)) (lit_ne (by first | exact Nat.ne_of_lt (Nat.lt_succ_self _) | exact Nat.ne_of_gt (Nat.lt_succ_self _))) | exact hC1 _ _ _ _ ((RdG.one2 kEn e rfl rfl rfl).alloc' _) (lit_ne (by first | exact Nat.ne_of_lt (Nat.lt_succ_self _) | exact Nat.ne_of_gt (Nat.lt_succ_self _))) | exact hC1 _ _ _ _ ((RdG.one2 kEn e rfl rfl (aZ _ _ _)).alloc' _) (lit_ne (by first | exact Nat.ne_of_lt (Nat.lt_succ_self _) | exact Nat.ne_of_gt (Nat.lt_succ_self _)))) hby2 ?_; intro v2 w2 hO2 hN2 hB2 hC2) | (refine step_appNC kEn W1 rfl (.tmp 36) (.tmp 39) rfl v2 _ rfl none 0 0 [] rfl hO2 hN2 hB2 (RdG.below r2 hB2) hby3 ?_; intro v3 w3 hO3 hN3 hB3 hC3))
          all_goals
            have HZ : Hid (OwnK kEn w3 v3 (sortE (l.take (0 + 1))) ∧ New w v3 ∧ Below w.heap.size w w3) := Lib.hid ⟨by rw [← HFin.out]; exact hO3, fun q hq => Nat.le_trans hW1z (hN3 q hq), hbW1.trans (hB3.mono hW1z)⟩
            clear hO1 hO2 hO3 hN1 hN2 hN3 hB1 hB2 hB3 hC1 hC2 hC3 r1 r2
            go_wp2
            go_roundw
            case rel => exact ⟨0 + 1, by omega, by go_num, HZ.out.1, HZ.out.2.1, HZ.out.2.2⟩
            case measure => (simp [intOf] <;> omega)
      · go_wp2
        go_loopw [6] (fun kv W => ∃ k : Nat, k ≤ i ∧ kv = .int .i64 (k : Int) ∧ (∀ (j : Nat) (p : En), j < k → lo[j]? = some p → sless p.1 e.1 = true) ∧ ∃ m, W = (wr.alloc (.cells (VE e) 32)).drewN m) (fun kv _ => i - (intOf kv).toNat)
        case atStart => exact ⟨0, Nat.zero_le _, rfl, fun j p hj => absurd hj (Nat.not_lt_zero _), 0, rfl⟩
        case round =>
          obtain ⟨k, hki, rfl, hless, m, rfl⟩ := hrel
          by_cases hlk : k < i
          · obtain ⟨b', o', p, hA', hp, p0, _, _⟩ := R1.atEn hlk
            injection hA' with hA'; injection hA' with hA1 hA2; subst hA1 hA2
            rw [Nat.zero_add] at p0
            have hkI : (k : Int) < (i : Int) := by omega
            have hd1 : decide ((k : Int) < (i : Int)) = true := decide_eq_true hkI
            cases hb1 : Op.bytesLess p.1.toList e.1.toList with
            | true =>
              have HL := Lib.hid (show ∀ (j : Nat) (p : En), j < k + 1 → lo[j]? = some p → sless p.1 e.1 = true from fun j q hj hq => by
                rcases Nat.lt_or_ge j k with h1 | h1
                · exact hless j q h1 hq
                · obtain rfl : j = k := by omega
                  rw [hp] at hq; injection hq with hq; subst hq; exact hb1)
              clear hless hp
              go_wp2
              go_quiet (fail)
              go_wp2
              go_roundw
              case rel => exact ⟨k + 1, by omega, by go_num, HL.out, m + nq, by first | rfl | exact World.drewN_drewN _ _ _⟩
              case measure => (simp [intOf] <;> omega)
            | false =>
              have HP := Lib.hid (show placeM lo e.1 = k from placeM_is hless (fun q hq => by rw [hp] at hq; injection hq with hq; subst hq; exact hb1) (by omega))
              clear hless hp
              have HFin := Lib.hid (show ([] ++ lo.take k) ++ [e] ++ lo.drop k = sortE (l.take (i + 1)) by rw [← hnx.out]; unfold insSE; rw [HP.out]; simp)
              have r1 := R1.head (j := k) hki
              obtain ⟨AD, hAD, r2⟩ : ∃ AD, (if co = k then (some ⟨b, 0, none⟩ : Option Addr) else some ⟨b, k * 3, none⟩) = some AD ∧ RdG kEn (wr.alloc (.cells (VE e) 32)) (some AD) (i - k) (co - k) (lo.drop k) := by
                have h := R1.dropIf (i := k) hki
                rw [show 0 + k * kEn.k = k * 3 by simp [kEn]] at h
                by_cases hc : co = k
                · rw [if_pos hc] at h ⊢; exact ⟨_, rfl, h⟩
                · rw [if_neg hc] at h ⊢; exact ⟨_, rfl, h⟩
              have hki1 : (k : Int) ≤ (i : Int) := by omega
              have hKh : (k : Int) ≤ (co : Int) := by omega
              have hby1 : ([] : List En).length + k ≤ 1000000000 := by simp; omega
              have hby2 : ([] ++ lo.take k).length + 1 ≤ 1000000000 := by simp; omega
              have hby3 : ([] ++ lo.take k ++ [e]).length + (i - k) ≤ 1000000000 := by simp; omega
              have hW1z := hbW1.size
              clear hnx R1 hlol h
              go_wp2
              go_quiet (fail)
              go_wp2_with fail
              rw [World.drewN_drewN]
              generalize wr.alloc (.cells (VE e) 32) = W1 at *
              generalize wr.heap.size = G at *
              go_region_held3 (fun W => W.cell? ⟨G, 0, none⟩ = some (.string e.1) ∧ W.cell? ⟨G, 1, none⟩ = some (.int .u64 e.2.1) ∧ W.cell? ⟨G, 2, none⟩ = some (.int .u64 e.2.2) ∧ Below W1.heap.size W1 W) ((refine KE.mk' c0 c1 c2 ?_; first | assumption | exact below_drewN (Below.refl _ _) _ | exact (below_drewN (Below.refl _ _) _).drew | exact bq1 _ _ _ | exact bq2 _ _ _ _ | exact Below.alloc (by assumption) (Below.size (by assumption)) _)) (first | (refine step_appNC kEn W1 rfl (.tmp 29) (.tmp 32) rfl _ [] rfl (some ⟨b, 0, none⟩) k co (lo.take k) rfl (by first | exact OwnK.empty' kEn rfl rfl | exact OwnK.empty' kEn rfl (aZ _ _ _) | exact (OwnK.empty' kEn rfl rfl).alloc _ | exact (OwnK.empty' kEn rfl (aZ _ _ _)).alloc _) (New.lit (by first | exact Nat.le_refl _ | exact Nat.le_succ _)) (by first | exact bq1 _ _ _ | exact bq2 _ _ _ _) (RdG.below r1 (by first | exact bq1 _ _ _ | exact bq2 _ _ _ _)) hby1 ?_; intro v1 w1 hO1 hN1 hB1 hC1) | (refine step_appNC kEn W1 rfl (.tmp 33) (.tmp 35) rfl v1 _ rfl _ 1 1 [e] rfl (by first | exact hO1 | exact hO1.alloc _) hN1 (by first | exact hB1 | exact hB1.alloc hB1.size _) (by first | exact RdG.one2 kEn e rfl rfl rfl | exact RdG.one2 kEn e rfl rfl (aZ _ _ _) | exact hC1 _ _ _ _ (RdG.one2 kEn e rfl rfl rfl) (lit_ne (by first | exact Nat.ne_of_lt (Nat.lt_succ_self _) | exact Nat.ne_of_gt (Nat.lt_succ_self _))) | exact hC1 _ _ _ _ (RdG.one2 kEn e rfl rfl (aZ _ _ _)) (lit_ne (by first | exact Nat.ne_of_lt (Nat.lt_succ_self _) | exact Nat.ne_of_gt (Nat.lt_succ_self _))) | exact hC1 _ _ _ _ ((RdG.one2 kEn e rfl rfl rfl).alloc' _) (lit_ne (by first | exact Nat.ne_of_lt (Nat.lt_succ_self _) | exact Nat.ne_of_gt (Nat.lt_succ_self _))) | exact hC1 _ _ _ _ ((RdG.one2 kEn e rfl rfl (aZ _ _ _)).alloc' _) (lit_ne (by first | exact Nat.ne_of_lt (Nat.lt_succ_self _) | exact Nat.ne_of_gt (Nat.lt_succ_self _)))) hby2 ?_; intro v2 w2 hO2 hN2 hB2 hC2) | (refine step_appNC kEn W1 rfl (.tmp 36) (.tmp 39) rfl v2 _ rfl (some AD) (i - k) (co - k) (lo.drop k) rfl hO2 hN2 hB2 (RdG.below r2 hB2) hby3 ?_; intro v3 w3 hO3 hN3 hB3 hC3))
              all_goals
                have HZ : Hid (OwnK kEn w3 v3 (sortE (l.take (i + 1))) ∧ New w v3 ∧ Below w.heap.size w w3) := Lib.hid ⟨by rw [← HFin.out]; exact hO3, fun q hq => Nat.le_trans hW1z (hN3 q hq), hbW1.trans (hB3.mono hW1z)⟩
                clear hO1 hO2 hO3 hN1 hN2 hN3 hB1 hB2 hB3 hC1 hC2 hC3 r1 r2
                go_wp2
                go_roundw
                case rel => exact ⟨i + 1, by omega, by go_num, HZ.out.1, HZ.out.2.1, HZ.out.2.2⟩
                case measure => (simp [intOf] <;> omega)
          · have hkI : ¬ (k : Int) < (i : Int) := by omega
            have hd1 : decide ((k : Int) < (i : Int)) = false := decide_eq_false hkI
            have HP := Lib.hid (show placeM lo e.1 = k from placeM_is hless (fun q hq => by have := (List.getElem?_eq_some_iff.1 hq).1; omega) (by omega))
            clear hless
            have HFin := Lib.hid (show ([] ++ lo.take k) ++ [e] ++ lo.drop k = sortE (l.take (i + 1)) by rw [← hnx.out]; unfold insSE; rw [HP.out]; simp)
            have r1 := R1.head (j := k) hki
            obtain ⟨AD, hAD, r2⟩ : ∃ AD, (if co = k then (some ⟨b, 0, none⟩ : Option Addr) else some ⟨b, k * 3, none⟩) = some AD ∧ RdG kEn (wr.alloc (.cells (VE e) 32)) (some AD) (i - k) (co - k) (lo.drop k) := by
              have h := R1.dropIf (i := k) hki
              rw [show 0 + k * kEn.k = k * 3 by simp [kEn]] at h
              by_cases hc : co = k
              · rw [if_pos hc] at h ⊢; exact ⟨_, rfl, h⟩
              · rw [if_neg hc] at h ⊢; exact ⟨_, rfl, h⟩
            have hki1 : (k : Int) ≤ (i : Int) := by omega
            have hKh : (k : Int) ≤ (co : Int) := by omega
            have hby1 : ([] : List En).length + k ≤ 1000000000 := by simp; omega
            have hby2 : ([] ++ lo.take k).length + 1 ≤ 1000000000 := by simp; omega
            have hby3 : ([] ++ lo.take k ++ [e]).length + (i - k) ≤ 1000000000 := by simp; omega
            have hW1z := hbW1.size
            clear hnx R1 hlol h
            go_wp2
            go_quiet (fail)
            go_wp2_with fail
            rw [World.drewN_drewN]
            generalize wr.alloc (.cells (VE e) 32) = W1 at *
            generalize wr.heap.size = G at *
            go_region_held3 (fun W => W.cell? ⟨G, 0, none⟩ = some (.string e.1) ∧ W.cell? ⟨G, 1, none⟩ = some (.int .u64 e.2.1) ∧ W.cell? ⟨G, 2, none⟩ = some (.int .u64 e.2.2) ∧ Below W1.heap.size W1 W) ((refine KE.mk' c0 c1 c2 ?_; first | assumption | exact below_drewN (Below.refl _ _) _ | exact (below_drewN (Below.refl _ _) _).drew | exact bq1 _ _ _ | exact bq2 _ _ _ _ | exact Below.alloc (by assumption) (Below.size (by assumption)) _)) (first | (refine step_appNC kEn W1 rfl (.tmp 29) (.tmp 32) rfl _ [] rfl (some ⟨b, 0, none⟩) k co (lo.take k) rfl (by first | exact OwnK.empty' kEn rfl rfl | exact OwnK.empty' kEn rfl (aZ _ _ _) | exact (OwnK.empty' kEn rfl rfl).alloc _ | exact (OwnK.empty' kEn rfl (aZ _ _ _)).alloc _) (New.lit (by first | exact Nat.le_refl _ | exact Nat.le_succ _)) (by first | exact bq1 _ _ _ | exact bq2 _ _ _ _) (RdG.below r1 (by first | exact bq1 _ _ _ | exact bq2 _ _ _ _)) hby1 ?_; intro v1 w1 hO1 hN1 hB1 hC1) | (refine step_appNC kEn W1 rfl (.tmp 33) (.tmp 35) rfl v1 _ rfl _ 1 1 [e] rfl (by first | exact hO1 | exact hO1.alloc _) hN1 (by first | exact hB1 | exact hB1.alloc hB1.size _) (by first | exact RdG.one2 kEn e rfl rfl rfl | exact RdG.one2 kEn e rfl rfl (aZ _ _ _) | exact hC1 _ _ _ _ (RdG.one2 kEn e rfl rfl rfl) (lit_ne (by first | exact Nat.ne_of_lt (Nat.lt_succ_self _) | exact Nat.ne_of_gt (Nat.lt_succ_self _))) | exact hC1 _ _ _ _ (RdG.one2 kEn e rfl rfl (aZ _ _ _)) (lit_ne (by first | exact Nat.ne_of_lt (Nat.lt_succ_self _) | exact Nat.ne_of_gt (Nat.lt_succ_self _))) | exact hC1 _ _ _ _ ((RdG.one2 kEn e rfl rfl rfl).alloc' _) (lit_ne (by first | exact Nat.ne_of_lt (Nat.lt_succ_self _) | exact Nat.ne_of_gt (Nat.lt_succ_self _))) | exact hC1 _ _ _ _ ((RdG.one2 kEn e rfl rfl (aZ _ _ _)).alloc' _) (lit_ne (by first | exact Nat.ne_of_lt (Nat.lt_succ_self _) | exact Nat.ne_of_gt (Nat.lt_succ_self _)))) hby2 ?_; intro v2 w2 hO2 hN2 hB2 hC2) | (refine step_appNC kEn W1 rfl (.tmp 36) (.tmp 39) rfl v2 _ rfl (some AD) (i - k) (co - k) (lo.drop k) rfl hO2 hN2 hB2 (RdG.below r2 hB2) hby3 ?_; intro v3 w3 hO3 hN3 hB3 hC3))
            all_goals
              have HZ : Hid (OwnK kEn w3 v3 (sortE (l.take (i + 1))) ∧ New w v3 ∧ Below w.heap.size w w3) := Lib.hid ⟨by rw [← HFin.out]; exact hO3, fun q hq => Nat.le_trans hW1z (hN3 q hq), hbW1.trans (hB3.mono hW1z)⟩
              clear hO1 hO2 hO3 hN1 hN2 hN3 hB1 hB2 hB3 hC1 hC2 hC3 r1 r2
              go_wp2
              go_roundw
              case rel => exact ⟨i + 1, by omega, by go_num, HZ.out.1, HZ.out.2.1, HZ.out.2.2⟩
              case measure => (simp [intOf] <;> omega)
    · have hin : i = n := by omega
      have hiI : ¬ (i : Int) < (n : Int) := by omega
      rw [hin, List.take_of_length_le (by omega)] at hO
      obtain ⟨Ao, co, rfl, hR, hform⟩ := hO.form (n := n) (by rw [sortE_len, hll])
      have HR := Lib.hid (And.intro hR (And.intro hN hB))
      clear hO hR hform hN hB h
      go_wp2
      go_ret
      exact ⟨Ao, n, co, by rw [sortE_len, hll], rfl, HR.out.1, fun b o sp e => HR.out.2.1 b (by rw [e]; rfl), HR.out.2.2⟩
end Go.Proofs.Ytgkokglngpbamaa

/- z & m for any number z: from 0 to m. Conditions: none beyond those typed. -/
namespace Go.Proofs.Ytgkokglngpbamaa
open Go.ChangeShapes Go.WideShapes Go.ChangeAt Go.RowKit
theorem mask_any (z : Int) (m : Nat) (hm : m < 4611686018427387904) : ∃ x : Nat, x ≤ m ∧ bits .and .i64 z (m : Int) = (x : Int) := by
  refine ⟨(BitVec.ofInt 64 z &&& BitVec.ofInt 64 (m : Int)).toNat, ?_, ?_⟩
  · rw [BitVec.toNat_and]
    refine Nat.le_trans Nat.and_le_right ?_
    rw [BitVec.ofInt_natCast, BitVec.toNat_ofNat]
    exact Nat.mod_le _ _
  · have h : (BitVec.ofInt 64 z &&& BitVec.ofInt 64 (m : Int)).toNat ≤ m := by
      rw [BitVec.toNat_and]
      refine Nat.le_trans Nat.and_le_right ?_
      rw [BitVec.ofInt_natCast, BitVec.toNat_ofNat]
      exact Nat.mod_le _ _
    show IntKind.i64.wrap ((BitVec.ofInt 64 z &&& BitVec.ofInt 64 (m : Int)).toNat : Int) = _
    exact IntWalk.i64_in _ (by omega)
end Go.Proofs.Ytgkokglngpbamaa

/- heavykeyslaw03.list: up to nine tags. Conditions: none beyond those typed. -/
namespace Go.Proofs.Ytgkokglngpbamaa
open Go.ChangeShapes Go.WideShapes Go.ChangeAt Go.RowKit
set_option linter.unusedVariables false
set_option maxRecDepth 100000
set_option linter.unusedSimpArgs false

def lit1 : ByteArray := ⟨#[97, 98, 99, 100, 101, 102, 103, 104, 105, 106, 107, 108, 109, 110, 111, 112, 95, 46, 45, 48, 49, 50, 51, 52, 53, 54, 55, 56, 57, 113, 114, 115, 116, 117, 118, 119, 120, 121, 122]⟩
def lit2 : ByteArray := ⟨#[48, 49, 50, 51, 52, 53, 54, 55, 56, 57, 48, 49, 50, 51, 52, 53, 54, 55, 56, 57, 48, 49, 50, 51, 52, 53, 54, 55, 56, 57, 48, 49, 50, 51, 52, 53, 54, 55, 56, 57]⟩
/-- A tag of list's own making. -/
def Good (t : Tg) : Prop := (vErr t = 0 ∨ vErr t = 4) ∧ t.1.size ≤ 80 ∧ t.2.size ≤ 80
theorem lit1_names : ∀ c ∈ lit1.data.toList, nbI (c.toNat : Int) = true := by decide
theorem mem_extract {s : ByteArray} {a b : Nat} {c : UInt8} (h : c ∈ (s.extract a b).data.toList) : c ∈ s.data.toList := by
  rw [ByteArray.data_extract] at h
  simp only [Array.toList_extract, List.extract_eq_take_drop] at h
  exact List.mem_of_mem_drop (List.mem_of_mem_take h)
theorem good_of (a b v : Nat) (ha : (a : Int) < 20) (hv : (v : Int) < 41) : Good (lit1.extract a (20 + b), lit2.extract 0 v) := by
  have s1 : lit1.size = 39 := rfl
  have s2 : lit2.size = 40 := rfl
  have h1 : (lit1.extract a (20 + b)).size ≤ 39 := by rw [ByteArray.size_extract, s1]; omega
  have h2 : (lit2.extract 0 v).size ≤ 40 := by rw [ByteArray.size_extract, s2]; omega
  have h3 : 0 < (lit1.extract a (20 + b)).size := by rw [ByteArray.size_extract, s1]; omega
  have hn : nameOk (nm (lit1.extract a (20 + b), lit2.extract 0 v)) = true := by
    unfold nameOk nm
    rw [Bool.and_eq_true]
    refine ⟨List.all_eq_true.2 fun c hc => lit1_names c (mem_extract hc), ?_⟩
    rw [← Lib.toList_data, ba_some h3]; rfl
  refine ⟨?_, by show (lit1.extract a (20 + b)).size ≤ 80; omega, by show (lit2.extract 0 v).size ≤ 80; omega⟩
  unfold vErr
  rw [if_pos hn]
  split
  · exact .inr rfl
  · exact .inl rfl
theorem ext_size (s : ByteArray) (a b : Nat) (hs : s.size ≤ 1000) : (s.extract a b).size ≤ 140737488355328 := by rw [ByteArray.size_extract]; omega

theorem good_snoc {l : List Tg} {t : Tg} (h : ∀ t ∈ l, Good t) (ht : Good t) : ∀ x ∈ l ++ [t], Good x := by
  intro x hx
  rcases List.mem_append.1 hx with hx | hx
  · exact h x hx
  · simp at hx; subst hx; exact ht
theorem RdI.lt {w : World} {A : Option Addr} {n c : Nat} (h : RdI w A n c) : ∀ j, j < n → ∀ b o, A = Option.some ⟨b, o, Option.none⟩ → b ≠ w.heap.size := by
  intro j hj b o hA
  obtain ⟨b', o', z, hA', hc, _⟩ := h.2.2 j hj
  rw [hA] at hA'
  injection hA' with hA'
  injection hA' with e1 e2
  subst e1
  have := World.block_lt_of_cell? w ⟨b, _, Option.none⟩ hc
  intro e
  simp at this
  omega
theorem mask_zero : bits .and .i64 0 3 = 0 := by decide

theorem cellsT_set0 : ∀ (l : List Tg) (j : Nat) (p q s : ByteArray), l[j]? = some (p, q) → (cellsT l).set (j * 2) (.string s) = cellsT (l.set j (s, q))
  | [], j, p, q, s, h => by simp at h
  | x :: r, 0, p, q, s, h => by simp at h; subst h; rfl
  | x :: r, j + 1, p, q, s, h => by
    have ih := cellsT_set0 r j p q s (by simpa using h)
    have e : cellsT (x :: r) = .string x.1 :: .string x.2 :: cellsT r := rfl
    have a : (j + 1) * 2 = j * 2 + 1 + 1 := by omega
    rw [e, a]
    simp only [List.set_cons_succ, ih]
    rfl
theorem cellsT_set1 : ∀ (l : List Tg) (j : Nat) (p q s : ByteArray), l[j]? = some (p, q) → (cellsT l).set (j * 2 + 1) (.string s) = cellsT (l.set j (p, s))
  | [], j, p, q, s, h => by simp at h
  | x :: r, 0, p, q, s, h => by simp at h; subst h; rfl
  | x :: r, j + 1, p, q, s, h => by
    have ih := cellsT_set1 r j p q s (by simpa using h)
    have e : cellsT (x :: r) = .string x.1 :: .string x.2 :: cellsT r := rfl
    have a : (j + 1) * 2 + 1 = j * 2 + 1 + 1 + 1 := by omega
    rw [e, a]
    simp only [List.set_cons_succ, ih]
    rfl
/-- A tag of list's, whatever is changed in one of them. -/
def Fair (z : Int) (t : Tg) : Prop := (z = 0 → vErr t = 0 ∨ vErr t = 4) ∧ t.1.size ≤ 80 ∧ t.2.size ≤ 80
theorem fair_good {z : Int} {l : List Tg} (h : ∀ t ∈ l, Good t) : ∀ t ∈ l, Fair z t := fun t ht => ⟨fun _ => (h t ht).1, (h t ht).2⟩
theorem fair_set {z : Int} {l : List Tg} {j : Nat} {t : Tg} (h : ∀ t ∈ l, Good t) (hz : z ≠ 0) (ht : t.1.size ≤ 80 ∧ t.2.size ≤ 80) : ∀ x ∈ l.set j t, Fair z x := by
  intro x hx
  rcases List.mem_or_eq_of_mem_set hx with h' | rfl
  · exact ⟨fun e => absurd e hz, (h x h').2⟩
  · exact ⟨fun e => absurd e hz, ht⟩

/-- What list gives back. -/
def ListOut (w : World) (P : Tg → Prop) (e : Ending) (w' : World) : Prop :=
  ∃ A n c l, e = .returned (.slice A n c) ∧ n ≤ 9 ∧ RdT w' A n c l ∧ (∀ t ∈ l, P t) ∧ Below w.heap.size w w'

end Go.Proofs.Ytgkokglngpbamaa

/- Decks that make tags, weights and events: Deck.Tags, Small, Weight, Event. Conditions: none beyond those typed. -/
namespace Go.Proofs.Ytgkokglngpbamaa
open Go.ChangeShapes Go.WideShapes Go.ChangeAt Go.RowKit
set_option linter.unusedVariables false
set_option linter.unusedSimpArgs false
set_option maxRecDepth 100000

/-- A deck in block g, whose numbers were there in world B; all since then has left alone what is older than B. -/
def Dk (B W : World) (g : Nat) (A : Option Addr) (n c : Nat) : Prop := RdI B A n c ∧ Below B.heap.size B W ∧ B.heap.size ≤ g ∧ ∃ a, DeckAt W g A n c a
section
variable {B W W' : World} {g n c : Nat} {A : Option Addr}
theorem Dk.new (h : RdI B A n c) : Dk B (B.alloc (.cells #[.slice A n c, .int .i64 0] 77)) B.heap.size A n c :=
  ⟨h, (Below.refl _ _).alloc (Nat.le_refl _) _, Nat.le_refl _, 0, heap_alloc_new B _, Nat.zero_le _⟩
theorem Dk.lt (h : Dk B W g A n c) : g < W.heap.size := by obtain ⟨_, _, _, a, hD⟩ := h; exact hD.lt
theorem Dk.ge (h : Dk B W g A n c) : B.heap.size ≤ g := h.2.2.1
theorem Dk.low (h : Dk B W g A n c) : Below B.heap.size B W := h.2.1
theorem Dk.step (h : Dk B W g A n c) (hD : ∃ a, DeckAt W' g A n c a) (hg : W.grownBy W' (some g)) : Dk B W' g A n c :=
  ⟨h.1, h.2.1.grown hg h.2.1.size (fun k hk => by injection hk with hk; have := h.2.2.1; omega), h.2.2.1, hD⟩
theorem Dk.far {row : Option Nat} (h : Dk B W g A n c) (hg : W.grownBy W' row) (hr : ∀ k, row = some k → g < k) : Dk B W' g A n c := by
  obtain ⟨h1, h2, h3, a, hD⟩ := h
  refine ⟨h1, h2.grown hg h2.size (fun k hk => by have := hr k hk; omega), h3, a, hD.far (hg.block g hD.lt ?_)⟩
  intro e
  have := hr g e.symm
  omega
theorem Dk.below (h : Dk B W g A n c) (hb : Below W.heap.size W W') : Dk B W' g A n c := by
  obtain ⟨h1, h2, h3, a, hD⟩ := h
  exact ⟨h1, h2.trans (hb.mono h2.size), h3, a, hD.below hb⟩
theorem Dk.alloc (h : Dk B W g A n c) (o : Obj) : Dk B (W.alloc o) g A n c := h.below ((Below.refl _ _).alloc (Nat.le_refl _) _)
theorem Dk.drewN (h : Dk B W g A n c) (k : Nat) : Dk B (W.drewN k) g A n c := ⟨h.1, below_drewN h.2.1 k, h.2.2.1, h.2.2.2⟩
end

/-- A number below k comes back, and the deck; nothing else has turned. -/
def NextDk (B : World) (g : Nat) (A : Option Addr) (n c : Nat) (k : Int) (W : World) (e : Ending) (W' : World) : Prop :=
  ∃ r : Nat, (r : Int) < k ∧ e = .returned (.int .i64 (r : Int)) ∧ Dk B W' g A n c ∧ W.grownBy W' (some g)
theorem next_dk {B W : World} {g n c : Nat} {A : Option Addr} (h : Dk B W g A n c) (k : Int) (h3 : 1 ≤ k) (h4 : k ≤ 4398046511104) :
    Calls Try.prog 43 #[.pointer (some ⟨g, 0, none⟩), .int .i64 k] W (NextDk B g A n c k W) := by
  obtain ⟨a, hD⟩ := h.2.2.2
  refine (next_any g A n c a k W hD (h.1.below h.2.1) ?_ h3 h4).mono ?_
  · intro j hj b o hA
    obtain ⟨b', o', z, hA', hc, _⟩ := h.1.2.2 j hj
    rw [hA] at hA'
    injection hA' with hA'
    injection hA' with e1 e2
    subst e1
    have := World.block_lt_of_cell? B ⟨b, _, none⟩ hc
    have := h.ge
    intro e
    simp at *
    omega
  · rintro e W' ⟨r, hr, he, hD', hg⟩
    exact ⟨r, hr, he, h.step hD' hg, hg⟩

/-- A weight comes back. -/
def WeightDk (B : World) (g : Nat) (A : Option Addr) (n c : Nat) (W : World) (e : Ending) (W' : World) : Prop :=
  ∃ x : Int, 0 ≤ x ∧ x ≤ 18446744073709551615 ∧ e = .returned (.int .u64 x) ∧ Dk B W' g A n c ∧ W.grownBy W' (some g)
theorem grown_on {a b c : World} {row row' : Option Nat} (h : a.grownBy b row) (k : b.grownBy c row') (hr : ∀ j, row' = some j → a.heap.size ≤ j) : a.grownBy c row :=
  ⟨k.os.trans h.os, k.tape.trans h.tape, k.output.trans h.output, Nat.le_trans h.size k.size, fun j hj hne => (k.block j (Nat.lt_of_lt_of_le hj h.size) (fun e => by have := hr j e.symm; omega)).trans (h.block j hj hne)⟩
/-- Tags of a deck's own making. -/
def FewTags (l : List Tg) : Prop := 1 ≤ l.length ∧ l.length ≤ 2 ∧ ∀ t ∈ l, vErr t = 0
def tK (r : Nat) : Tg := (⟨#[107]⟩, chr (97 + r))
def tAB : Tg := (⟨#[97, 46, 98]⟩, ⟨#[]⟩)
def tHost (r : Nat) : Tg := (⟨#[104, 111, 115, 116, 45]⟩ ++ chr (48 + r), ⟨#[48, 49, 50, 51, 52, 53, 54, 55, 56, 57]⟩)
theorem tK_ok (r : Nat) : vErr (tK r) = 0 := vErr_ok (by decide) (by decide) (Nat.le_trans (chr_size _) (by decide))
theorem tAB_ok : vErr tAB = 0 := by decide
theorem tHost_ok {r : Nat} (h : r < 3) : vErr (tHost r) = 0 := by
  match r, h with
  | 0, _ => decide
  | 1, _ => decide
  | 2, _ => decide
theorem fine_one (r : Nat) : FewTags [tK r] := ⟨by simp, by simp, fun t ht => by simp at ht; subst ht; exact tK_ok r⟩
theorem fine_two {r : Nat} {t : Tg} (h : vErr t = 0) : FewTags [tK r, t] := ⟨by simp, by simp, fun x hx => by
  simp at hx
  rcases hx with rfl | rfl
  · exact tK_ok r
  · exact h⟩
end Go.Proofs.Ytgkokglngpbamaa

/- Deck.Short: a short text of a deck's making. Conditions: none beyond those typed. -/
namespace Go.Proofs.Ytgkokglngpbamaa
open Go.ChangeShapes Go.WideShapes Go.ChangeAt Go.RowKit
set_option linter.unusedVariables false
set_option linter.unusedSimpArgs false
set_option maxRecDepth 100000

/-- A short text comes back, and the deck; nothing else has turned. -/
def ShortDk (B : World) (g : Nat) (A : Option Addr) (n c : Nat) (W : World) (e : Ending) (W' : World) : Prop :=
  ∃ s : ByteArray, (2 ≤ s.size ∧ s.size ≤ 3) ∧ e = .returned (.string s) ∧ Dk B W' g A n c ∧ W.grownBy W' (some g)
theorem short_j {r : Nat} (h : (r : Int) < 2) : ∃ j : Nat, IntKind.i64.wrap (1 + (r : Int)) = (j : Int) ∧ IntKind.i64.wrap (j : Int) = (j : Int) ∧ (0 ≤ (j : Int) ∧ (j : Int) ≤ ((⟨#[97, 98, 99, 100, 101, 102, 103, 104]⟩ : ByteArray).size : Int)) ∧ ((j : Int) ≤ 8 ∧ j ≤ 8) ∧ RowKit.Hid (1 ≤ j ∧ j ≤ 2) := by
  have e : ((⟨#[97, 98, 99, 100, 101, 102, 103, 104]⟩ : ByteArray).size : Int) = 8 := rfl
  rw [e]
  obtain rfl | rfl : r = 0 ∨ r = 1 := by omega
  · exact ⟨1, by decide, by decide, by omega, by omega, Lib.hid ⟨by omega, by omega⟩⟩
  · exact ⟨2, by decide, by decide, by omega, by omega, Lib.hid ⟨by omega, by omega⟩⟩
theorem short_k {r : Nat} (h : (r : Int) < 5) : ∃ j : Nat, IntKind.i64.wrap (97 + (r : Int)) = (j : Int) ∧ IntKind.i64.wrap (j : Int) = (j : Int) ∧ IntKind.u8.wrap (j : Int) = (j : Int) ∧ RowKit.Hid (j ≤ 255) := by
  obtain rfl | rfl | rfl | rfl | rfl : r = 0 ∨ r = 1 ∨ r = 2 ∨ r = 3 ∨ r = 4 := by omega
  · exact ⟨97, by decide, by decide, by decide, Lib.hid (by omega)⟩
  · exact ⟨98, by decide, by decide, by decide, Lib.hid (by omega)⟩
  · exact ⟨99, by decide, by decide, by decide, Lib.hid (by omega)⟩
  · exact ⟨100, by decide, by decide, by decide, Lib.hid (by omega)⟩
  · exact ⟨101, by decide, by decide, by decide, Lib.hid (by omega)⟩
theorem short_sz {j i : Nat} (h : 1 ≤ j ∧ j ≤ 2) : ¬ 9223372036854775807 < ((⟨#[97, 98, 99, 100, 101, 102, 103, 104]⟩ : ByteArray).extract 0 j).size + (chr i).size := by
  have := chr_size i
  have : ((⟨#[97, 98, 99, 100, 101, 102, 103, 104]⟩ : ByteArray).extract 0 j).size = min j 8 - 0 := ByteArray.size_extract
  omega
theorem short_two {j i : Nat} (h : 1 ≤ j ∧ j ≤ 2) : 2 ≤ (((⟨#[97, 98, 99, 100, 101, 102, 103, 104]⟩ : ByteArray).extract 0 j) ++ (chr i)).size ∧ (((⟨#[97, 98, 99, 100, 101, 102, 103, 104]⟩ : ByteArray).extract 0 j) ++ (chr i)).size ≤ 3 := by
  rw [ba_append_size]
  have : (chr i).size = 1 := rfl
  have : ((⟨#[97, 98, 99, 100, 101, 102, 103, 104]⟩ : ByteArray).extract 0 j).size = min j 8 - 0 := ByteArray.size_extract
  omega
theorem short_conv {j : Nat} (h : j ≤ 255) (w : World) : (convert 59 9 (.slice (some ⟨w.heap.size, 0, none⟩) 1 1)).run Try.prog (w.alloc (.cells #[.int .u8 (j : Int)] 5)) = .ok (.string (chr j)) (w.alloc (.cells #[.int .u8 (j : Int)] 5)) :=
  conv_one _ _ j h (by simp)
theorem grow_row {w w' : World} {row : Option Nat} (h : w.grownBy w' none) : w.grownBy w' row := ⟨h.os, h.tape, h.output, h.size, fun k hk _ => h.block k hk (by simp)⟩
set_option maxHeartbeats 1000000 in
theorem short_dk {B W : World} {g n c : Nat} {A : Option Addr} (h : Dk B W g A n c) : Calls Try.prog 20 #[.pointer (some ⟨g, 0, none⟩)] W (ShortDk B g A n c W) := by
  have hB := h.drewN 1
  have hG : W.grownBy (W.drewN 1) none := grow_drewN (World.grownBy.refl W none) 1
  go_enter Try.func20, Try.ntmps20
  go_wp2_with fail
  go_region_with (first | (refine (next_dk h1 5 (by omega) (by omega)).mono ?_; rintro e W2 ⟨r2, hr2, rfl, h2, g2⟩; obtain ⟨j2, b1, b2, b3, B1⟩ := short_k hr2; have b4 := short_conv B1.out; have b5 := chr_size j2; have b6 : ¬ 9223372036854775807 < ((⟨#[97, 98, 99, 100, 101, 102, 103, 104]⟩ : ByteArray).extract 0 j1).size + (chr j2).size := short_sz A1.out; clear hr2) | (refine (next_dk hB 2 (by omega) (by omega)).mono ?_; rintro e W1 ⟨r1, hr1, rfl, h1, g1⟩; obtain ⟨j1, a1, a2, a3, ⟨a4, a5⟩, A1⟩ := short_j hr1; clear hr1))
  all_goals go_wp2
  all_goals go_ret
  all_goals
    have hal := (World.grownBy_alloc W2 (.cells #[.int .u8 (j2 : Int)] 5) (some g))
    exact ⟨_, short_two A1.out, rfl, h2.alloc _, ((grow_row hG).trans g1).trans (g2.trans hal)⟩
end Go.Proofs.Ytgkokglngpbamaa
