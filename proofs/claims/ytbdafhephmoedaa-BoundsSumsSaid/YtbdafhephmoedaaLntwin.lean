/- The specified order of lines: Before, Sort, SameLines. Conditions: none beyond those typed. -/
import Derived.Test.YtbdafhephmoedaaLnins
import Derived.Test.YtbdafhephmoedaaSvsort
import Derived.Test.YtbdafhephmoedaaSvref2
namespace Go.Proofs.Ytbdafhephmoedaa
open Go.ChangeShapes Go.WideShapes Go.ChangeAt Go.RowKit
set_option linter.unusedVariables false
set_option linter.unusedSimpArgs false
set_option maxRecDepth 100000

theorem bdL1 (w : World) (o : Obj) : Below w.heap.size w (w.drew.alloc o) := (Below.refl _ _).drew.alloc (Nat.le_refl _) o
theorem bdL2 (w : World) (o o' : Obj) : Below w.heap.size w ((w.drew.alloc o).alloc o') := (bdL1 w o).alloc (bdL1 w o).size o'
theorem aZL (W : World) (o : Obj) : W.heap.size + 1 = (W.drew.alloc o).heap.size := by simp
set_option maxHeartbeats 1000000 in
theorem rBefore_any (p q : En) (w : World) : Calls Try.prog 22 #[.agg (VL p), .agg (VL q)] w fun e w' => e = .returned (.bool (lnB p q)) ∧ Below w.heap.size w w' := by
  have hbb : Below w.heap.size w ((w.alloc (.cells (VL p) 43)).alloc (.cells (VL q) 43)) := ((Below.refl _ _).alloc (Nat.le_refl _) _).alloc (by simp) _
  have HB := Lib.hid hbb
  have HE := Lib.hid (show lnB p q = (decide (q.2.2 < p.2.2) || (decide (p.2.2 = q.2.2) && Op.bytesLess p.1.toList q.1.toList)) from rfl)
  clear hbb
  by_cases h1 : q.2.2 < p.2.2
  · have HF := Lib.hid (show lnB p q = true by rw [HE.out, decide_eq_true h1]; rfl)
    go_enter Try.func22, Try.ntmps22
    go_wp2
    go_ret
    rw [HF.out]
    exact ⟨rfl, HB.out⟩
  · by_cases h2 : p.2.2 = q.2.2
    · have h3 : (p.2.2 == q.2.2) = true := beq_iff_eq.2 h2
      have h4 : ¬ q.2.2 > q.2.2 := by omega
      cases hb : Op.bytesLess p.1.toList q.1.toList with
      | true =>
        have HF := Lib.hid (show lnB p q = true by rw [HE.out, decide_eq_false h1, decide_eq_true h2, hb]; rfl)
        clear h2
        go_enter Try.func22, Try.ntmps22
        go_wp2
        go_ret
        rw [HF.out]
        exact ⟨rfl, HB.out⟩
      | false =>
        have HF := Lib.hid (show lnB p q = false by rw [HE.out, decide_eq_false h1, decide_eq_true h2, hb]; rfl)
        clear h2
        go_enter Try.func22, Try.ntmps22
        go_wp2
        go_ret
        rw [HF.out]
        exact ⟨rfl, HB.out⟩
    · have h3 : (p.2.2 == q.2.2) = false := beq_eq_false_iff_ne.2 h2
      have HF := Lib.hid (show lnB p q = false by rw [HE.out, decide_eq_false h1, decide_eq_false h2]; rfl)
      clear h2
      go_enter Try.func22, Try.ntmps22
      go_wp2
      go_ret
      rw [HF.out]
      exact ⟨rfl, HB.out⟩
theorem fields_line : Try.prog.underlying 43 = some (.struct (Try.prog.fieldsOf 43)) := by
  unfold Program.fieldsOf; rw [Try.underlying43]
theorem eqIn_line (s s' : ByteArray) (t t' x x' : Int) (w : World) : (Op.equalIn 10000 43 (.agg #[.string s, .int .u64 t, .int .u64 x]) (.agg #[.string s', .int .u64 t', .int .u64 x'])).run Try.prog w = .ok (decide (((s, t, x) : En) = (s', t', x'))) w := by
  have h9 := fun w => Try.isAgg9 w
  have h7 := fun w => Try.isAgg22 w
  rw [run_equalIn_agg w 9999 _ _ _ fields_line (by kernel_rfl)]
  unfold Program.fieldsOf
  rw [Try.underlying43]
  have e1 : ∀ (a b : ByteArray) (d : Nat) (w : World), (Op.equalIn (d + 1) 9 (.string a) (.string b)).run Try.prog w = .ok (decide (a = b)) w := fun a b d w => by
    rw [run_equalIn_string w d _ a b Try.underlying9, str_beq]
  simp [Op.eqFields, part, h9, h7]
  rw [e1]
  simp [Result.andThen, run_equalIn_int]
  by_cases hs : s = s'
  · by_cases ht : t = t'
    · by_cases hx : x = x' <;> simp [hs, ht, hx]
    · simp [hs, ht]
  · simp [hs]
set_option maxHeartbeats 1000000 in
theorem sameLines_yes (A A' : Option Addr) (n c c' : Nat) (l : List En) (w : World) (h : RdG kLn w A n c l) (h' : RdG kLn w A' n c' l) :
    Calls Try.prog 18 #[.slice A n c, .slice A' n c'] w fun e w' => e = .returned (.bool true) ∧ Below w.heap.size w w' := by
  have hcap := h.cap
  have hmax := h.max
  have hcap' := h'.cap
  have hmax' := h'.max
  go_enter Try.func18, Try.ntmps18
  go_wp2
  go_loopw [13] (fun i wr => ∃ k j : Nat, k ≤ n ∧ i = .int .i64 k ∧ wr = w.drewN j) (fun i _ => n - (intOf i).toNat)
  case atStart => exact ⟨0, 0, Nat.zero_le _, rfl, rfl⟩
  case round =>
    obtain ⟨k, j, hk, rfl, rfl⟩ := hrel
    by_cases hlt : k < n
    · obtain ⟨b, o, p, rfl, hp, z0, z1, z2⟩ := h.atLn hlt
      obtain ⟨b', o', p', rfl, hp', y0, y1, y2⟩ := h'.atLn hlt
      rw [hp] at hp'; injection hp' with hp'; subst hp'
      have hki : (k : Int) < (n : Int) := by omega
      have hQ := eqIn_line p.1 p.1 p.2.1 p.2.1 p.2.2 p.2.2
      rw [decide_eq_true rfl] at hQ
      clear hp
      go_wp2
      go_quiet (fail)
      go_wp2
      go_roundw
      case rel => exact ⟨k + 1, _, by omega, by go_num, rfl⟩
      case measure => (simp [intOf] <;> omega)
    · have hki : ¬ (k : Int) < (n : Int) := by omega
      go_wp2
      go_ret
      exact ⟨rfl, below_drewN (Below.refl _ _) j⟩
/-- What a sort of lines returns. -/
def SrtOut (w : World) (n : Nat) (l : List En) (e : Ending) (w' : World) : Prop := ∃ A' c' L', e = .returned (.slice A' n c') ∧ MgL l L' ∧ RdG kLn w' A' n c' L' ∧ Below w.heap.size w w'
set_option maxHeartbeats 8000000 in
theorem rsortL_any {w : World} {A : Option Addr} {n c : Nat} {l : List En} (h : RdG kLn w A n c l) (hn : n ≤ 1000) :
    Calls Try.prog 20 #[.slice A n c] w (SrtOut w n l) := by
  have hcap := h.cap
  have hmax := h.max
  have hll := h.len
  go_enter Try.func20, Try.ntmps20
  go_wp2
  go_loopw [3, 9] (fun v iv wr => ∃ (i : Nat) (lo : List En), i ≤ n ∧ iv = .int .i64 (i : Int) ∧ OwnK kLn wr v lo ∧ MgL (l.take i) lo ∧ New w v ∧ Below w.heap.size w wr) (fun _ iv _ => n - (intOf iv).toNat)
  case atStart => exact ⟨0, [], Nat.zero_le _, rfl, OwnK.nil kLn _, ⟨SmL.refl _, List.Pairwise.nil⟩, fun q hq => by simp [Value.ownBlock] at hq, Below.refl _ _⟩
  case round =>
    obtain ⟨i, lo, hi, rfl, hO, hM, hN, hB⟩ := hrel
    by_cases hlt : i < n
    · obtain ⟨b0, o0, e, rfl, he, z0, z1, z2⟩ := (h.below hB).atLn hlt
      have hiI : (i : Int) < (n : Int) := by omega
      have hlol : lo.length = i := by rw [hM.sm.len, List.length_take]; omega
      obtain ⟨Ao, co, rfl, hR, hform⟩ := hO.form hlol
      have hbW0 : Below w.heap.size w (wr.alloc (.cells (VL e) 43)) := hB.alloc hB.size _
      have c0' : (wr.alloc (.cells (VL e) 43)).cell? ⟨wr.heap.size, 0, none⟩ = some (.string e.1) := (World.cell?_alloc_at (w := wr) _ _ _ _ rfl).trans rfl
      have c1' : (wr.alloc (.cells (VL e) 43)).cell? ⟨wr.heap.size, 1, none⟩ = some (.int .u64 e.2.1) := (World.cell?_alloc_at (w := wr) _ _ _ _ rfl).trans rfl
      have c2' : (wr.alloc (.cells (VL e) 43)).cell? ⟨wr.heap.size, 2, none⟩ = some (.int .u64 e.2.2) := (World.cell?_alloc_at (w := wr) _ _ _ _ rfl).trans rfl
      have R0 : RdG kLn (wr.alloc (.cells (VL e) 43)) Ao i co lo := hR.below ((Below.refl _ _).alloc (Nat.le_refl _) _)
      have hcapo := hR.cap
      have hmaxo := hR.max
      have HM := Lib.hid (fun k (hk : k ≤ lo.length) h1 h2 => ins_next (j := k) hM he hk h1 h2)
      have HS := Lib.hid hM.srt
      clear hO hR hM he
      rcases hform with ⟨rfl, hl0, rfl⟩ | ⟨b, rfl, hbl⟩
      · have hi0 : i = 0 := by rw [← hlol, hl0]; rfl
        subst hi0
        subst hl0
        have HFin := Lib.hid (show MgL (l.take (0 + 1)) (([] ++ ([] : List En).take 0) ++ [e] ++ ([] : List En).drop 0) from HM.out 0 (Nat.le_refl _) (fun z h _ => absurd h (Nat.lt_irrefl _)) (fun z hz => by simp at hz))
        rw [Nat.zero_mul, Nat.add_zero] at z0 z1 z2
        go_wp2
        go_loopw [6] (fun kv W => kv = .int .i64 0 ∧ ∃ m, W = (wr.alloc (.cells (VL e) 43)).drewN m) (fun _ _ => 0)
        case atStart => exact ⟨rfl, 0, rfl⟩
        case round =>
          obtain ⟨rfl, m, rfl⟩ := hrel
          go_wp2
          go_quiet (fail)
          go_wp2_with fail
          rw [World.drewN_drewN]
          have r1 : RdG kLn (wr.alloc (.cells (VL e) 43)) none 0 0 [] := RdG.nil _ _ _ (by decide)
          have r2 : RdG kLn (wr.alloc (.cells (VL e) 43)) none 0 0 [] := RdG.nil _ _ _ (by decide)
          have hby1 : ([] : List En).length + 0 ≤ 1000000000 := by simp
          have hby2 : ([] ++ ([] : List En)).length + 1 ≤ 1000000000 := by simp
          have hby3 : ([] ++ ([] : List En) ++ [e]).length + 0 ≤ 1000000000 := by simp
          have hW1z := hbW0.size
          have hbW1 := hbW0
          have c0 := c0'
          have c1 := c1'
          have c2 := c2'
          clear h R0 hlol hbW0 c0' c1' c2' HM
          generalize wr.alloc (.cells (VL e) 43) = W1 at *
          generalize wr.heap.size = G at *
          go_region_held3 (fun W => W.cell? ⟨G, 0, none⟩ = some (.string e.1) ∧ W.cell? ⟨G, 1, none⟩ = some (.int .u64 e.2.1) ∧ W.cell? ⟨G, 2, none⟩ = some (.int .u64 e.2.2) ∧ Below W1.heap.size W1 W) ((refine KE.mk' c0 c1 c2 ?_; first | assumption | exact below_drewN (Below.refl _ _) _ | exact (below_drewN (Below.refl _ _) _).drew | exact bq1 _ _ _ | exact bdL1 _ _ | exact bq2 _ _ _ _ | exact bdL2 _ _ _ | exact Below.alloc (by assumption) (Below.size (by assumption)) _)) (first | (refine step_appNC kLn W1 rfl (.tmp 28) (.tmp 31) rfl _ [] rfl none 0 0 [] rfl (by first | exact OwnK.empty' kLn rfl rfl | exact OwnK.empty' kLn rfl (aZ _ _ _) | exact OwnK.empty' kLn rfl (aZL _ _) | exact (OwnK.empty' kLn rfl rfl).alloc _ | exact (OwnK.empty' kLn rfl (aZ _ _ _)).alloc _ | exact (OwnK.empty' kLn rfl (aZL _ _)).alloc _) (New.lit (by first | exact Nat.le_refl _ | exact Nat.le_succ _)) (by first | exact bq1 _ _ _ | exact bdL1 _ _ | exact bq2 _ _ _ _ | exact bdL2 _ _ _) (RdG.below r1 (by first | exact bq1 _ _ _ | exact bdL1 _ _ | exact bq2 _ _ _ _ | exact bdL2 _ _ _)) hby1 ?_; intro v1 w1 hO1 hN1 hB1 hC1) | (refine step_appNC kLn W1 rfl (.tmp 32) (.tmp 34) rfl v1 _ rfl _ 1 1 [e] rfl (by first | exact hO1 | exact hO1.alloc _) hN1 (by first | exact hB1 | exact hB1.alloc hB1.size _) (by first | exact RdG.one2 kLn e rfl rfl rfl | exact RdG.one2 kLn e rfl rfl (aZ _ _ _) | exact RdG.one2 kLn e rfl rfl (aZL _ _) | exact hC1 _ _ _ _ (RdG.one2 kLn e rfl rfl rfl) (lit_ne (by first | exact Nat.ne_of_lt (Nat.lt_succ_self _) | exact Nat.ne_of_gt (Nat.lt_succ_self _))) | exact hC1 _ _ _ _ (RdG.one2 kLn e rfl rfl (aZ _ _ _)) (lit_ne (by first | exact Nat.ne_of_lt (Nat.lt_succ_self _) | exact Nat.ne_of_gt (Nat.lt_succ_self _))) | exact hC1 _ _ _ _ (RdG.one2 kLn e rfl rfl (aZL _ _)) (lit_ne (by first | exact Nat.ne_of_lt (Nat.lt_succ_self _) | exact Nat.ne_of_gt (Nat.lt_succ_self _))) | exact hC1 _ _ _ _ ((RdG.one2 kLn e rfl rfl rfl).alloc' _) (lit_ne (by first | exact Nat.ne_of_lt (Nat.lt_succ_self _) | exact Nat.ne_of_gt (Nat.lt_succ_self _))) | exact hC1 _ _ _ _ ((RdG.one2 kLn e rfl rfl (aZ _ _ _)).alloc' _) (lit_ne (by first | exact Nat.ne_of_lt (Nat.lt_succ_self _) | exact Nat.ne_of_gt (Nat.lt_succ_self _))) | exact hC1 _ _ _ _ ((RdG.one2 kLn e rfl rfl (aZL _ _)).alloc' _) (lit_ne (by first | exact Nat.ne_of_lt (Nat.lt_succ_self _) | exact Nat.ne_of_gt (Nat.lt_succ_self _)))) hby2 ?_; intro v2 w2 hO2 hN2 hB2 hC2) | (refine step_appNC kLn W1 rfl (.tmp 35) (.tmp 38) rfl v2 _ rfl none 0 0 [] rfl hO2 hN2 hB2 (RdG.below r2 hB2) hby3 ?_; intro v3 w3 hO3 hN3 hB3 hC3))
          all_goals
            have HZ : Hid (OwnK kLn w3 v3 (([] ++ ([] : List En).take 0) ++ [e] ++ ([] : List En).drop 0) ∧ New w v3 ∧ Below w.heap.size w w3) := Lib.hid ⟨hO3, fun q hq => Nat.le_trans hW1z (hN3 q hq), hbW1.trans (hB3.mono hW1z)⟩
            clear hO1 hO2 hO3 hN1 hN2 hN3 hB1 hB2 hB3 hC1 hC2 hC3 r1 r2
            go_wp2
            go_roundw
            case rel => exact ⟨0 + 1, _, by omega, by go_num, HZ.out.1, HFin.out, HZ.out.2.1, HZ.out.2.2⟩
            case measure => (simp [intOf] <;> omega)
      · have hG := Lib.hid hbW0
        have hRh := Lib.hid R0
        have hW00 := (Below.refl (wr.alloc (.cells (VL e) 43)).heap.size (wr.alloc (.cells (VL e) 43)))
        go_wp2
        generalize wr.alloc (.cells (VL e) 43) = W0 at *
        generalize wr.heap.size = G at *
        go_loopw [6] (fun kv W => ∃ k : Nat, k ≤ i ∧ kv = .int .i64 (k : Int) ∧ (∀ z, lo[k]? = some z → lnB e z = true) ∧ Below W0.heap.size W0 W) (fun kv _ => (intOf kv).toNat)
        case atStart => exact ⟨i, Nat.le_refl _, rfl, fun z hz => (by rw [List.getElem?_eq_none (by omega)] at hz; cases hz), hW00⟩
        case round =>
          obtain ⟨k, hki, rfl, htop, hB2⟩ := hrel
          rename World => W2
          have hbW2 := below_then hG.out hB2
          obtain ⟨d0, d1, d2, _⟩ := KE.mk' c0' c1' c2' hB2
          have R2 := hRh.out.below hB2
          by_cases hlk : 0 < k
          · obtain ⟨k', rfl⟩ : ∃ k', k = k' + 1 := ⟨k - 1, by omega⟩
            obtain ⟨b', o', p, hA', hp, p0, p1, p2⟩ := R2.atLn (show k' < i by omega)
            injection hA' with hA'; injection hA' with hA1 hA2; subst hA1 hA2
            rw [Nat.zero_add] at p0 p1 p2
            have hkI : decide (0 < k' + 1) = true := decide_eq_true (by omega)
            have hw1 : IntKind.i64.wrap (((k' + 1 : Nat) : Int) - 1) = (k' : Int) := by rw [IntKind.wrap_i64]; omega
            have hk'I : (k' : Int) < (i : Int) := by omega
            obtain ⟨K1, hK1⟩ : ∃ K1, k' + 1 = K1 := ⟨_, rfl⟩
            rw [hK1] at hw1 hkI
            cases hb : lnB e p with
            | true =>
              have HT := Lib.hid (show ∀ z, lo[k']? = some z → lnB e z = true from fun z hz => by rw [hp] at hz; injection hz with hz; rw [← hz]; exact hb)
              clear htop hp R2
              rw [hK1]
              go_wp2
              go_region_held3 (fun W => W.cell? ⟨G, 0, none⟩ = some (.string e.1) ∧ W.cell? ⟨G, 1, none⟩ = some (.int .u64 e.2.1) ∧ W.cell? ⟨G, 2, none⟩ = some (.int .u64 e.2.2) ∧ W.cell? ⟨b, k' * 3, none⟩ = some (.string p.1) ∧ W.cell? ⟨b, k' * 3 + 1, none⟩ = some (.int .u64 p.2.1) ∧ W.cell? ⟨b, k' * 3 + 2, none⟩ = some (.int .u64 p.2.2)) (first | exact ⟨d0, d1, d2, p0, p1, p2⟩ | exact ⟨(cellB d0 hb5).1, (cellB d1 hb5).1, (cellB d2 hb5).1, (cellB p0 hb5).1, (cellB p1 hb5).1, (cellB p2 hb5).1⟩) (first | (go_at_call 22; refine (rBefore_any e p _).mono ?_; rintro e5 w5 ⟨rfl, h5⟩; rw [hb]; have hb5 := below_then (bdM W2) h5))
              all_goals
                have HB5 := Lib.hid (below_then hB2 hb5)
                clear d0 d1 d2 p0 p1 p2 h5 hb5 hbW2
                go_wp2
                go_roundw
                case rel => exact ⟨k', by omega, by go_num, HT.out, HB5.out⟩
                case measure => (simp [intOf] <;> omega)
            | false =>
              have HFin := Lib.hid (show MgL (l.take (i + 1)) (([] ++ lo.take (k' + 1)) ++ [e] ++ lo.drop (k' + 1)) from by
                have := HM.out (k' + 1) (by omega) (fun z _ hz => by rw [Nat.add_sub_cancel, hp] at hz; injection hz with hz; rw [← hz]; exact hb) htop
                simpa [midR] using this)
              rw [hK1] at HFin
              clear htop hp
              rw [hK1]
              rw [hK1] at hki
              go_wp2
              go_region_held3 (fun W => W.cell? ⟨G, 0, none⟩ = some (.string e.1) ∧ W.cell? ⟨G, 1, none⟩ = some (.int .u64 e.2.1) ∧ W.cell? ⟨G, 2, none⟩ = some (.int .u64 e.2.2) ∧ W.cell? ⟨b, k' * 3, none⟩ = some (.string p.1) ∧ W.cell? ⟨b, k' * 3 + 1, none⟩ = some (.int .u64 p.2.1) ∧ W.cell? ⟨b, k' * 3 + 2, none⟩ = some (.int .u64 p.2.2)) (first | exact ⟨d0, d1, d2, p0, p1, p2⟩ | exact ⟨(cellB d0 hb5).1, (cellB d1 hb5).1, (cellB d2 hb5).1, (cellB p0 hb5).1, (cellB p1 hb5).1, (cellB p2 hb5).1⟩) (first | (go_at_call 22; refine (rBefore_any e p _).mono ?_; rintro e5 w5 ⟨rfl, h5⟩; rw [hb]; have hb5 := below_then (bdM W2) h5))
              have R1 := R2.below hb5
              obtain ⟨c0, c1, c2, _⟩ := KE.mk' d0 d1 d2 hb5
              have hbW1 := below_then hbW2 hb5
              clear R2 d0 d1 d2 p0 p1 p2 h5 hb5 hbW2 hB2 hk'I hw1 hkI hK1
              rename World => W1
              rename Nat => k
              have r1 := R1.head (j := k) hki
              obtain ⟨AD, hAD, r2⟩ : ∃ AD, (if co = k then (some ⟨b, 0, none⟩ : Option Addr) else some ⟨b, k * 3, none⟩) = some AD ∧ RdG kLn W1 (some AD) (i - k) (co - k) (lo.drop k) := by
                have h := R1.dropIf (i := k) hki
                rw [show 0 + k * kLn.k = k * 3 by simp [kLn]] at h
                by_cases hc : co = k
                · rw [if_pos hc] at h ⊢; exact ⟨_, rfl, h⟩
                · rw [if_neg hc] at h ⊢; exact ⟨_, rfl, h⟩
              have hki1 : (k : Int) ≤ (i : Int) := by omega
              have hKh : (k : Int) ≤ (co : Int) := by omega
              have hby1 : ([] : List En).length + k ≤ 1000000000 := by simp; omega
              have hby2 : ([] ++ lo.take k).length + 1 ≤ 1000000000 := by simp; omega
              have hby3 : ([] ++ lo.take k ++ [e]).length + (i - k) ≤ 1000000000 := by simp; omega
              have hW1z := hbW1.size
              clear R1 hlol h HM hRh hG c0' c1' c2'
              go_wp2_with fail
              go_region_held3 (fun W => W.cell? ⟨G, 0, none⟩ = some (.string e.1) ∧ W.cell? ⟨G, 1, none⟩ = some (.int .u64 e.2.1) ∧ W.cell? ⟨G, 2, none⟩ = some (.int .u64 e.2.2) ∧ Below W1.heap.size W1 W) ((refine KE.mk' c0 c1 c2 ?_; first | assumption | exact below_drewN (Below.refl _ _) _ | exact (below_drewN (Below.refl _ _) _).drew | exact bq1 _ _ _ | exact bdL1 _ _ | exact bq2 _ _ _ _ | exact bdL2 _ _ _ | exact Below.alloc (by assumption) (Below.size (by assumption)) _)) (first | (refine step_appNC kLn W1 rfl (.tmp 28) (.tmp 31) rfl _ [] rfl (some ⟨b, 0, none⟩) k co (lo.take k) rfl (by first | exact OwnK.empty' kLn rfl rfl | exact OwnK.empty' kLn rfl (aZ _ _ _) | exact OwnK.empty' kLn rfl (aZL _ _) | exact (OwnK.empty' kLn rfl rfl).alloc _ | exact (OwnK.empty' kLn rfl (aZ _ _ _)).alloc _ | exact (OwnK.empty' kLn rfl (aZL _ _)).alloc _) (New.lit (by first | exact Nat.le_refl _ | exact Nat.le_succ _)) (by first | exact bq1 _ _ _ | exact bdL1 _ _ | exact bq2 _ _ _ _ | exact bdL2 _ _ _) (RdG.below r1 (by first | exact bq1 _ _ _ | exact bdL1 _ _ | exact bq2 _ _ _ _ | exact bdL2 _ _ _)) hby1 ?_; intro v1 w1 hO1 hN1 hB1 hC1) | (refine step_appNC kLn W1 rfl (.tmp 32) (.tmp 34) rfl v1 _ rfl _ 1 1 [e] rfl (by first | exact hO1 | exact hO1.alloc _) hN1 (by first | exact hB1 | exact hB1.alloc hB1.size _) (by first | exact RdG.one2 kLn e rfl rfl rfl | exact RdG.one2 kLn e rfl rfl (aZ _ _ _) | exact RdG.one2 kLn e rfl rfl (aZL _ _) | exact hC1 _ _ _ _ (RdG.one2 kLn e rfl rfl rfl) (lit_ne (by first | exact Nat.ne_of_lt (Nat.lt_succ_self _) | exact Nat.ne_of_gt (Nat.lt_succ_self _))) | exact hC1 _ _ _ _ (RdG.one2 kLn e rfl rfl (aZ _ _ _)) (lit_ne (by first | exact Nat.ne_of_lt (Nat.lt_succ_self _) | exact Nat.ne_of_gt (Nat.lt_succ_self _))) | exact hC1 _ _ _ _ (RdG.one2 kLn e rfl rfl (aZL _ _)) (lit_ne (by first | exact Nat.ne_of_lt (Nat.lt_succ_self _) | exact Nat.ne_of_gt (Nat.lt_succ_self _))) | exact hC1 _ _ _ _ ((RdG.one2 kLn e rfl rfl rfl).alloc' _) (lit_ne (by first | exact Nat.ne_of_lt (Nat.lt_succ_self _) | exact Nat.ne_of_gt (Nat.lt_succ_self _))) | exact hC1 _ _ _ _ ((RdG.one2 kLn e rfl rfl (aZ _ _ _)).alloc' _) (lit_ne (by first | exact Nat.ne_of_lt (Nat.lt_succ_self _) | exact Nat.ne_of_gt (Nat.lt_succ_self _))) | exact hC1 _ _ _ _ ((RdG.one2 kLn e rfl rfl (aZL _ _)).alloc' _) (lit_ne (by first | exact Nat.ne_of_lt (Nat.lt_succ_self _) | exact Nat.ne_of_gt (Nat.lt_succ_self _)))) hby2 ?_; intro v2 w2 hO2 hN2 hB2 hC2) | (refine step_appNC kLn W1 rfl (.tmp 35) (.tmp 38) rfl v2 _ rfl (some AD) (i - k) (co - k) (lo.drop k) rfl hO2 hN2 hB2 (RdG.below r2 hB2) hby3 ?_; intro v3 w3 hO3 hN3 hB3 hC3))
              all_goals
                have HZ : Hid (OwnK kLn w3 v3 (([] ++ lo.take k) ++ [e] ++ lo.drop k) ∧ New w v3 ∧ Below w.heap.size w w3) := Lib.hid ⟨hO3, fun q hq => Nat.le_trans hW1z (hN3 q hq), hbW1.trans (hB3.mono hW1z)⟩
                clear hO1 hO2 hO3 hN1 hN2 hN3 hB1 hB2 hB3 hC1 hC2 hC3 r1 r2
                go_wp2
                go_roundw
                case rel => exact ⟨i + 1, _, by omega, by go_num, HZ.out.1, HFin.out, HZ.out.2.1, HZ.out.2.2⟩
                case measure => (simp [intOf] <;> omega)
          · have hkI : decide (0 < k) = false := decide_eq_false (by omega)
            have HFin := Lib.hid (show MgL (l.take (i + 1)) (([] ++ lo.take k) ++ [e] ++ lo.drop k) from by
              have := HM.out k (by omega) (fun z h _ => absurd h hlk) htop
              simpa [midR] using this)
            clear htop
            go_wp2
            go_quiet (fail)
            go_wp2_with fail
            have hbQ : Below W2.heap.size W2 (W2.drewN nq) := below_drewN (Below.refl _ _) nq
            have R1 := R2.below hbQ
            obtain ⟨c0, c1, c2, _⟩ := KE.mk' d0 d1 d2 hbQ
            have hbW1 := below_then hbW2 hbQ
            clear hbQ R2 d0 d1 d2 hbW2 hB2
            generalize W2.drewN nq = W1 at *
            have r1 := R1.head (j := k) hki
            obtain ⟨AD, hAD, r2⟩ : ∃ AD, (if co = k then (some ⟨b, 0, none⟩ : Option Addr) else some ⟨b, k * 3, none⟩) = some AD ∧ RdG kLn W1 (some AD) (i - k) (co - k) (lo.drop k) := by
              have h := R1.dropIf (i := k) hki
              rw [show 0 + k * kLn.k = k * 3 by simp [kLn]] at h
              by_cases hc : co = k
              · rw [if_pos hc] at h ⊢; exact ⟨_, rfl, h⟩
              · rw [if_neg hc] at h ⊢; exact ⟨_, rfl, h⟩
            have hki1 : (k : Int) ≤ (i : Int) := by omega
            have hKh : (k : Int) ≤ (co : Int) := by omega
            have hby1 : ([] : List En).length + k ≤ 1000000000 := by simp; omega
            have hby2 : ([] ++ lo.take k).length + 1 ≤ 1000000000 := by simp; omega
            have hby3 : ([] ++ lo.take k ++ [e]).length + (i - k) ≤ 1000000000 := by simp; omega
            have hW1z := hbW1.size
            clear R1 hlol h HM hRh hG c0' c1' c2'
            go_region_held3 (fun W => W.cell? ⟨G, 0, none⟩ = some (.string e.1) ∧ W.cell? ⟨G, 1, none⟩ = some (.int .u64 e.2.1) ∧ W.cell? ⟨G, 2, none⟩ = some (.int .u64 e.2.2) ∧ Below W1.heap.size W1 W) ((refine KE.mk' c0 c1 c2 ?_; first | assumption | exact below_drewN (Below.refl _ _) _ | exact (below_drewN (Below.refl _ _) _).drew | exact bq1 _ _ _ | exact bdL1 _ _ | exact bq2 _ _ _ _ | exact bdL2 _ _ _ | exact Below.alloc (by assumption) (Below.size (by assumption)) _)) (first | (refine step_appNC kLn W1 rfl (.tmp 28) (.tmp 31) rfl _ [] rfl (some ⟨b, 0, none⟩) k co (lo.take k) rfl (by first | exact OwnK.empty' kLn rfl rfl | exact OwnK.empty' kLn rfl (aZ _ _ _) | exact OwnK.empty' kLn rfl (aZL _ _) | exact (OwnK.empty' kLn rfl rfl).alloc _ | exact (OwnK.empty' kLn rfl (aZ _ _ _)).alloc _ | exact (OwnK.empty' kLn rfl (aZL _ _)).alloc _) (New.lit (by first | exact Nat.le_refl _ | exact Nat.le_succ _)) (by first | exact bq1 _ _ _ | exact bdL1 _ _ | exact bq2 _ _ _ _ | exact bdL2 _ _ _) (RdG.below r1 (by first | exact bq1 _ _ _ | exact bdL1 _ _ | exact bq2 _ _ _ _ | exact bdL2 _ _ _)) hby1 ?_; intro v1 w1 hO1 hN1 hB1 hC1) | (refine step_appNC kLn W1 rfl (.tmp 32) (.tmp 34) rfl v1 _ rfl _ 1 1 [e] rfl (by first | exact hO1 | exact hO1.alloc _) hN1 (by first | exact hB1 | exact hB1.alloc hB1.size _) (by first | exact RdG.one2 kLn e rfl rfl rfl | exact RdG.one2 kLn e rfl rfl (aZ _ _ _) | exact RdG.one2 kLn e rfl rfl (aZL _ _) | exact hC1 _ _ _ _ (RdG.one2 kLn e rfl rfl rfl) (lit_ne (by first | exact Nat.ne_of_lt (Nat.lt_succ_self _) | exact Nat.ne_of_gt (Nat.lt_succ_self _))) | exact hC1 _ _ _ _ (RdG.one2 kLn e rfl rfl (aZ _ _ _)) (lit_ne (by first | exact Nat.ne_of_lt (Nat.lt_succ_self _) | exact Nat.ne_of_gt (Nat.lt_succ_self _))) | exact hC1 _ _ _ _ (RdG.one2 kLn e rfl rfl (aZL _ _)) (lit_ne (by first | exact Nat.ne_of_lt (Nat.lt_succ_self _) | exact Nat.ne_of_gt (Nat.lt_succ_self _))) | exact hC1 _ _ _ _ ((RdG.one2 kLn e rfl rfl rfl).alloc' _) (lit_ne (by first | exact Nat.ne_of_lt (Nat.lt_succ_self _) | exact Nat.ne_of_gt (Nat.lt_succ_self _))) | exact hC1 _ _ _ _ ((RdG.one2 kLn e rfl rfl (aZ _ _ _)).alloc' _) (lit_ne (by first | exact Nat.ne_of_lt (Nat.lt_succ_self _) | exact Nat.ne_of_gt (Nat.lt_succ_self _))) | exact hC1 _ _ _ _ ((RdG.one2 kLn e rfl rfl (aZL _ _)).alloc' _) (lit_ne (by first | exact Nat.ne_of_lt (Nat.lt_succ_self _) | exact Nat.ne_of_gt (Nat.lt_succ_self _)))) hby2 ?_; intro v2 w2 hO2 hN2 hB2 hC2) | (refine step_appNC kLn W1 rfl (.tmp 35) (.tmp 38) rfl v2 _ rfl (some AD) (i - k) (co - k) (lo.drop k) rfl hO2 hN2 hB2 (RdG.below r2 hB2) hby3 ?_; intro v3 w3 hO3 hN3 hB3 hC3))
            all_goals
              have HZ : Hid (OwnK kLn w3 v3 (([] ++ lo.take k) ++ [e] ++ lo.drop k) ∧ New w v3 ∧ Below w.heap.size w w3) := Lib.hid ⟨hO3, fun q hq => Nat.le_trans hW1z (hN3 q hq), hbW1.trans (hB3.mono hW1z)⟩
              clear hO1 hO2 hO3 hN1 hN2 hN3 hB1 hB2 hB3 hC1 hC2 hC3 r1 r2
              go_wp2
              go_roundw
              case rel => exact ⟨i + 1, _, by omega, by go_num, HZ.out.1, HFin.out, HZ.out.2.1, HZ.out.2.2⟩
              case measure => (simp [intOf] <;> omega)
    · have hin : i = n := by omega
      have hiI : ¬ (i : Int) < (n : Int) := by omega
      rw [hin, List.take_of_length_le (by omega)] at hM
      obtain ⟨Ao, co, rfl, hR, hform⟩ := hO.form (n := n) (by rw [hM.sm.len, hll])
      have HR := Lib.hid (show SrtOut w n l (.returned (.slice Ao n co)) wr from ⟨Ao, co, lo, rfl, hM, hR, hB⟩)
      clear hO hR hform hN hB h hM
      go_wp2
      go_ret
      exact HR.out
end Go.Proofs.Ytbdafhephmoedaa
