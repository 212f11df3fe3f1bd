/- Words laid together in one text. Conditions: none beyond those typed. -/
import Derived.Test.YtenchaifnfgijaaPa
import Derived.WalkSpells
import Derived.Test.YtenchaifnfgijaaAs
import Derived.BigRegion
/- The program's arena in memory: a free slot of a class. Conditions: none beyond those typed. -/
namespace Go.Proofs.Ytenchaifnfgijaa
open Go.ChangeShapes Go.WideShapes Go.ChangeAt Go.RowKit
set_option linter.unusedVariables false
set_option linter.unusedSimpArgs false
set_option maxRecDepth 100000

section
variable {col : Col} {w : World} {k g : Nat} {L : List (Int × Int)} {sl : Nat → List PEm} {fr : Nat → List Nat} {fa : Int} {AL : Option Addr} {cL : Nat} {vS vF : Nat → Value}
set_option maxHeartbeats 1000000 in
theorem take_again (H : ArB col k w g L sl fr fa AL cL vS vF) (ht : Tidy col w) (h8 : L.length ≤ 8) {c i : Nat} {fl : List Nat} (hc : c < L.length) (hf : fr c = fl ++ [i]) (hf2 : (fr c).length ≤ 1000000) :
    Calls Try.prog 50 #[.pointer (some ⟨g, 0, none⟩), .int .i64 c] w
      fun e w' => e = .returned (.tuple #[.int .i64 i, .bool true]) ∧ ∃ vF', ArB col k w' g L sl (upd fr c fl) fa AL cL vS vF' ∧ StepC (Inn k) col w col w' := by
  have hD8 : D8 c := Nat.lt_of_lt_of_le hc h8
  have hc8 : c < 8 := hD8
  have hcc : (c : Int) < 8 := by omega
  have hk := H.k1
  have hlen : (fr c).length = fl.length + 1 := by rw [hf]; simp
  obtain ⟨A, m, hv, hm1, hm2, hA⟩ := H.formF hc8
  obtain ⟨b, rfl, hbw, hbc⟩ := hA (by omega)
  have oF := (H.rowF.own c hD8).own
  have e1 : (fr c)[fl.length]? = some i := by rw [hf]; simp
  have e2 : (ints (fr c))[fl.length]? = some (i : Int) := by unfold ints; rw [List.getElem?_map, e1]; rfl
  rw [hv] at oF
  have s0 := oF.cell (i := 0) e2 rfl
  rw [show fl.length * kI.k + 0 = fl.length by simp [kI]] at s0
  have x9 := H.cF hc8
  rw [hv] at x9
  have oC := oF.cutTo (j := fl.length) (by omega)
  have e3 : (ints (fr c)).take fl.length = ints fl := by rw [hf, ints_snoc]; rw [List.take_append_of_le_length (by simp [ints])]; exact List.take_of_length_le (by simp [ints])
  rw [e3] at oC
  have F1 := (H.rowF.cut (i := c) hD8 oC (by rw [hv]; rfl)).ints fl rfl
  have f9 := H.box.free (9 + c)
  obtain ⟨H2, S2⟩ := H.putF (StepC.refl ht) hD8 F1
  generalize hN : fl.length = N at *
  rw [hlen] at x9 hm1 hf2
  clear hlen H oF e1 e2 oC e3 F1 hf hv hN
  go_enter Try.func50, Try.ntmps50
  go_wp2
  have HH := Lib.hid H2
  clear H2
  go_region
  go_wp2
  go_ret2
  have hd := (Below.refl (w.setCell ⟨g, 9 + c, none⟩ (.slice (some ⟨b, 0, none⟩) N m)).heap.size (w.setCell ⟨g, 9 + c, none⟩ (.slice (some ⟨b, 0, none⟩) N m))).drew
  exact ⟨rfl, _, HH.out.below S2.tidy hd, S2.trans (StepC.below S2.tidy hd)⟩
set_option maxHeartbeats 1000000 in
theorem take_none_left (H : ArB col k w g L sl fr fa AL cL vS vF) (ht : Tidy col w) (h8 : L.length ≤ 8) {c : Nat} (hc : c < L.length) (hf : fr c = []) (hm : (sl c).length ≤ 1000000) (hn : ((sl c).length : Int) = (L.getD c (0, 0)).2) :
    Calls Try.prog 50 #[.pointer (some ⟨g, 0, none⟩), .int .i64 c] w
      fun e w' => e = .returned (.tuple #[.int .i64 0, .bool false]) ∧ Below w.heap.size w w' := by
  have hD8 : D8 c := Nat.lt_of_lt_of_le hc h8
  have hc8 : c < 8 := hD8
  have hcc : (c : Int) < 8 := by omega
  obtain ⟨A, m, hv, hm1, hm2, hA⟩ := H.formF hc8
  obtain ⟨A', m', hv', hm1', hm2', hA'⟩ := H.formS hc8
  have x9 := H.cF hc8
  have x1 := H.cS hc8
  have x0 := H.c0
  rw [hv, hf] at x9
  rw [hv'] at x1
  obtain ⟨bL, oL, z1, z2, rfl, hz, hzm, hbL, l0, l1⟩ := H.cls.rd.atC hc
  rw [getD_at hz] at hn
  simp only at hn
  have hcapL := H.cls.rd.cap
  have hmaxL := H.cls.rd.max
  generalize hN : (sl c).length = N at *
  subst hn
  clear H hf hv hv' hA hA' hz hzm hN l0
  go_enter Try.func50, Try.ntmps50
  go_wp2
  go_ret2
  exact ⟨rfl, Below.refl _ _⟩
/-- A slot that was never allocated. -/
def slot0 : PEm := (⟨false, 0, []⟩, none, 0, 0)
set_option maxHeartbeats 1000000 in
theorem take_new (H : ArB col k w g L sl fr fa AL cL vS vF) (ht : Tidy col w) (h8 : L.length ≤ 8) {c : Nat} (hc : c < L.length) (hf : fr c = []) (hm : (sl c).length ≤ 1000000) (hn : ¬ ((sl c).length : Int) = (L.getD c (0, 0)).2) :
    Calls Try.prog 50 #[.pointer (some ⟨g, 0, none⟩), .int .i64 c] w
      fun e w' => e = .returned (.tuple #[.int .i64 (sl c).length, .bool true]) ∧ ∃ col' vS', ArB col' k w' g L (upd sl c (sl c ++ [slot0])) fr fa AL cL vS' vF ∧ StepC (Inn k) col w col' w' := by
  have hD8 : D8 c := Nat.lt_of_lt_of_le hc h8
  have hc8 : c < 8 := hD8
  have hcc : (c : Int) < 8 := by omega
  have hk := H.k1
  obtain ⟨A, m, hv, hm1, hm2, hA⟩ := H.formF hc8
  obtain ⟨A', m', hv', hm1', hm2', hA'⟩ := H.formS hc8
  have x9 := H.cF hc8
  have x1 := H.cS hc8
  have x0 := H.c0
  rw [hv, hf] at x9
  rw [hv'] at x1
  obtain ⟨bL, oL, z1, z2, rfl, hz, hzm, hbL, l0, l1⟩ := H.cls.rd.atC hc
  rw [getD_at hz] at hn
  simp only at hn
  have hcapL := H.cls.rd.cap
  have hmaxL := H.cls.rd.max
  have hBd : Below w.heap.size w (w.drew.alloc (.cells #[.bool false, .int .i64 0, .slice none 0 0] 106)) := bd1 _ _
  have H6 := H.below ht hBd
  have ht6 := ht.size hBd.size
  have S6 : StepC (Inn k) col w col (w.drew.alloc (.cells #[.bool false, .int .i64 0, .slice none 0 0] 106)) := StepC.below ht hBd
  have rd6 : RdG kE (w.drew.alloc (.cells #[.bool false, .int .i64 0, .slice none 0 0] 106)) (some ⟨w.heap.size, 0, none⟩) 1 1 [slot0] := RdG.one' kE rfl slot0
  have oS := (H6.rowS.own c hD8).own
  rw [hv'] at oS
  have y1 : ∀ o, (w.alloc o).cell? ⟨g, 1 + c, none⟩ = some (.slice A' (sl c).length m') := fun o => c_keep x1 ((Below.refl _ _).alloc (Nat.le_refl _) o)
  have hby : (sl c).length + 1 ≤ 1000000000 := by omega
  have HH6 := Lib.hid H6
  have hPk : ¬ (k = k + 1) := by omega
  have hlS : (sl c ++ [slot0]).length = (sl c).length + 1 := by simp
  have hOB : (Value.slice A' (sl c).length m').ownBlock = (vS c).ownBlock := by rw [hv']
  have hHC : HasCol col (Value.slice A' (sl c).length m') (k + 1) := fun q hq => (H6.rowS.own c hD8).col q (hOB.symm.trans hq)
  obtain ⟨N, hN⟩ : ∃ N : Nat, (sl c).length = N := ⟨_, rfl⟩
  rw [hN] at x1 y1 hn hm1' oS hOB hHC hlS ⊢
  clear H hf hv hv' hA hA' hz hzm l0 hBd H6
  go_enter Try.func50, Try.ntmps50
  go_wp2
  go_region_law (refine step_appG kE rfl (.tmp 67) (.tmp 69) rfl (.slice A' N m') (sl c) rfl _ 1 1 [slot0] rfl oS rd6 hby ?_; intro v7 w7 O7 G7 hat7; have S7 := StepC.app (P := fun c => c = k + 1) ht6 G7 hHC rfl hat7 O7.lt; have B7 := HH6.out.box.keep S7 hPk; have q1 := B7.cell (1 + c) (pbox_S hD8); have q2 := B7.free (1 + c); obtain ⟨A7, c7, rfl, _, _⟩ := O7.form hlS)
  all_goals
    rw [hOB] at G7 hat7
    have F7 := HH6.out.rowS.app ht6 hD8 O7 G7 hat7
    obtain ⟨H8, S8⟩ := HH6.out.putS S7 hD8 F7 (bv_snoc rfl) (bl_snoc rfl)
    have HH8 := Lib.hid H8
    clear H8 F7 HH6 S7 B7 O7 G7 hat7
    go_wp2
    go_ret2
    exact ⟨rfl, _, _, HH8.out, S6.trans S8⟩
end
end Go.Proofs.Ytenchaifnfgijaa

/- The program's arena in memory: Check, Fit, New. Conditions: none beyond those typed. -/
namespace Go.Proofs.Ytenchaifnfgijaa
open Go.ChangeShapes Go.WideShapes Go.ChangeAt Go.RowKit
set_option linter.unusedVariables false
set_option linter.unusedSimpArgs false
set_option maxRecDepth 100000

section
variable {col : Col} {w : World} {k g : Nat} {L : List (Int × Int)} {sl : Nat → List PEm} {fr : Nat → List Nat} {fa : Int} {AL : Option Addr} {cL : Nat} {vS vF : Nat → Value}
set_option maxHeartbeats 400000 in
theorem p_fit (H : ArB col k w g L sl fr fa AL cL vS vF) (h8 : L.length ≤ 8) (hL : ∀ x ∈ L, -9223372036854775808 ≤ x.1 ∧ x.1 ≤ 9223372036854775807) (z : Int) (hz : I64 z) :
    Calls Try.prog 49 #[.pointer (some ⟨g, 0, none⟩), .int .i64 z] w fun e w' => e = .returned (.tuple #[.int .i64 (fitR (fitP L z)).1, .int .i64 (fitR (fitP L z)).2]) ∧ Below w.heap.size w w' := by
  have x0 := H.c0
  have hR := H.cls.rd
  have hcapL := hR.cap
  have hmaxL := hR.max
  simp only [I64] at hz
  generalize hn : L.length = n at *
  by_cases h1 : 1 ≤ z
  · have HP := Lib.hid (show fitP L z = fitI L z from if_pos h1)
    clear H
    go_enter Try.func49, Try.ntmps49
    go_wp2
    go_loopw [17] (fun i wr => ∃ k : Nat, k ≤ n ∧ i = .int .i64 k ∧ fitI L z = (fitI (L.drop k) z).map (· + k) ∧ Below w.heap.size w wr) (fun i _ => n - (intOf i).toNat)
    case atStart => exact ⟨0, Nat.zero_le _, rfl, by simp, Below.refl _ _⟩
    case round =>
      obtain ⟨k, hk, rfl, hf, hB⟩ := hrel
      by_cases hlt : k < n
      · have hR' := hR.below hB
        obtain ⟨b, o, x1, x2, rfl, hx, hm, hb, c0, c1⟩ := hR'.atC hlt
        have hx' := hL _ hm
        rw [drop_at hx] at hf
        have HF := Lib.hid hf
        clear hf hR' hx hL hm
        by_cases hle : z ≤ x1
        · have HG := Lib.hid (show fitI L z = some k by rw [HF.out]; simp [fitI, hle])
          go_wp2
          go_ret2
          exact ⟨by rw [HP.out, HG.out]; rfl, hB.alloc hB.size _⟩
        · have HG := Lib.hid (show fitI L z = (fitI (L.drop (k + 1)) z).map (· + (k + 1)) by
            rw [HF.out]; simp [fitI, hle, Option.map_map]; congr 1; funext q; simp; omega)
          go_wp2
          go_roundw
          case rel => exact ⟨k + 1, by omega, by go_num, HG.out, hB.alloc hB.size _⟩
          case measure => (simp [intOf] <;> omega)
      · have HG := Lib.hid (show fitI L z = none by rw [hf, List.drop_of_length_le (by omega)]; rfl)
        clear hf
        go_wp2
        go_ret2
        exact ⟨by rw [HP.out, HG.out]; rfl, hB⟩
  · have HP := Lib.hid (show fitP L z = none from if_neg h1)
    clear H
    go_enter Try.func49, Try.ntmps49
    go_wp2
    go_ret2
    exact ⟨by rw [HP.out]; rfl, Below.refl _ _⟩
theorem p_fit_nil (w : World) (z : Int) : Calls Try.prog 49 #[.pointer none, .int .i64 z] w fun e w' => e = .returned (.tuple #[.int .i64 0, .int .i64 8]) ∧ Below w.heap.size w w' := by
  go_enter Try.func49, Try.ntmps49
  go_wp2
  go_ret2
  exact ⟨rfl, Below.refl _ _⟩
theorem p_live_nil (w : World) (p q r : Int) : Calls Try.prog 44 #[.pointer none, .agg #[.int .i64 p, .int .i64 q, .int .i64 r]] w fun e w' => e = .returned (.tuple #[.pointer none, .int .i64 8]) ∧ Below w.heap.size w w' := by
  have hB := (hbox w p q r).2.2.2
  go_enter Try.func44, Try.ntmps44
  go_wp2
  go_ret2
  exact ⟨rfl, hB⟩
theorem p_free_nil (w : World) (h : Hd) : Calls Try.prog 45 #[.pointer none, .agg #[.int .i64 h.1, .int .i64 h.2.1, .int .i64 h.2.2]] w fun e w' => e = .returned (.int .i64 8) ∧ Below w.heap.size w w' := by
  obtain ⟨p, q, r⟩ := h
  have hB := (hbox w p q r).2.2.2
  have b0 := (hbox w p q r).1
  have b1 := (hbox w p q r).2.1
  have b2 := (hbox w p q r).2.2.1
  go_enter Try.func45, Try.ntmps45
  go_wp2_with fail
  refine (p_live_nil _ p q r).mono ?_
  rintro e2 w2 ⟨rfl, hB2⟩
  have hB3 := hB.trans (hB2.mono hB.size)
  clear b0 b1 b2 hB hB2
  go_wp2
  go_ret
  exact ⟨rfl, hB3⟩
theorem p_alloc_nil (w : World) (z : Int) : Calls Try.prog 40 #[.pointer none, .int .i64 z] w fun e w' => e = .returned (.tuple #[.agg #[.int .i64 0, .int .i64 0, .int .i64 0], .int .i64 8]) ∧ Below w.heap.size w w' := by
  have hB : Below w.heap.size w (w.alloc (.cells #[.int .i64 0, .int .i64 0, .int .i64 0] 81)) := (Below.refl _ _).alloc (Nat.le_refl _) _
  go_enter Try.func40, Try.ntmps40
  go_wp2_with fail
  refine (p_fit_nil _ z).mono ?_
  rintro e2 w2 ⟨rfl, hB2⟩
  have hX : w2.heap[w.heap.size]? = some (.cells #[.int .i64 0, .int .i64 0, .int .i64 0] 81 (0, 0)) := (hB2.block _ (by simp)).trans (heap_alloc_new w _)
  have X : BoxC (fun _ => 0) w2 w.heap.size 0 #[.int .i64 0, .int .i64 0, .int .i64 0] 81 := ⟨hX, rfl⟩
  have hB3 := hB.trans (hB2.mono hB.size)
  have y0 := X.cell 0 rfl
  have y1 := X.cell 1 rfl
  have y2 := X.cell 2 rfl
  have f0 := X.free 0
  have f1 := X.free 1
  have f2 := X.free 2
  have h3 := (((X.put 0 (.int .i64 0)).put 1 (.int .i64 0)).put 2 (.int .i64 0)).heap
  have hBX := Lib.hid (((hB3.setCell (p := ⟨w.heap.size, 0, none⟩) (Nat.le_refl _) (.int .i64 0)).setCell (p := ⟨w.heap.size, 1, none⟩) (Nat.le_refl _) (.int .i64 0)).setCell (p := ⟨w.heap.size, 2, none⟩) (Nat.le_refl _) (.int .i64 0))
  clear hX X hB hB2 hB3
  go_wp2
  refine bodyPost_ret (results_cell_row2 rfl _ _ w.heap.size _ _ (0, 0) _ rfl h3 Try.underlying81 rfl (by kernel_rfl)) rfl ?_
  exact ⟨rfl, hBX.out⟩
end
end Go.Proofs.Ytenchaifnfgijaa

/- The program's arena in memory: Free. Conditions: none beyond those typed. -/
namespace Go.Proofs.Ytenchaifnfgijaa
open Go.ChangeShapes Go.WideShapes Go.ChangeAt Go.RowKit
set_option linter.unusedVariables false
set_option linter.unusedSimpArgs false
set_option maxRecDepth 100000

section
variable {col : Col} {w : World} {k g : Nat} {L : List (Int × Int)} {sl : Nat → List PEm} {fr : Nat → List Nat} {fa : Int} {AL : Option Addr} {cL : Nat} {vS vF : Nat → Value}
set_option maxHeartbeats 1000000 in
theorem free_yes (H : ArB col k w g L sl fr fa AL cL vS vF) (ht : Tidy col w) (h8 : L.length ≤ 8) {c i : Nat} {e : PEm} (hc : c < L.length) (he : (sl c)[i]? = some e) (hu : e.1.u = true) (hm : (sl c).length ≤ 1000000) (hf : (fr c).length ≤ 1000000) :
    Calls Try.prog 45 #[.pointer (some ⟨g, 0, none⟩), .agg #[.int .i64 c, .int .i64 i, .int .i64 e.1.a]] w
      fun e' w' => e' = .returned (.int .i64 0) ∧ ∃ col' vF', ArB col' k w' g L (upd sl c ((sl c).set i ({ e.1 with u := false }, e.2))) (upd fr c (fr c ++ [i])) fa AL cL vS vF' ∧ StepC (Rng k) col w col' w' := by
  have hi := (List.getElem?_eq_some_iff.1 he).1
  have hk := H.k1
  obtain ⟨A, m, hv, hm1, hm2, hA⟩ := H.formS (c := c) (by omega)
  obtain ⟨b, rfl, hbw, hbc⟩ := hA (by omega)
  obtain ⟨b0, b1, b2, hB⟩ := hbox w c i e.1.a
  have H1 := H.below ht hB
  have ht1 := ht.size hB.size
  go_enter Try.func45, Try.ntmps45
  go_wp2_with fail
  refine (live_yes H1 ht1 h8 hc he hu hm hv).mono ?_
  rintro e2 w2 ⟨rfl, hB2⟩
  have hB3 := hB.trans (hB2.mono hB.size)
  have H2 := H1.below ht1 hB2
  have ht2 := ht.size hB3.size
  have hS2 : StepC (Rng k) col w col w2 := StepC.below ht hB3
  obtain ⟨s0, s1, s2, fS⟩ := H2.slot (c := c) (by omega) hv he
  have f0 := fS (i * 3)
  have b0' := c_keep b0 hB2
  have b1' := c_keep b1 hB2
  obtain ⟨H3, S3⟩ := H2.setS ht2 (c := c) (q := 0) (r' := ({ e.1 with u := false }, e.2)) (u := .bool false) (by omega) hv he (by omega) rfl (H2.same he rfl rfl)
  rw [Nat.add_zero] at H3 S3
  have hcolH : col w.heap.size = 0 := ht _ (Nat.le_refl _)
  have hneb : w.heap.size ≠ b := by omega
  have b0s : (w2.setCell ⟨b, i * 3, none⟩ (.bool false)).cell? ⟨w.heap.size, 0, none⟩ = some (.int .i64 (c : Int)) := c_set b0' hneb (Below.refl _ _)
  have b1s : (w2.setCell ⟨b, i * 3, none⟩ (.bool false)).cell? ⟨w.heap.size, 1, none⟩ = some (.int .i64 (i : Int)) := c_set b1' hneb (Below.refl _ _)
  have S4 := hS2.trans (S3.mono Inn.rng)
  have ht4 := S3.tidy
  have HH := Lib.hid H3
  have hcc : (c : Int) < 8 := by omega
  clear H H1 H2 b0 b1 b2 hB hB2 hB3 ht1 hS2 fS S3 s1 s2 H3
  go_wp2
  have H5 := HH.out
  obtain ⟨W, hW⟩ : ∃ W, W = w2.setCell ⟨b, i * 3, none⟩ (.bool false) := ⟨_, rfl⟩
  rw [← hW] at H5 ht4 S4 b0s b1s ⊢
  clear hW HH s0 f0 b0' b1' ht2
  obtain ⟨AF, mF, hvF, hF1, hF2, _⟩ := H5.formF (c := c) (by omega)
  have x9 := H5.cF (c := c) (by omega)
  rw [hvF] at x9
  have hBd : Below W.heap.size W (W.drew.alloc (.cells #[.int .i64 (i : Int)] 3)) := bd1 _ _
  have H6 := H5.below ht4 hBd
  have ht6 := ht4.size hBd.size
  have S6 := S4.trans (StepC.below ht4 hBd)
  have rd6 : RdG kI (W.drew.alloc (.cells #[.int .i64 (i : Int)] 3)) (some ⟨W.heap.size, 0, none⟩) 1 1 [(i : Int)] := RdG.one' kI rfl (i : Int)
  have oF := (H6.rowF.own c (show D8 c from Nat.lt_of_lt_of_le hc h8)).own
  rw [hvF] at oF
  have y9 : ∀ o, (W.alloc o).cell? ⟨g, 9 + c, none⟩ = some (.slice AF (fr c).length mF) := fun o => c_keep x9 ((Below.refl _ _).alloc (Nat.le_refl _) o)
  have y0 : ∀ o, (W.alloc o).cell? ⟨w.heap.size, 0, none⟩ = some (.int .i64 (c : Int)) := fun o => c_keep b0s ((Below.refl _ _).alloc (Nat.le_refl _) o)
  have y1 : ∀ o, (W.alloc o).cell? ⟨w.heap.size, 1, none⟩ = some (.int .i64 (i : Int)) := fun o => c_keep b1s ((Below.refl _ _).alloc (Nat.le_refl _) o)
  have z0 := y0 (.cells #[.int .i64 (i : Int)] 3)
  have hby : (ints (fr c)).length + 1 ≤ 1000000000 := by simp only [ints, List.length_map]; omega
  have HH6 := Lib.hid H6
  have hP2 : ¬ (col w.heap.size = k + 2) := by omega
  have hPk : ¬ (k = k + 2) := by omega
  have hlF : (ints (fr c) ++ [(i : Int)]).length = (fr c).length + 1 := by simp [ints]
  have hD8 : D8 c := Nat.lt_of_lt_of_le hc h8
  have hOB : (Value.slice AF (fr c).length mF).ownBlock = (vF c).ownBlock := by rw [hvF]
  have hHC : HasCol col (Value.slice AF (fr c).length mF) (k + 2) := fun q hq => (H6.rowF.own c hD8).col q (hOB.symm.trans hq)
  clear H5 hBd H6
  go_region_law (refine step_appG kI rfl (.tmp 28) (.tmp 31) rfl (.slice AF (fr c).length mF) (ints (fr c)) rfl _ 1 1 [(i : Int)] rfl oF rd6 hby ?_; intro v7 w7 O7 G7 hat7; have S7 := StepC.app (P := fun c => c = k + 2) ht6 G7 hHC rfl hat7 O7.lt; have z7 := S7.cell z0 hP2; have B7 := HH6.out.box.keep S7 hPk; have q1 := B7.cell (9 + c) (pbox_F hD8); have q2 := B7.free (9 + c); obtain ⟨A7, c7, rfl, _, _⟩ := O7.form hlF)
  all_goals
    rw [hOB] at G7 hat7
    have F8 := (HH6.out.rowF.app ht6 hD8 O7 G7 hat7).ints (fr c ++ [i]) (by simp [ints])
    obtain ⟨H8, S8⟩ := HH6.out.putF S7 hD8 F8
    have HH8 := Lib.hid H8
    clear H8 F8 HH6 S7 z7 B7 O7 G7 hat7
    go_wp2
    go_ret
    exact ⟨rfl, _, _, HH8.out, S6.trans (S8.mono Inn.rng)⟩
end
end Go.Proofs.Ytenchaifnfgijaa

/- The program's arena in memory: Free and Read, for whatever handle. Conditions: none beyond those typed. -/
namespace Go.Proofs.Ytenchaifnfgijaa
open Go.ChangeShapes Go.WideShapes Go.ChangeAt Go.RowKit
set_option linter.unusedVariables false
set_option linter.unusedSimpArgs false
set_option maxRecDepth 100000

section
variable {col : Col} {w : World} {k g : Nat} {L : List (Int × Int)} {sl : Nat → List PEm} {fr : Nat → List Nat} {fa : Int} {AL : Option Addr} {cL : Nat} {vS vF : Nat → Value}
/-- The bytes of a slot read. -/
theorem ArB.rdB (h : ArB col k w g L sl fr fa AL cL vS vF) {c i : Nat} {r : PEm} (hc : c < 8) (hr : (sl c)[i]? = some r) (hb : ∀ z ∈ r.1.b, 0 ≤ z ∧ z ≤ 255) : Rd w r.2.1 r.2.2.1 r.2.2.2 r.1.b := by
  obtain ⟨A, n, c', e, h2⟩ := ((h.bytes hc hr).own.toOwn hb).form
  have e : Value.slice r.2.1 r.2.2.1 r.2.2.2 = .slice A n c' := e
  injection e with e1 e2 e3
  subst e1 e2 e3
  exact h2
set_option maxHeartbeats 1000000 in
theorem read_yes (H : ArB col k w g L sl fr fa AL cL vS vF) (ht : Tidy col w) (h8 : L.length ≤ 8) {c i : Nat} {e : PEm} (hc : c < L.length) (he : (sl c)[i]? = some e) (hu : e.1.u = true) (hm : (sl c).length ≤ 1000000) (hb : ∀ z ∈ e.1.b, 0 ≤ z ∧ z ≤ 255) (hl : e.1.b.length ≤ 4096) :
    Calls Try.prog 34 #[.pointer (some ⟨g, 0, none⟩), .agg #[.int .i64 c, .int .i64 i, .int .i64 e.1.a]] w
      fun e' w' => ∃ A n d, e' = .returned (.tuple #[.slice A n d, .int .i64 0]) ∧ Rd0 col w' A n d e.1.b ∧ Below w.heap.size w w' := by
  have hi := (List.getElem?_eq_some_iff.1 he).1
  obtain ⟨A, m, hv, hm1, hm2, hA⟩ := H.formS (c := c) (by omega)
  obtain ⟨b, rfl, hbw, hbc⟩ := hA (by omega)
  have hB := (hbox w c i e.1.a).2.2.2
  have b0 := (hbox w c i e.1.a).1
  have b1 := (hbox w c i e.1.a).2.1
  have b2 := (hbox w c i e.1.a).2.2.1
  have H1 := H.below ht hB
  have ht1 := ht.size hB.size
  go_enter Try.func34, Try.ntmps34
  go_wp2_with fail
  refine (live_yes H1 ht1 h8 hc he hu hm hv).mono ?_
  rintro e2 w2 ⟨rfl, hB2⟩
  have hB3 := hB.trans (hB2.mono hB.size)
  have H2 := H1.below ht1 hB2
  have ht2 := ht.size hB3.size
  obtain ⟨s0, s1, s2, fS⟩ := H2.slot (c := c) (by omega) hv he
  have hrd := H2.rdB (c := c) (by omega) he hb
  have s2' : w2.cell? ⟨b, i * 3 + 2, none⟩ = some (.slice e.2.1 e.2.2.1 e.2.2.2) := s2
  have hrl := hrd.len
  have gb1 : ([] : List Int).length + e.2.2.1 ≤ 140737488355328 := by simp; omega
  obtain ⟨e1, A', n', c'⟩ := e
  simp only at s2' hrd gb1 hrl ⊢
  clear H1 H H2 b0 b1 b2 hB hB2 s0 s1 s2 fS he hv hA ht1
  go_wp2_with (at_builtin; refine wpList_app rfl (.const (.slice none 0 0)) (.tmp 20) rfl w2.heap.size (.slice none 0 0) [] rfl A' n' c' e1.b rfl (Own.nil w2 w2.heap.size) hrd gb1 (Nat.le_refl _) ?_; intro v5 w5 O5 G5 hat5; obtain ⟨A5, n5, c5, rfl, hr5⟩ := O5.form)
  go_ret2
  have hb5 : Below w2.heap.size w2 w5 := (Below.refl _ _).grown G5 (Nat.le_refl _) (fun q hq => by simp [Value.ownBlock] at hq)
  refine ⟨A5, n5, c5, rfl, ?_, hB3.trans (hb5.mono hB3.size)⟩
  have := Rd0.own ht2 O5
  rwa [List.nil_append] at this
set_option maxHeartbeats 1000000 in
theorem free_no (H : ArB col k w g L sl fr fa AL cL vS vF) (ht : Tidy col w) (h8 : L.length ≤ 8) (hf : 0 ≤ fa ∧ fa ≤ 1000000000) (hm : ∀ c, c < L.length → (sl c).length ≤ 1000000) {h : Hd} (hd : Dead L sl h) :
    Calls Try.prog 45 #[.pointer (some ⟨g, 0, none⟩), .agg #[.int .i64 h.1, .int .i64 h.2.1, .int .i64 h.2.2]] w
      fun e w' => e = .returned (.int .i64 9) ∧ ArB col k w' g L sl fr (fa + 1) AL cL vS vF ∧ StepC (Rng k) col w col w' := by
  obtain ⟨p, q, r⟩ := h
  obtain ⟨b0, b1, b2, hB⟩ := hbox w p q r
  have H1 := H.below ht hB
  have ht1 := ht.size hB.size
  go_enter Try.func45, Try.ntmps45
  go_wp2_with fail
  refine (live_no H1 ht1 h8 hf hm hd).mono ?_
  rintro e2 w2 ⟨rfl, H2, S2⟩
  have S3 := (StepC.below (P := Rng k) ht hB).trans S2
  have HH := Lib.hid H2
  clear b0 b1 b2 hB H H1 H2 S2
  go_wp2
  go_ret
  exact ⟨rfl, HH.out, S3⟩
set_option maxHeartbeats 1000000 in
theorem read_no (H : ArB col k w g L sl fr fa AL cL vS vF) (ht : Tidy col w) (h8 : L.length ≤ 8) (hf : 0 ≤ fa ∧ fa ≤ 1000000000) (hm : ∀ c, c < L.length → (sl c).length ≤ 1000000) {h : Hd} (hd : Dead L sl h) :
    Calls Try.prog 34 #[.pointer (some ⟨g, 0, none⟩), .agg #[.int .i64 h.1, .int .i64 h.2.1, .int .i64 h.2.2]] w
      fun e w' => e = .returned (.tuple #[.slice none 0 0, .int .i64 9]) ∧ ArB col k w' g L sl fr (fa + 1) AL cL vS vF ∧ StepC (Rng k) col w col w' := by
  obtain ⟨p, q, r⟩ := h
  obtain ⟨b0, b1, b2, hB⟩ := hbox w p q r
  have H1 := H.below ht hB
  have ht1 := ht.size hB.size
  go_enter Try.func34, Try.ntmps34
  go_wp2_with fail
  refine (live_no H1 ht1 h8 hf hm hd).mono ?_
  rintro e2 w2 ⟨rfl, H2, S2⟩
  have S3 := (StepC.below (P := Rng k) ht hB).trans S2
  have HH := Lib.hid H2
  clear b0 b1 b2 hB H H1 H2 S2
  go_wp2
  go_ret2
  exact ⟨rfl, HH.out, S3⟩
theorem fault_ar {x : ASt} (H : ArB col k w g x.L sl fr ((x.fa : Int) + 1) AL cL vS vF) : ArB col k w g x.fault.L sl fr (x.fault.fa : Int) AL cL vS vF := by
  have : (x.fault.fa : Int) = (x.fa : Int) + 1 := by simp [ASt.fault]
  rw [this]; exact H
theorem fa_bd {x : ASt} (hG : GoodA x) (hlt : x.t ≤ 1000000000) : 0 ≤ (x.fa : Int) ∧ (x.fa : Int) ≤ 1000000000 := by have := hG.fa; omega
theorem p_free {x : ASt} (H : PAr col k w g x) (ht : Tidy col w) (hlt : x.t ≤ 1000000000) (h : Hd) :
    Calls Try.prog 45 #[.pointer (some ⟨g, 0, none⟩), .agg #[.int .i64 h.1, .int .i64 h.2.1, .int .i64 h.2.2]] w fun e w' => e = .returned (.int .i64 (x.free h).1) ∧ DidP PAr col k w g (x.free h).2 w' := by
  obtain ⟨hG, sl, fr, AL, cL, vS, vF, R, H⟩ := H
  have hGF := hG.free h
  have h8 := hG.l.n8
  have hm : ∀ c, c < x.L.length → (sl c).length ≤ 1000000 := fun c hc => by have := R.few hG hc; omega
  rcases dead_or x.L sl h with hd | ⟨c, i, e, hc, he, hu, rfl⟩
  · refine (free_no H ht h8 (fa_bd hG hlt) hm hd).mono ?_
    rintro e w' ⟨rfl, H2, S2⟩
    have hx := R.freeNot (R.dead hG hd)
    rw [hx] at hGF ⊢
    exact ⟨rfl, col, ⟨hGF, sl, fr, AL, cL, vS, vF, R.fault, fault_ar H2⟩, S2⟩
  · refine (free_yes H ht h8 hc he hu (hm c hc) (by have := R.fewF hG hc; omega)).mono ?_
    rintro e' w' ⟨rfl, col', vF', H2, S2⟩
    obtain ⟨h1, h2⟩ := R.free hG hc (plain_at he) hu
    have hx : ∃ x', x' = (x.free ((c : Int), (i : Int), (e.1.a : Int))).2 := ⟨_, rfl⟩
    have hL : (x.free ((c : Int), (i : Int), (e.1.a : Int))).2.L = x.L := by unfold ASt.free; split <;> rfl
    have hfa : (x.free ((c : Int), (i : Int), (e.1.a : Int))).2.fa = x.fa := by
      have hf := (R.found hG hc (plain_at he) hu)
      obtain ⟨j, hf, _⟩ := hf
      unfold ASt.free; rw [hf]
    rw [← plain_set (r := ({ e.1 with u := false }, e.2))] at h2
    rw [← hL, ← hfa] at H2
    exact ⟨by rw [h1], col', ⟨hGF, _, _, AL, cL, vS, vF', h2, H2⟩, S2⟩
theorem p_read {x : ASt} (H : PAr col k w g x) (ht : Tidy col w) (hlt : x.t ≤ 1000000000) (h : Hd) :
    Calls Try.prog 34 #[.pointer (some ⟨g, 0, none⟩), .agg #[.int .i64 h.1, .int .i64 h.2.1, .int .i64 h.2.2]] w
      fun e w' => ∃ A n c, e = .returned (.tuple #[.slice A n c, .int .i64 (x.read h).1.2]) ∧ ∃ col', PAr col' k w' g (x.read h).2 ∧ StepC (Rng k) col w col' w' ∧ Rd0 col' w' A n c (x.read h).1.1 := by
  have H0 := H
  obtain ⟨hG, sl, fr, AL, cL, vS, vF, R, H⟩ := H
  have hGF := hG.read h
  have h8 := hG.l.n8
  have hm : ∀ c, c < x.L.length → (sl c).length ≤ 1000000 := fun c hc => by have := R.few hG hc; omega
  rcases dead_or x.L sl h with hd | ⟨c, i, e, hc, he, hu, rfl⟩
  · refine (read_no H ht h8 (fa_bd hG hlt) hm hd).mono ?_
    rintro e w' ⟨rfl, H2, S2⟩
    have hx : x.read h = (([], 9), x.fault) := by unfold ASt.read; rw [R.dead hG hd]
    rw [hx] at hGF ⊢
    exact ⟨none, 0, 0, rfl, col, ⟨hGF, sl, fr, AL, cL, vS, vF, R.fault, fault_ar H2⟩, S2, Rd.nil _ _ _ (Nat.zero_le _), fun h => by omega⟩
  · obtain ⟨j, y, hj, hy⟩ := R.get hG hc (plain_at he)
    have hys := hG.sl y (List.mem_of_getElem? hj)
    subst hy
    simp only at hys
    have hLc : x.L[c]? = some x.L[c] := List.getElem?_eq_getElem hc
    have hok := hG.l.ok _ (List.getElem_mem hc)
    rw [getD_at hLc] at hys
    refine (read_yes H ht h8 hc he hu (hm c hc) hys.2.2.2.2.1 (by omega)).mono ?_
    rintro e' w' ⟨A, n, d, rfl, hr, hb⟩
    have hx := R.read hG hc (plain_at he) hu
    rw [hx] at hGF ⊢
    exact ⟨A, n, d, rfl, col, ⟨hGF, sl, fr, AL, cL, vS, vF, R.tick, H.below ht hb⟩, StepC.below ht hb, hr⟩
end
end Go.Proofs.Ytenchaifnfgijaa

/- The program's arena in memory: Write. Conditions: none beyond those typed. -/
namespace Go.Proofs.Ytenchaifnfgijaa
open Go.ChangeShapes Go.WideShapes Go.ChangeAt Go.RowKit
set_option linter.unusedVariables false
set_option linter.unusedSimpArgs false
set_option maxRecDepth 100000

section
variable {col col' : Col} {w w' : World} {k g : Nat} {L : List (Int × Int)} {sl : Nat → List PEm} {fr : Nat → List Nat} {fa : Int} {AL : Option Addr} {cL : Nat} {vS vF : Nat → Value}
/-- The bytes of a slot have got a row. -/
theorem ArB.putB (h : ArB col k w g L sl fr fa AL cL vS vF) (ht : Tidy col w) {c i b n m : Nat} {r : PEm} (hc : c < 8) (hv : vS c = .slice (some ⟨b, 0, none⟩) n m) (hr : (sl c)[i]? = some r) {A : Option Addr} {n' c' : Nat} {l : List Int}
    (ho : OwnK kB w' (.slice A n' c') l) (hg : w.grownBy w' r.v.ownBlock) (hat : (Value.slice A n' c').ownBlock = r.v.ownBlock ∨ (Value.slice A n' c').ownBlock = some w.heap.size) :
    ArB (dye col (Value.slice A n' c').ownBlock (k + 3)) k (w'.setCell ⟨b, i * 3 + 2, none⟩ (.slice A n' c')) g L (upd sl c ((sl c).set i ({ r.1 with b := l }, A, n', c'))) fr fa AL cL vS vF ∧ StepC (Rng k) col w (dye col (Value.slice A n' c').ownBlock (k + 3)) (w'.setCell ⟨b, i * 3 + 2, none⟩ (.slice A n' c')) := by
  have hi := (List.getElem?_eq_some_iff.1 hr).1
  have hk := h.k1
  have hbv : bvOf sl (c, i) = r.v := by unfold bvOf; simp only; rw [hr]; rfl
  have hHC : HasCol col r.v (k + 3) := (h.bytes hc hr).col
  have hs : StepC (fun c => c = k + 3) col w (dye col (Value.slice A n' c').ownBlock (k + 3)) w' := StepC.app ht hg hHC rfl hat ho.lt
  have F5 := h.rowB.app (i := (c, i)) ht hc ho (by rw [hbv]; exact hg) (by rw [hbv]; exact hat)
  have h0 : ¬ (0 = k + 3) := by omega
  have h01 : ¬ (0 = k + 1) := by omega
  have hS := h.rowS.keep hs (by omega)
  have hcb : dye col (Value.slice A n' c').ownBlock (k + 3) b = k + 1 := (hS.own c hc).col b (by rw [hv]; rfl)
  have hs2 : StepC (fun c => c = k + 1) (dye col (Value.slice A n' c').ownBlock (k + 3)) w' (dye col (Value.slice A n' c').ownBlock (k + 3)) (w'.setCell ⟨b, i * 3 + 2, none⟩ (.slice A n' c')) := StepC.set hs.tidy hcb _
  refine ⟨⟨(h.box.keep hs (by omega)).keep hs2 (by omega), (h.cls.keep hs h0).keep hs2 h01, hS.store (i := c) hc hv (j := i) (q := 2) hr (show 2 < 3 by omega) rfl, (h.rowF.keep hs (by omega)).keep hs2 (by omega), ?_, hk⟩, (hs.mono fun c e => by subst e; exact ⟨by omega, by omega⟩).trans (hs2.mono fun c e => by subst e; exact ⟨by omega, by omega⟩)⟩
  rw [bv_set hi, bl_set hi]
  exact F5.keep hs2 (by omega)
theorem ownB_form {A : Option Addr} {n c : Nat} {l : List Int} (h : OwnK kB w (.slice A n c) l) : (A = none ∧ n = 0 ∧ c = 0 ∧ l = []) ∨ ∃ q, A = some ⟨q, 0, none⟩ ∧ q < w.heap.size ∧ n ≤ c ∧ c ≤ 9223372036854775807 := by
  have hl := h.len
  have hr := h.reads
  obtain ⟨A', c', e, _, hh⟩ := h.form hl
  injection e with e1 e2 e3
  subst e1 e3
  rcases hh with ⟨h1, h2, h3⟩ | ⟨q, h1, h2⟩
  · subst h2; exact .inl ⟨h1, by simpa using hl.symm, h3, rfl⟩
  · exact .inr ⟨q, h1, h2, hr.cap, hr.max⟩
theorem grown_none {o : Option Nat} (h : w.grownBy w' none) : w.grownBy w' o := ⟨h.os, h.tape, h.output, h.size, fun b hb _ => h.block b hb (by simp)⟩
theorem far_cell {q b o : Nat} {v : Value} (hg : w.grownBy w' (Value.slice (some ⟨q, 0, none⟩) 0 o).ownBlock) {a : Nat} (hne : b ≠ q) (hb : b < w.heap.size) (h : w.cell? ⟨b, a, none⟩ = some v) : w'.cell? ⟨b, a, none⟩ = some v :=
  (World.cell?_of_block (w := w) (hg.block b hb (by simp [Value.ownBlock]; exact hne))).trans h
theorem far_frozen {q b o : Nat} (hg : w.grownBy w' (Value.slice (some ⟨q, 0, none⟩) 0 o).ownBlock) {a : Nat} (hne : b ≠ q) (hb : b < w.heap.size) (h : w.frozen? ⟨b, a, none⟩ = false) : w'.frozen? ⟨b, a, none⟩ = false :=
  (World.frozen?_of_block (w := w) (hg.block b hb (by simp [Value.ownBlock]; exact hne))).trans h
theorem new_cell {b : Nat} {v : Value} (hg : w.grownBy w' none) {a : Nat} (hb : b < w.heap.size) (h : w.cell? ⟨b, a, none⟩ = some v) : w'.cell? ⟨b, a, none⟩ = some v := (World.cell?_of_block (w := w) (hg.block b hb (by simp))).trans h
theorem new_frozen {b : Nat} (hg : w.grownBy w' none) {a : Nat} (hb : b < w.heap.size) (h : w.frozen? ⟨b, a, none⟩ = false) : w'.frozen? ⟨b, a, none⟩ = false := (World.frozen?_of_block (w := w) (hg.block b hb (by simp))).trans h
theorem made_own {v : Value} (h : w.ownsRow 0 5 1 v 0 []) : OwnK kB w v [] := h
/-- The slot's new row, behind the store. -/
structure Again (col : Col) (W : World) (b i q N : Nat) (A : Option Addr) (n d : Nat) (x : List Int) : Prop where
  own : Own W 0 (.slice (some ⟨q, 0, none⟩) 0 N) []
  rd : Rd W A n d x
  lt : b < W.heap.size
  cell : W.cell? ⟨b, i * 3 + 2, none⟩ = some (.slice (some ⟨q, 0, none⟩) 0 N)
  free : W.frozen? ⟨b, i * 3 + 2, none⟩ = false
theorem upd_upd {ι α : Type} [DecidableEq ι] {f : ι → α} {i : ι} {a a' : α} : upd (upd f i a) i a' = upd f i a' := by
  funext j
  by_cases h : j = i
  · subst h; rw [upd_same, upd_same]
  · rw [upd_other h, upd_other h, upd_other h]
theorem set_at {c i : Nat} {r r' : PEm} (hr : (sl c)[i]? = some r) : (upd sl c ((sl c).set i r') c)[i]? = some r' := by
  have hi := (List.getElem?_eq_some_iff.1 hr).1
  rw [upd_same, List.getElem?_set, if_pos rfl, if_pos hi]
theorem set_set {c i : Nat} {r r' : PEm} : upd (upd sl c ((sl c).set i r)) c ((upd sl c ((sl c).set i r) c).set i r') = upd sl c ((sl c).set i r') := by rw [upd_upd, upd_same, List.set_set]
theorem ArB.again {b i c q N n d m nn c0 : Nat} {r : PEm} {A : Option Addr} {x : List Int} {W : World} (H : ArB col' k W g L (upd sl c ((sl c).set i ({ r.1 with b := [] }, some ⟨q, 0, none⟩, 0, N))) fr fa AL cL vS vF) (hs : StepC (Rng k) col w col' W) (hc : c < 8) (hb : RdX c0 col w A n d x) (hc0 : ¬ Rng k c0)
    (hv : vS c = .slice (some ⟨b, 0, none⟩) nn m) (hr : (sl c)[i]? = some r) : Again col' W b i q N A n d x := by
  have h1 := set_at (r' := (({ r.1 with b := [] }, some ⟨q, 0, none⟩, 0, N) : PEm)) hr
  obtain ⟨s0, s1, s2, fS⟩ := H.slot hc hv h1
  exact ⟨(H.bytes hc h1).own.toOwn (fun z hz => by simp at hz), (hb.keep hs hc0).rd, World.block_lt_of_cell? _ _ s2, s2, fS _⟩
/-- What Write leaves at a live handle. -/
def WrOut (col : Col) (k : Nat) (w : World) (g : Nat) (L : List (Int × Int)) (sl : Nat → List PEm) (fr : Nat → List Nat) (fa : Int) (AL : Option Addr) (cL : Nat) (vS vF : Nat → Value) (c i : Nat) (e1 : PE) (b : List Int) (Z : Int) (n : Nat) (e' : Ending) (w' : World) : Prop :=
  (Z < (n : Int) ∧ e' = .returned (.int .i64 4) ∧ Below w.heap.size w w') ∨ (¬ Z < (n : Int) ∧ e' = .returned (.int .i64 0) ∧ ∃ col' B n' c', ArB col' k w' g L (upd sl c ((sl c).set i ({ e1 with b := b }, B, n', c'))) fr fa AL cL vS vF ∧ StepC (Rng k) col w col' w')
set_option maxHeartbeats 2000000 in
theorem write_yes (H : ArB col k w g L sl fr fa AL cL vS vF) (ht : Tidy col w) (hG : GoodL L) {c i : Nat} {e : PEm} (hc : c < L.length) (he : (sl c)[i]? = some e) (hu : e.1.u = true) (hm : (sl c).length ≤ 1000000) {A : Option Addr} {n d : Nat} {b : List Int} {c0 : Nat} (hc0 : ¬ Rng k c0) (hb : RdX c0 col w A n d b) (hn : n ≤ 1000000) :
    Calls Try.prog 41 #[.pointer (some ⟨g, 0, none⟩), .agg #[.int .i64 c, .int .i64 i, .int .i64 e.1.a], .slice A n d] w
      (WrOut col k w g L sl fr fa AL cL vS vF c i e.1 b (L.getD c (0, 0)).1 n) := by
  have h8 := hG.n8
  have hok := hG.ok
  have hi := (List.getElem?_eq_some_iff.1 he).1
  have hk := H.k1
  obtain ⟨AS, m, hv, hm1, hm2, hA⟩ := H.formS (c := c) (by omega)
  obtain ⟨bS, rfl, hbw, hbc⟩ := hA (by omega)
  obtain ⟨b0, b1, b2, hB⟩ := hbox w c i e.1.a
  have H1 := H.below ht hB
  have ht1 := ht.size hB.size
  generalize hZ : (L.getD c (0, 0)).1 = Z
  go_enter Try.func41, Try.ntmps41
  go_wp2_with fail
  refine (live_yes H1 ht1 h8 hc he hu hm hv).mono ?_
  rintro e2 w2 ⟨rfl, hB2⟩
  have hB3 := hB.trans (hB2.mono hB.size)
  have H2 := H1.below ht1 hB2
  have ht2 := ht.size hB3.size
  have S2 : StepC (Rng k) col w col w2 := StepC.below ht hB3
  have hb2 := hb.keep S2 hc0
  have b0' := c_keep b0 hB2
  have x0 := H2.c0
  have hcapL := H2.cls.rd.cap
  have hmaxL := H2.cls.rd.max
  obtain ⟨bL, oL, z1, z2, hAL, hz, hzm, hbL, l0, l1⟩ := H2.cls.rd.atC hc
  subst hAL
  have hzb := hok _ hzm
  have hzZ : z1 = Z := by rw [← hZ, getD_at hz]
  simp only at hzb
  subst hzZ
  clear hZ
  have hbl := hb.rd.len
  have hcc : (c : Int) < (L.length : Int) := by omega
  clear H H1 b0 b1 b2 hB hB2 hb ht1 hA hz hzm l1 hok
  by_cases hlong : z1 < (n : Int)
  · clear hb2 H2
    go_wp2
    go_quiet (fail)
    go_wp2
    go_ret
    exact .inl ⟨hlong, rfl, below_drewN hB3 _⟩
  · have HH := Lib.hid H2
    clear H2
    go_wp2
    go_quiet (fail)
    have hbb := below_drewN (Below.refl w2.heap.size w2) nq
    have H3 := HH.out.below ht2 hbb
    have ht3 := ht2.size hbb.size
    have S3 := S2.trans (StepC.below ht2 hbb)
    have hb3 := hb2.keep (P := Rng k) (StepC.below ht2 hbb) hc0
    obtain ⟨W3, hW3⟩ : ∃ W3, W3 = w2.drewN nq := ⟨_, rfl⟩
    rw [← hW3] at H3 ht3 S3 hb3 ⊢
    clear hW3 HH hbb ht2 S2 hb2 x0 b0' l0 hB3
    obtain ⟨s0, s1, s2, fS⟩ := H3.slot (c := c) (by omega) hv he
    have f2 := fS (i * 3 + 2)
    have hoB := H3.bytes (c := c) (by omega) he
    obtain ⟨e1, B, n', c'⟩ := e
    have s2' : W3.cell? ⟨bS, i * 3 + 2, none⟩ = some (.slice B n' c') := s2
    have hoB1 : OwnK kB W3 (.slice B n' c') e1.b := hoB.own
    have hgb : ([] : List Int).length + n ≤ 140737488355328 := by simp; omega
    clear s0 s1 s2 fS
    have hE := fun (A : Option Addr) (n c : Nat) (w : World) => Lib.run_eql_slice_nil (P := Try.prog) w 89 5 A n c 0 0 Try.underlying89
    have hrd := hb3.rd
    rcases ownB_form hoB1 with ⟨rfl, rfl, rfl, hnil⟩ | ⟨q, rfl, hq, hqn, hqm⟩
    · have hE1 := fun w => hE none 0 0 w
      obtain ⟨N, rfl⟩ : ∃ N : Nat, z1 = (N : Int) := ⟨z1.toNat, by omega⟩
      have hN : N ≤ 4096 := by omega
      obtain ⟨i0, hi0, hz0, hz1, hz2⟩ := info_parts info_u8
      have HI := Lib.hid hi0
      have hby : i0.bytes * N ≤ 281474976710656 := by rw [hz2]; omega
      have hmx : N ≤ maxLen := by simp only [maxLen]; omega
      have hbW : bS < W3.heap.size := World.block_lt_of_cell? _ _ s2'
      have hc8 : c < 8 := by omega
      have HH3 := Lib.hid H3
      have HE := Lib.hid he
      have HV := Lib.hid hv
      have hne : bS ≠ W3.heap.size := by omega
      clear H3 hoB hE he hv hi0 hz2 hc
      go_wp2_with (first | (at_make; refine wpList_make_own _ rfl _ _ 89 rfl 0 5 i0 (.int .u8 0) 1 Try.underlying89 HI.out hz0 hz1 _ _ _ N rfl rfl rfl hby hmx (Nat.zero_le _) ?_; intro w4 ho4 hg4; have s4 := new_cell hg4 hbW s2'; have f4 := new_frozen hg4 hbW f2; have P4 := HH3.out.putB ht3 hc8 HV.out HE.out (l := []) (made_own ho4) (grown_none hg4) (Or.inr rfl); have Q4 := P4.1.again P4.2 hc8 hb3 hc0 HV.out HE.out) | (at_builtin; refine wpList_app rfl (.tmp 47) (.tmp 48) rfl 0 (.slice (some ⟨W3.heap.size, 0, none⟩) 0 N) [] rfl A n d b rfl Q4.own Q4.rd hgb (Nat.zero_le _) ?_; intro v5 w5 O5 G5 hat5; obtain ⟨A5, n5, c5, rfl, _⟩ := O5.form; have s5 := far_cell G5 hne Q4.lt Q4.cell; have f5 := far_frozen G5 hne Q4.lt Q4.free))
      go_ret
      obtain ⟨H6, S6⟩ := P4.1.putB P4.2.tidy hc8 HV.out (set_at HE.out) O5.toK G5 hat5
      rw [List.nil_append, set_set] at H6
      exact .inr ⟨by omega, rfl, _, _, _, _, H6, (S3.trans P4.2).trans S6⟩
    · have hE1 := fun w => hE (some ⟨q, 0, none⟩) n' c' w
      have hcut := hoB1.cutTo (j := 0) (Nat.zero_le _)
      rw [List.take_zero] at hcut
      have hO := hcut.toOwn (fun z hz => by simp at hz)
      have hqc := (hoB.col q rfl)
      have hSc := (H3.rowS.own c (show D8 c by show c < 8; omega)).col bS (by rw [hv]; rfl)
      have hne : bS ≠ q := by rintro rfl; omega
      have hbW : bS < W3.heap.size := World.block_lt_of_cell? _ _ s2'
      have HH3 := Lib.hid H3
      have HE := Lib.hid he
      have HV := Lib.hid hv
      clear H3 hcut hoB hE he hv
      go_wp2_with (at_builtin; refine wpList_app rfl (.tmp 47) (.tmp 48) rfl 0 (.slice (some ⟨q, 0, none⟩) 0 c') [] rfl A n d b rfl hO hrd hgb (Nat.zero_le _) ?_; intro v5 w5 O5 G5 hat5; obtain ⟨A5, n5, c5, rfl, _⟩ := O5.form; have s5 := far_cell G5 hne hbW s2'; have f5 := far_frozen G5 hne hbW f2)
      go_ret
      obtain ⟨H6, S6⟩ := HH3.out.putB ht3 (show c < 8 by omega) HV.out HE.out O5.toK G5 hat5
      rw [List.nil_append] at H6
      exact .inr ⟨by omega, rfl, _, _, _, _, H6, S3.trans S6⟩
set_option maxHeartbeats 1000000 in
theorem write_no (H : ArB col k w g L sl fr fa AL cL vS vF) (ht : Tidy col w) (h8 : L.length ≤ 8) (hf : 0 ≤ fa ∧ fa ≤ 1000000000) (hm : ∀ c, c < L.length → (sl c).length ≤ 1000000) {h : Hd} (hd : Dead L sl h) (A : Option Addr) (n d : Nat) :
    Calls Try.prog 41 #[.pointer (some ⟨g, 0, none⟩), .agg #[.int .i64 h.1, .int .i64 h.2.1, .int .i64 h.2.2], .slice A n d] w
      fun e w' => e = .returned (.int .i64 9) ∧ ArB col k w' g L sl fr (fa + 1) AL cL vS vF ∧ StepC (Rng k) col w col w' := by
  obtain ⟨p, q, r⟩ := h
  obtain ⟨b0, b1, b2, hB⟩ := hbox w p q r
  have H1 := H.below ht hB
  have ht1 := ht.size hB.size
  go_enter Try.func41, Try.ntmps41
  go_wp2_with fail
  refine (live_no H1 ht1 h8 hf hm hd).mono ?_
  rintro e2 w2 ⟨rfl, H2, S2⟩
  have S3 := (StepC.below (P := Rng k) ht hB).trans S2
  have HH := Lib.hid H2
  clear b0 b1 b2 hB H H1 H2 S2
  go_wp2
  go_ret
  exact ⟨rfl, HH.out, S3⟩
theorem p_write {x : ASt} (H : PAr col k w g x) (ht : Tidy col w) (hlt : x.t ≤ 1000000000) (h : Hd) {A : Option Addr} {n d : Nat} {b : List Int} {c0 : Nat} (hc0 : ¬ Rng k c0) (hb : RdX c0 col w A n d b) (hn : n ≤ 1000000) :
    Calls Try.prog 41 #[.pointer (some ⟨g, 0, none⟩), .agg #[.int .i64 h.1, .int .i64 h.2.1, .int .i64 h.2.2], .slice A n d] w fun e w' => e = .returned (.int .i64 (x.write h b).1) ∧ DidP PAr col k w g (x.write h b).2 w' := by
  obtain ⟨hG, sl, fr, AL, cL, vS, vF, R, H⟩ := H
  have hGF := hG.write h hb.rd.bytes
  have h8 := hG.l.n8
  have hbl := hb.rd.len
  have hm : ∀ c, c < x.L.length → (sl c).length ≤ 1000000 := fun c hc => by have := R.few hG hc; omega
  rcases dead_or x.L sl h with hd | ⟨c, i, e, hc, he, hu, rfl⟩
  · refine (write_no H ht h8 (fa_bd hG hlt) hm hd A n d).mono ?_
    rintro e w' ⟨rfl, H2, S2⟩
    have hx : x.write h b = (9, x.fault) := by unfold ASt.write; rw [R.dead hG hd]
    rw [hx] at hGF ⊢
    exact ⟨rfl, col, ⟨hGF, sl, fr, AL, cL, vS, vF, R.fault, fault_ar H2⟩, S2⟩
  · obtain ⟨h1, h2⟩ := R.write hG hc (plain_at he) hu b
    refine (write_yes H ht hG.l hc he hu (hm c hc) hc0 hb hn).mono ?_
    rintro e' w' (⟨hz, rfl, hB⟩ | ⟨hz, rfl, col', B, n', c', H2, S2⟩)
    · rw [← hbl] at hz
      have hx := h1 hz
      rw [hx] at hGF ⊢
      exact ⟨rfl, col, ⟨hGF, sl, fr, AL, cL, vS, vF, R.tick, H.below ht hB⟩, StepC.below ht hB⟩
    · rw [← hbl] at hz
      obtain ⟨e1, e2, e3, e4⟩ := h2 hz
      rw [← plain_set (r := ({ e.1 with b := b }, B, n', c'))] at e4
      rw [← e3, ← e2] at H2
      exact ⟨by rw [e1], col', ⟨hGF, _, _, AL, cL, vS, vF, e4, H2⟩, S2⟩
end
end Go.Proofs.Ytenchaifnfgijaa

/- The program's arena in memory: Alloc. Conditions: none beyond those typed. -/
namespace Go.Proofs.Ytenchaifnfgijaa
open Go.ChangeShapes Go.WideShapes Go.ChangeAt Go.RowKit
set_option linter.unusedVariables false
set_option linter.unusedSimpArgs false
set_option maxRecDepth 100000

section
variable {col col' : Col} {w w' : World} {k g : Nat} {L : List (Int × Int)} {sl : Nat → List PEm} {fr : Nat → List Nat} {fa : Int} {AL : Option Addr} {cL : Nat} {vS vF : Nat → Value}
theorem ArB.tmp (h : ArB col k w g L sl fr fa AL cL vS vF) (ht : Tidy col w) (cs : Array Value) (t : TypeId) :
    ArB (dye col (some w.heap.size) (k + 15)) k (w.alloc (.cells cs t)) g L sl fr fa AL cL vS vF ∧ StepC (Rng k) col w (dye col (some w.heap.size) (k + 15)) (w.alloc (.cells cs t)) ∧ BoxC (dye col (some w.heap.size) (k + 15)) (w.alloc (.cells cs t)) w.heap.size (k + 15) cs t := by
  have hB : Below w.heap.size w (w.alloc (.cells cs t)) := (Below.refl _ _).alloc (Nat.le_refl _) _
  have hs : ∀ P, StepC P col w (dye col (some w.heap.size) (k + 15)) (w.alloc (.cells cs t)) := fun P => StepC.newRow ht hB fun b e => by injection e with e; subst e; exact ⟨Nat.le_refl _, by simp⟩
  exact ⟨h.keep (P := fun _ => False) (hs _) (fun _ _ h => h) (fun h => h), hs _, heap_alloc_new w _, dye_of⟩
/-- The result is written into its box. -/
theorem ArB.ret {g' : Nat} {a b c : Value} {t : TypeId} (h : ArB col k w g L sl fr fa AL cL vS vF) (ht : Tidy col w) (X : BoxC col w g' (k + 15) #[a, b, c] t) (u0 u1 u2 : Value) :
    ArB col k (((w.setCell ⟨g', 0, none⟩ u0).setCell ⟨g', 1, none⟩ u1).setCell ⟨g', 2, none⟩ u2) g L sl fr fa AL cL vS vF ∧ StepC (Rng k) col w col (((w.setCell ⟨g', 0, none⟩ u0).setCell ⟨g', 1, none⟩ u1).setCell ⟨g', 2, none⟩ u2) ∧
      (((w.setCell ⟨g', 0, none⟩ u0).setCell ⟨g', 1, none⟩ u1).setCell ⟨g', 2, none⟩ u2).heap[g']? = some (.cells #[u0, u1, u2] t (0, 0)) := by
  have hk := h.k1
  have s := put3_step (P := fun c => c = k + 15) ht X.col u0 u1 u2
  have h0 : ¬ (0 = k + 15) := by omega
  exact ⟨⟨h.box.keep s (by omega), h.cls.keep s h0, h.rowS.keep s (by omega), h.rowF.keep s (by omega), h.rowB.keep s (by omega), h.k1⟩, s.mono fun c e => by subst e; exact ⟨by omega, by omega⟩, (((X.put 0 u0).put 1 u1).put 2 u2).heap⟩
/-- A free slot is taken: it is in use, its age is one more, it has no bytes. -/
theorem ArB.wake (h : ArB col k w g L sl fr fa AL cL vS vF) (ht : Tidy col w) {c i b n m : Nat} {e1 : PE} {B : Option Addr} {n' c' : Nat} (hc : c < 8) (hv : vS c = .slice (some ⟨b, 0, none⟩) n m) (hr : (sl c)[i]? = some (e1, B, n', c')) {z : Int} (hz : z = ((e1.a + 1 : Nat) : Int)) :
    ArB col k (((w.setCell ⟨b, i * 3, none⟩ (.bool true)).setCell ⟨b, i * 3 + 1, none⟩ (.int .i64 z)).setCell ⟨b, i * 3 + 2, none⟩ (.slice B 0 c')) g L (upd sl c ((sl c).set i (⟨true, e1.a + 1, []⟩, B, 0, c'))) fr fa AL cL vS vF
      ∧ StepC (Inn k) col w col (((w.setCell ⟨b, i * 3, none⟩ (.bool true)).setCell ⟨b, i * 3 + 1, none⟩ (.int .i64 z)).setCell ⟨b, i * 3 + 2, none⟩ (.slice B 0 c')) := by
  subst hz
  obtain ⟨H1, S1⟩ := h.setS ht hc hv hr (q := 0) (r' := ({ e1 with u := true }, B, n', c')) (u := .bool true) (by omega) rfl (h.same hr rfl rfl)
  have r1 := set_at (r' := (({ e1 with u := true }, B, n', c') : PEm)) hr
  obtain ⟨H2, S2⟩ := H1.setS S1.tidy hc hv r1 (q := 1) (r' := (⟨true, e1.a + 1, e1.b⟩, B, n', c')) (u := .int .i64 ((e1.a + 1 : Nat) : Int)) (by omega) rfl (H1.same r1 rfl rfl)
  rw [set_set] at H2
  have r2 := set_at (r' := ((⟨true, e1.a + 1, e1.b⟩, B, n', c') : PEm)) hr
  have hi := (List.getElem?_eq_some_iff.1 r2).1
  have hcut : Fam D88 kB col ((w.setCell ⟨b, i * 3 + 0, none⟩ (.bool true)).setCell ⟨b, i * 3 + 1, none⟩ (.int .i64 ((e1.a + 1 : Nat) : Int))) (k + 3) (bvOf (upd (upd sl c ((sl c).set i (⟨true, e1.a + 1, e1.b⟩, B, n', c'))) c ((upd sl c ((sl c).set i (⟨true, e1.a + 1, e1.b⟩, B, n', c')) c).set i (⟨true, e1.a + 1, []⟩, B, 0, c'))))
      (blOf (upd (upd sl c ((sl c).set i (⟨true, e1.a + 1, e1.b⟩, B, n', c'))) c ((upd sl c ((sl c).set i (⟨true, e1.a + 1, e1.b⟩, B, n', c')) c).set i (⟨true, e1.a + 1, []⟩, B, 0, c')))) := by
    rw [bv_set hi, bl_set hi]
    have ho := (H2.bytes hc r2).own.cutTo (j := 0) (Nat.zero_le _)
    rw [List.take_zero] at ho
    refine H2.rowB.cut (i := (c, i)) hc ho ?_
    have : bvOf (upd sl c ((sl c).set i (⟨true, e1.a + 1, e1.b⟩, B, n', c'))) (c, i) = .slice B n' c' := by unfold bvOf; simp only; rw [r2]; rfl
    rw [this]
    cases B <;> rfl
  obtain ⟨H3, S3⟩ := H2.setS S2.tidy hc hv r2 (q := 2) (r' := (⟨true, e1.a + 1, []⟩, B, 0, c')) (u := .slice B 0 c') (by omega) rfl hcut
  rw [set_set] at H3
  exact ⟨H3, (S1.trans S2).trans S3⟩
/-- What take leaves. -/
def TakeOut (col : Col) (k : Nat) (w : World) (g : Nat) (x : ASt) (AL : Option Addr) (cL : Nat) (c : Nat) (e : Ending) (w' : World) : Prop :=
  (e = .returned (.tuple #[.int .i64 0, .bool false]) ∧ Below w.heap.size w w' ∧ x.take c = (((0, 0, 0), 7), x.tick)) ∨
  ∃ (i : Nat) (r : PEm) (col' : Col) (sl' : Nat → List PEm) (fr' : Nat → List Nat) (vS' vF' : Nat → Value), e = .returned (.tuple #[.int .i64 i, .bool true]) ∧ ArB col' k w' g x.L sl' fr' (x.fa : Int) AL cL vS' vF' ∧ StepC (Inn k) col w col' w' ∧ (sl' c)[i]? = some r ∧ (sl' c).length ≤ 65537 ∧ r.1.a ≤ x.t ∧
    (x.take c).1 = (((c : Int), (i : Int), ((r.1.a + 1 : Nat) : Int)), 0) ∧ (x.take c).2.fa = x.fa ∧ (x.take c).2.L = x.L ∧ ∀ r' : PEm, r'.1 = ⟨true, r.1.a + 1, []⟩ → Rel (x.take c).2 (plain (upd sl' c ((sl' c).set i r'))) fr'
theorem p_take {x : ASt} (hG : GoodA x) (R : Rel x (plain sl) fr) (H : ArB col k w g x.L sl fr (x.fa : Int) AL cL vS vF) (ht : Tidy col w) {c : Nat} (hc : c < x.L.length) :
    Calls Try.prog 50 #[.pointer (some ⟨g, 0, none⟩), .int .i64 c] w (TakeOut col k w g x AL cL c) := by
  have h8 := hG.l.n8
  have hm := R.few hG hc
  have hf := R.fewF hG hc
  rcases List.eq_nil_or_concat (fr c) with hn | ⟨fl, i, hn⟩
  · obtain ⟨f1, f2⟩ := R.fresh hG hc hn
    rw [plain_len] at f1 f2
    by_cases hfull : ((sl c).length : Int) = (x.L.getD c (0, 0)).2
    · refine (take_none_left H ht h8 hc hn (by omega) hfull).mono ?_
      rintro e w' ⟨rfl, hB⟩
      exact .inl ⟨rfl, hB, f1 hfull⟩
    · obtain ⟨e1, e2, e3, e4⟩ := f2 hfull
      refine (take_new H ht h8 hc hn (by omega) hfull).mono ?_
      rintro e w' ⟨rfl, col', vS', H2, S2⟩
      refine .inr ⟨(sl c).length, slot0, col', _, fr, vS', vF, rfl, H2, S2, ?_, ?_, Nat.zero_le _, e1, e2, e3, fun r' hr' => ?_⟩
      · rw [upd_same]; simp
      · rw [upd_same]; simp; omega
      · rw [upd_upd, upd_same, List.set_append_right _ _ (Nat.le_refl _), Nat.sub_self, List.set_cons_zero, plain_upd, List.map_append]
        show Rel _ (upd (plain sl) c (plain sl c ++ [r'.1])) fr
        rw [hr']; exact e4
  · rw [List.concat_eq_append] at hn
    obtain ⟨e, he, hu, ha, e1, e2, e3, e4⟩ := R.again hG hc hn
    obtain ⟨r, hr, rfl⟩ : ∃ r, (sl c)[i]? = some r ∧ r.1 = e := by
      unfold plain at he
      rw [List.getElem?_map] at he
      cases hs : (sl c)[i]? with
      | none => rw [hs] at he; simp at he
      | some z => rw [hs] at he; simp at he; exact ⟨z, rfl, he⟩
    refine (take_again H ht h8 hc hn (by omega)).mono ?_
    rintro e' w' ⟨rfl, vF', H2, S2⟩
    refine .inr ⟨i, r, col, sl, _, vS, vF', rfl, H2, S2, hr, by omega, ha, e1, e2, e3, fun r' hr' => ?_⟩
    rw [plain_set, hr']; exact e4
set_option maxHeartbeats 2000000 in
theorem p_alloc {x : ASt} (H : PAr col k w g x) (ht : Tidy col w) (hlt : x.t ≤ 1000000000) (z : Int) (hz : I64 z) :
    Calls Try.prog 40 #[.pointer (some ⟨g, 0, none⟩), .int .i64 z] w fun e w' => e = .returned (.tuple #[.agg #[.int .i64 (x.alloc z).1.1.1, .int .i64 (x.alloc z).1.1.2.1, .int .i64 (x.alloc z).1.1.2.2], .int .i64 (x.alloc z).1.2]) ∧ DidP PAr col k w g (x.alloc z).2 w' := by
  obtain ⟨hG, sl, fr, AL, cL, vS, vF, R, H⟩ := H
  have hGF := hG.alloc z
  have h8 := hG.l.n8
  have hok := hG.l.ok
  have hk := H.k1
  obtain ⟨H1, S1, X1⟩ := H.tmp ht #[.int .i64 0, .int .i64 0, .int .i64 0] 81
  have ht1 := S1.tidy
  generalize hcol : dye col (some w.heap.size) (k + 15) = col1 at H1 S1 X1 ht1
  clear hcol
  go_enter Try.func40, Try.ntmps40
  go_wp2_with fail
  obtain ⟨W1, hW1⟩ : ∃ W1, W1 = w.alloc (.cells #[.int .i64 0, .int .i64 0, .int .i64 0] 81) := ⟨_, rfl⟩
  rw [← hW1] at H1 ht1 S1 X1 ⊢
  clear hW1 H
  refine (p_fit H1 h8 (fun y hy => by have := hok y hy; omega) z hz).mono ?_
  rintro e w2 ⟨rfl, hb2⟩
  have H2 := H1.below ht1 hb2
  have ht2 := ht1.size hb2.size
  have S2 := S1.trans (StepC.below ht1 hb2)
  have X2 : BoxC col1 w2 w.heap.size (k + 15) #[.int .i64 0, .int .i64 0, .int .i64 0] 81 := X1.keep (P := fun _ => False) (StepC.below ht1 hb2) (fun h => h)
  clear H1 ht1 S1 X1 hb2
  cases hfit : fitP x.L z with
  | none =>
    have HF := Lib.hid (show x.alloc z = (((0, 0, 0), 1), x.tick) by unfold ASt.alloc; rw [hfit])
    have y0 : w2.cell? ⟨w.heap.size, 0, none⟩ = some (.int .i64 0) := X2.cell 0 rfl
    have y1 : w2.cell? ⟨w.heap.size, 1, none⟩ = some (.int .i64 0) := X2.cell 1 rfl
    have y2 : w2.cell? ⟨w.heap.size, 2, none⟩ = some (.int .i64 0) := X2.cell 2 rfl
    have f0 := X2.free 0
    have f1 := X2.free 1
    have f2 := X2.free 2
    obtain ⟨H3, S3, h3⟩ := H2.ret ht2 X2 (.int .i64 0) (.int .i64 0) (.int .i64 0)
    have HH := Lib.hid H3
    clear hfit H2 hok H3
    simp only [fitR]
    go_wp2
    refine bodyPost_ret (results_cell_row2 rfl _ _ w.heap.size _ _ (0, 0) _ rfl h3 Try.underlying81 rfl (by kernel_rfl)) rfl ?_
    rw [HF.out] at hGF ⊢
    exact ⟨rfl, _, ⟨hGF, _, _, _, _, _, _, R.tick, HH.out⟩, S2.trans S3⟩
  | some c =>
    have hcl := fit_lt hfit
    have HF := Lib.hid (show x.alloc z = x.take c by unfold ASt.alloc; rw [hfit])
    clear hfit hok
    simp only [fitR]
    go_wp2_with fail
    refine (p_take hG R H2 ht2 hcl).mono ?_
    rintro e w3 (⟨rfl, hb3, hT⟩ | ⟨i, r, col3, sl3, fr3, vS3, vF3, rfl, H3, S3, hr, hlen, hat, e1, e2, e3, hR⟩)
    · have H3 := H2.below ht2 hb3
      have ht3 := ht2.size hb3.size
      have S3 := S2.trans (StepC.below ht2 hb3)
      have X3 : BoxC col1 w3 w.heap.size (k + 15) #[.int .i64 0, .int .i64 0, .int .i64 0] 81 := X2.keep (P := fun _ => False) (StepC.below ht2 hb3) (fun h => h)
      have y0 : w3.cell? ⟨w.heap.size, 0, none⟩ = some (.int .i64 0) := X3.cell 0 rfl
      have y1 : w3.cell? ⟨w.heap.size, 1, none⟩ = some (.int .i64 0) := X3.cell 1 rfl
      have y2 : w3.cell? ⟨w.heap.size, 2, none⟩ = some (.int .i64 0) := X3.cell 2 rfl
      have f0 := X3.free 0
      have f1 := X3.free 1
      have f2 := X3.free 2
      obtain ⟨H4, S4, h4⟩ := H3.ret ht3 X3 (.int .i64 0) (.int .i64 0) (.int .i64 0)
      have HH := Lib.hid H4
      have HT := Lib.hid hT
      clear H3 H2 H4 X2 hb3 hT
      go_wp2
      refine bodyPost_ret (results_cell_row2 rfl _ _ w.heap.size _ _ (0, 0) _ rfl h4 Try.underlying81 rfl (by kernel_rfl)) rfl ?_
      rw [HF.out, HT.out] at hGF ⊢
      exact ⟨rfl, _, ⟨hGF, _, _, _, _, _, _, R.tick, HH.out⟩, S3.trans S4⟩
    · have ht3 := S3.tidy
      have X3 := X2.keep S3 (fun h => by have := h.2; omega)
      have hc8 : c < 8 := by omega
      have hi := (List.getElem?_eq_some_iff.1 hr).1
      obtain ⟨AS, m, hv, hm1, hm2, hA⟩ := H3.formS hc8
      obtain ⟨b, rfl, hbw, hbc⟩ := hA (by omega)
      obtain ⟨⟨u, a, bb⟩, B, n', c'⟩ := r
      have x1 := H3.cS hc8
      rw [hv] at x1
      obtain ⟨s0, s1, s2, fS⟩ := H3.slot hc8 hv hr
      have q0 := fS (i * 3)
      have q1 := fS (i * 3 + 1)
      have q2 := fS (i * 3 + 2)
      simp only at s0 s1 hat e1 hR
      have s2' : w3.cell? ⟨b, i * 3 + 2, none⟩ = some (.slice B n' c') := s2
      have hz1 : (a : Int) + 1 = ((a + 1 : Nat) : Int) := by omega
      obtain ⟨H4, S4⟩ := H3.wake ht3 hc8 hv hr hz1
      have X4 := X3.keep S4 (fun h => by have := h.2; omega)
      have hab : (a : Int) ≤ 1000000000 := by omega
      have hRel := hR (⟨true, a + 1, []⟩, B, 0, c') rfl
      have SS := S2.trans ((S3.trans S4).mono Inn.rng)
      have hcc : (c : Int) < 8 := by omega
      have hgb : b ≠ w.heap.size := by rintro rfl; have h1 := X3.col; omega
      have y0 := X4.cell 0 rfl
      have y1 := X4.cell 1 rfl
      have y2 := X4.cell 2 rfl
      have f0 := X4.free 0
      have f1 := X4.free 1
      have f2 := X4.free 2
      obtain ⟨H5, S5, h5⟩ := H4.ret S4.tidy X4 (.int .i64 (c : Int)) (.int .i64 (i : Int)) (.int .i64 ((a : Int) + 1))
      have SS5 := SS.trans S5
      have HH5 := Lib.hid H5
      have HR := Lib.hid hRel
      generalize hN : (sl3 c).length = N at *
      have E1 := Lib.hid e1
      have HZ1 := Lib.hid hz1
      have E2 := Lib.hid e2
      have E3 := Lib.hid e3
      clear H2 H3 H4 hR hRel hr hA hN X2 X3 X4 fS s2 S2 S3 S4 R H5 S5 SS e1 e2 e3 hz1
      go_wp2
      refine bodyPost_ret (results_cell_row2 rfl _ _ w.heap.size _ _ (0, 0) _ rfl h5 Try.underlying81 rfl (by kernel_rfl)) rfl ?_
      rw [HF.out] at hGF ⊢
      rw [E1.out]
      have hH := HH5.out
      rw [← E2.out, ← E3.out] at hH
      exact ⟨by rw [HZ1.out]; rfl, _, ⟨hGF, _, _, _, _, _, _, HR.out, hH⟩, SS5⟩
end
end Go.Proofs.Ytenchaifnfgijaa

/- The program's arena in memory: Check and New. Conditions: none beyond those typed. -/
namespace Go.Proofs.Ytenchaifnfgijaa
open Go.ChangeShapes Go.WideShapes Go.ChangeAt Go.RowKit
set_option linter.unusedVariables false
set_option linter.unusedSimpArgs false
set_option maxRecDepth 100000

set_option maxHeartbeats 1000000 in
theorem p_check {A : Option Addr} {n c : Nat} {L : List (Int × Int)} {w : World} (hR : RdG kC w A n c L) (hn : n ≤ 1000000) (hL : ∀ x ∈ L, I64 x.1 ∧ I64 x.2) :
    Calls Try.prog 30 #[.slice A n c] w fun e w' => e = .returned (.int .i64 (clsE L)) ∧ Below w.heap.size w w' := by
  simp only [I64] at hL
  have hln := hR.len
  by_cases h0 : n = 0
  · subst h0
    have HP := Lib.hid (show clsE L = 1 from if_pos (.inl hln))
    go_enter Try.func30, Try.ntmps30
    go_wp2
    go_ret
    exact ⟨ret_i64 HP.out.symm, Below.refl _ _⟩
  by_cases h8 : 8 < n
  · have HP := Lib.hid (show clsE L = 1 from if_pos (.inr (by omega)))
    have h8i : (8 : Int) < (n : Int) := by omega
    go_enter Try.func30, Try.ntmps30
    go_wp2
    go_ret
    exact ⟨ret_i64 HP.out.symm, Below.refl _ _⟩
  have h8i : ¬ (8 : Int) < (n : Int) := by omega
  have HP := Lib.hid (show clsE L = chkC 0 L from if_neg (by omega))
  clear hn
  go_enter Try.func30, Try.ntmps30
  go_wp2
  go_loopw [3, 16] (fun v i wr => ∃ k : Nat, k ≤ n ∧ i = .int .i64 k ∧ v = .int .i64 (prevC L k) ∧ chkC 0 L = chkC (prevC L k) (L.drop k) ∧ Below w.heap.size w wr) (fun _ i _ => n - (intOf i).toNat)
  case atStart => exact ⟨0, Nat.zero_le _, rfl, rfl, by simp [prevC], Below.refl _ _⟩
  case round =>
    obtain ⟨k, hk, rfl, rfl, hf, hB⟩ := hrel
    by_cases hlt : k < n
    · have hR' := hR.below hB
      obtain ⟨b, o, x1, x2, rfl, hx, hm, hb, c0, c1⟩ := hR'.atC hlt
      obtain ⟨⟨p1, p2⟩, p3, p4⟩ := hL _ hm
      have HN := Lib.hid (show prevC L (k + 1) = x1 by simp [prevC, hx])
      rw [drop_at hx] at hf
      generalize hV : prevC L k = V at *
      have HF := Lib.hid hf
      clear hf hx hL hm hR' hV
      by_cases q1 : x1 < 1
      · have HG := Lib.hid (show chkC 0 L = 1 by rw [HF.out]; simp [chkC, q1])
        go_wp2
        go_ret
        exact ⟨ret_i64 (by rw [HP.out, HG.out]), hB.alloc hB.size _⟩
      by_cases q2 : 4096 < x1
      · have HG := Lib.hid (show chkC 0 L = 1 by rw [HF.out]; simp [chkC, q1, q2])
        go_wp2
        go_ret
        exact ⟨ret_i64 (by rw [HP.out, HG.out]), hB.alloc hB.size _⟩
      by_cases q3 : x2 < 0
      · have HG := Lib.hid (show chkC 0 L = 1 by rw [HF.out]; simp [chkC, q1, q2, q3])
        go_wp2
        go_ret
        exact ⟨ret_i64 (by rw [HP.out, HG.out]), hB.alloc hB.size _⟩
      by_cases q4 : 65536 < x2
      · have HG := Lib.hid (show chkC 0 L = 1 by rw [HF.out]; simp [chkC, q1, q2, q3, q4])
        go_wp2
        go_ret
        exact ⟨ret_i64 (by rw [HP.out, HG.out]), hB.alloc hB.size _⟩
      by_cases q5 : x1 ≤ V
      · have HG := Lib.hid (show chkC 0 L = 6 by rw [HF.out]; unfold chkC; rw [if_neg (by simp only; omega), if_pos q5])
        go_wp2
        go_ret
        exact ⟨ret_i64 (by rw [HP.out, HG.out]), hB.alloc hB.size _⟩
      · have HG := Lib.hid (show chkC 0 L = chkC x1 (L.drop (k + 1)) by
          rw [HF.out]; conv => lhs; unfold chkC
          rw [if_neg (by simp only; omega), if_neg q5])
        go_wp2
        go_roundw
        case rel => exact ⟨k + 1, by omega, by go_num, by rw [HN.out], by rw [HN.out]; exact HG.out, hB.alloc hB.size _⟩
        case measure => (simp [intOf] <;> omega)
    · have HG := Lib.hid (show chkC 0 L = 0 by rw [hf, List.drop_of_length_le (by omega)]; rfl)
      clear hf hL
      go_wp2
      go_ret
      exact ⟨ret_i64 (by rw [HP.out, HG.out]), hB⟩
def nils : Nat → Value := fun _ => .slice none 0 0
def noSl : Nat → List PEm := fun _ => []
def noFr : Nat → List Nat := fun _ => []
theorem new_rel {L : List (Int × Int)} : Rel (newA L) (plain noSl) noFr := by
  refine ⟨fun c hc => ?_, fun y hy => ?_, fun c i e hc he => ?_, fun c hc => rfl⟩
  · show ([] : List PEm).length = (List.replicate L.length 0).getD c 0
    have hc : c < L.length := hc
    rw [List.getD_eq_getElem?_getD, List.getElem?_replicate, if_pos hc]; rfl
  · have hy : y ∈ ([] : List Sl) := hy
    simp at hy
  · have : ([] : List PE)[i]? = some e := he
    simp at this
theorem new_ar {col : Col} {k : Nat} {w W : World} {g cL : Nat} {L : List (Int × Int)} {AL : Option Addr} (hk : 1 ≤ k) (ht : Tidy col w) (hG : GoodL L) (hB : Below w.heap.size w W) (hX : W.heap[g]? = some (.cells (pbox AL L.length cL nils nils 0) 72 (0, 0)))
    (hg : w.heap.size ≤ g) (hR : RdG kC W AL L.length cL L) (hA : ∀ b o sp, AL = some ⟨b, o, sp⟩ → w.heap.size ≤ b ∧ b ≠ g) : DidP PAr col k w g (newA L) W := by
  have hgl : g < W.heap.size := (Array.getElem?_eq_some_iff.1 hX).1
  have hs : ∀ P, StepC P col w (dye col (some g) k) W := fun P => StepC.newRow ht hB fun b e => by injection e with e; subst e; exact ⟨hg, hgl⟩
  refine ⟨dye col (some g) k, ⟨newA_good hG, noSl, noFr, AL, cL, nils, nils, new_rel, ⟨hX, dye_of⟩, ⟨hR, fun hn b o sp e => ?_⟩, ⟨fun i hi => OwnKc.nil kE _ _ _, fun i j q hi hj e => by simp [nils, Value.ownBlock] at e⟩, ⟨fun i hi => OwnKc.nil kI _ _ _, fun i j q hi hj e => by simp [nils, Value.ownBlock] at e⟩, ⟨fun i hi => ?_, fun i j q hi hj e => ?_⟩, hk⟩, hs _⟩
  · obtain ⟨h1, h2⟩ := hA b o sp e
    rw [dye_no (by intro e; injection e with e; exact h2 e.symm)]; exact ht b h1
  · exact OwnKc.nil kB _ _ _
  · have : (Value.slice none 0 0).ownBlock = some q := e
    simp [Value.ownBlock] at this
set_option maxHeartbeats 1000000 in
theorem p_new {col : Col} {k : Nat} {w : World} {A : Option Addr} {n c : Nat} {L : List (Int × Int)} (ht : Tidy col w) (hk : 1 ≤ k) (hR : RdG kC w A n c L) (hn : n ≤ 1000000) (hL : ∀ x ∈ L, I64 x.1 ∧ I64 x.2) :
    Calls Try.prog 9 #[.slice A n c] w (NewP PAr col k w L) := by
  go_enter Try.func9, Try.ntmps9
  go_wp2_with fail
  refine (p_check hR hn hL).mono ?_
  rintro e w1 ⟨rfl, hb1⟩
  by_cases h0 : clsE L = 0
  · have hG := cls_good h0
    rw [h0]
    have hR1 := hR.below hb1
    have hln := hR.len
    subst hln
    have hn8 := hG.n8
    have hby : ([] : List (Int × Int)).length + L.length ≤ 1000000000 := by simp; omega
    have hl0 : ([] ++ L).length = L.length := by simp
    have H0 := Lib.hid h0
    clear h0 hn hL
    go_wp2_with (at_builtin; refine wpList_appK kC rfl (.const (.slice none 0 0)) (.tmp 10) rfl (.slice none 0 0) [] rfl A L.length c L rfl (OwnK.nil kC w1) hR1 hby ?_; intro v4 w4 O4 G4 hat4; obtain ⟨A4, c4, rfl, r4, _⟩ := O4.form hl0)
    have b4 : Below w1.heap.size w1 w4 := (Below.refl _ _).grown G4 (Nat.le_refl _) (fun q hq => by simp [Value.ownBlock] at hq)
    have b5 := b4.alloc b4.size (.cells (pbox A4 L.length c4 nils nils 0) 72)
    have hsz := hb1.size
    have hsz4 := b4.size
    have r5 : RdG kC w4 A4 L.length c4 L := r4
    have hD := new_ar (AL := A4) (cL := c4) hk ht hG (below_then hb1 b5) (heap_alloc_new w4 _) (by omega) (r5.below ((Below.refl _ _).alloc (Nat.le_refl _) _)) (fun b o sp e => by
      have h1 : (Value.slice A4 L.length c4).ownBlock = some b := by rw [e]; rfl
      have h2 := O4.lt b h1
      rcases hat4 with h3 | h3
      · rw [h3] at h1; simp [Value.ownBlock] at h1
      · rw [h3] at h1; injection h1 with h1; omega)
    go_ret2
    exact .inl ⟨H0.out, _, rfl, hD⟩
  · have H0 := Lib.hid h0
    have hv : (clsE L != 0) = true := bne_iff_ne.2 h0
    clear h0 hL
    go_wp2
    go_ret2
    exact .inr ⟨H0.out, rfl, hb1⟩
end Go.Proofs.Ytenchaifnfgijaa

/- The program's arena as plain data: what is in use. Conditions: none beyond those typed. -/
namespace Go.Proofs.Ytenchaifnfgijaa
set_option linter.unusedVariables false
set_option linter.unusedSimpArgs false

theorem countP_split {α : Type} (p q : α → Bool) : ∀ l : List α, (l.countP fun y => p y && q y) + (l.countP fun y => !p y && q y) = l.countP q
  | [] => rfl
  | y :: r => by
    have := countP_split p q r
    simp only [List.countP_cons]
    cases p y <;> cases q y <;> simp <;> omega
theorem same_len {l l' : List Nat} (h : l.Nodup) (h' : l'.Nodup) (hm : ∀ i, i ∈ l ↔ i ∈ l') : l.length = l'.length := ((List.perm_ext_iff_of_nodup h h').2 hm).length_eq
section
variable {x : ASt} {sl : Nat → List PE} {fr : Nat → List Nat} {c : Nat}
/-- The slots of a class that fulfil p: their indices. -/
theorem idx_nodup (hG : GoodA x) (p : Sl → Bool) : ((x.s.filter fun y => p y && decide (y.c = c)).map Sl.i).Nodup := by
  have h1 : (x.s.filter fun y => p y && decide (y.c = c)).Pairwise fun a b => a.i ≠ b.i := by
    have h0 : x.s.Pairwise fun a b => (a.c, a.i) ≠ (b.c, b.i) := List.pairwise_map.1 hG.one
    have h2 := h0.filter (fun y => p y && decide (y.c = c))
    refine List.Pairwise.imp_of_mem (fun {a b} ha hb hn e => hn ?_) h2
    have h3 := (List.mem_filter.1 ha).2
    have h4 := (List.mem_filter.1 hb).2
    simp at h3 h4
    rw [h3.2, h4.2, e]
  exact List.pairwise_map.2 h1
theorem Rel.all (R : Rel x sl fr) (hG : GoodA x) (hc : c < x.L.length) : (x.s.countP fun y => decide (y.c = c)) = (sl c).length := by
  have h1 := idx_nodup (c := c) hG (fun _ => true)
  have h2 := same_len (l' := List.range (sl c).length) h1 List.nodup_range (fun i => by
    rw [List.mem_range, List.mem_map]
    constructor
    · rintro ⟨y, hy, rfl⟩
      obtain ⟨hy, h3⟩ := List.mem_filter.1 hy
      simp at h3
      have := R.fwd y hy
      rw [h3] at this
      exact (List.getElem?_eq_some_iff.1 this).1
    · intro hi
      obtain ⟨y, hy, h3, h4⟩ := R.bwd c i _ hc (List.getElem?_eq_getElem hi)
      exact ⟨y, List.mem_filter.2 ⟨hy, by simp [h3]⟩, h4⟩)
  rw [List.length_map, List.length_range] at h2
  rw [← h2, List.countP_eq_length_filter]
  rfl
theorem Rel.offs (R : Rel x sl fr) (hG : GoodA x) (hc : c < x.L.length) : (x.s.countP fun y => !y.u && decide (y.c = c)) = (fr c).length := by
  have h1 := idx_nodup (c := c) hG (fun y => !y.u)
  rw [R.fre c hc]
  have hcl : ∀ j i, clIx x.s c j = some i ↔ ∃ y, x.s[j]? = some y ∧ y.c = c ∧ y.i = i := fun j i => by
    unfold clIx
    cases hs : x.s[j]? with
    | none => simp
    | some y => simp
  have hnd : (freeOf x.s x.f c).Nodup := by
    unfold freeOf
    refine List.pairwise_filterMap.2 (List.Pairwise.imp (fun {a b} hn i hi i' hi' e => ?_) hG.fn)
    subst e
    obtain ⟨y, h2, h3, h4⟩ := (hcl a _).1 hi
    obtain ⟨z, h5, h6, h7⟩ := (hcl b _).1 hi'
    exact hn (hG.at_one h2 h5 (h3.trans h6.symm) (h4.trans h7.symm))
  have h2 := same_len h1 hnd (fun i => by
    unfold freeOf
    rw [List.mem_map, List.mem_filterMap]
    constructor
    · rintro ⟨y, hy, rfl⟩
      obtain ⟨hy, h3⟩ := List.mem_filter.1 hy
      simp at h3
      obtain ⟨j, hj⟩ := List.getElem?_of_mem hy
      exact ⟨j, (hG.fu j).2 ⟨y, hj, h3.1⟩, (hcl j _).2 ⟨y, hj, h3.2, rfl⟩⟩
    · rintro ⟨j, hj, hi⟩
      obtain ⟨y, h3, h4, h5⟩ := (hcl j i).1 hi
      obtain ⟨z, h6, h7⟩ := (hG.fu j).1 hj
      rw [h3] at h6; injection h6 with h6; subst h6
      exact ⟨y, List.mem_filter.2 ⟨List.mem_of_getElem? h3, by simp [h7, h4]⟩, h5⟩)
  rw [List.length_map] at h2
  rw [← h2, List.countP_eq_length_filter]
/-- The slots in use of a class. -/
theorem Rel.live (R : Rel x sl fr) (hG : GoodA x) (hc : c < x.L.length) : liveN x.s c + (fr c).length = (sl c).length := by
  rw [← R.all hG hc, ← R.offs hG hc]
  exact countP_split Sl.u (fun y => decide (y.c = c)) x.s
end
/-- The bytes in use of the classes before m. -/
def bytesC (L : List (Int × Int)) (s : List Sl) : Nat → Int
  | 0 => 0
  | m + 1 => bytesC L s m + (liveN s m : Int) * (L.getD m (0, 0)).1
theorem bytesC_cons (L : List (Int × Int)) (y : Sl) (s : List Sl) : ∀ m, bytesC L (y :: s) m = bytesC L s m + if y.u = true ∧ y.c < m then (L.getD y.c (0, 0)).1 else 0
  | 0 => by simp [bytesC]
  | m + 1 => by
    unfold bytesC
    rw [bytesC_cons L y s m]
    have h1 : liveN (y :: s) m = liveN s m + if y.u = true ∧ y.c = m then 1 else 0 := by
      unfold liveN
      rw [List.countP_cons]
      simp
    rw [h1]
    by_cases hu : y.u = true
    · by_cases hm : y.c = m
      · subst hm
        simp [hu, Int.add_mul]
        omega
      · by_cases hl : y.c < m
        · have : y.c < m + 1 := by omega
          simp [hu, hm, hl, this]
          omega
        · have : ¬ y.c < m + 1 := by omega
          simp [hu, hm, hl, this]
    · simp [hu]
theorem bytesC_all (L : List (Int × Int)) : ∀ (s : List Sl) (m : Nat), (∀ y ∈ s, y.c < m) → bytesN L s = bytesC L s m
  | [], m, _ => by
    have : ∀ m, bytesC L [] m = 0 := fun m => by
      induction m with
      | zero => rfl
      | succ m ih => unfold bytesC; rw [ih]; simp [liveN]
    rw [this]; rfl
  | y :: s, m, h => by
    have ih := bytesC_all L s m fun z hz => h z (by simp [hz])
    rw [bytesC_cons, ← ih]
    have hy := h y (by simp)
    unfold bytesN
    rw [List.map_cons, List.sum_cons]
    by_cases hu : y.u = true <;> simp [hu, hy] <;> omega
theorem liveN_le (s : List Sl) (c : Nat) : liveN s c ≤ s.length := List.countP_le_length
theorem bytesC_bd {L : List (Int × Int)} (hL : ∀ x ∈ L, 1 ≤ x.1 ∧ x.1 ≤ 4096) {s : List Sl} (hs : s.length ≤ 524288) : ∀ m, m ≤ L.length → 0 ≤ bytesC L s m ∧ bytesC L s m ≤ (m : Int) * 2147483648
  | 0, _ => by simp [bytesC]
  | m + 1, h => by
    have ih := bytesC_bd hL hs m (by omega)
    have hg : L[m]? = some L[m] := List.getElem?_eq_getElem (by omega)
    have h1 := hL _ (List.getElem_mem (show m < L.length by omega))
    have h2 := liveN_le s m
    unfold bytesC
    rw [getD_at hg]
    have h3 : (liveN s m : Int) * L[m].1 ≤ 524288 * 4096 := Int.mul_le_mul (by omega) h1.2 (by omega) (by omega)
    have h4 : 0 ≤ (liveN s m : Int) * L[m].1 := Int.mul_nonneg (by omega) (by omega)
    constructor
    · omega
    · rw [show ((m + 1 : Nat) : Int) * 2147483648 = (m : Int) * 2147483648 + 2147483648 by omega]; omega
end Go.Proofs.Ytenchaifnfgijaa

/- The program's arena in memory: Usage. Conditions: none beyond those typed. -/
namespace Go.Proofs.Ytenchaifnfgijaa
open Go.ChangeShapes Go.WideShapes Go.ChangeAt Go.RowKit
set_option linter.unusedVariables false
set_option linter.unusedSimpArgs false
set_option maxRecDepth 100000

/-- The slots in use of the classes before m, and zeros. -/
def liveP (n : Nat) (s : List Sl) (m : Nat) : List Int := (List.range n).map fun c => if c < m then ((liveN s c : Nat) : Int) else 0
theorem liveP_len (n : Nat) (s : List Sl) (m : Nat) : (liveP n s m).length = n := by simp [liveP]
theorem liveP_at {n c m : Nat} {s : List Sl} (h : c < n) : (liveP n s m)[c]? = some (if c < m then ((liveN s c : Nat) : Int) else 0) := by simp [liveP, h]
theorem liveP_zero (n : Nat) (s : List Sl) : liveP n s 0 = liveL n (s.take 0) := by
  rw [List.take_zero, live_nil]
  apply List.ext_getElem?
  intro c
  by_cases h : c < n
  · rw [liveP_at h]; simp [h]
  · rw [List.getElem?_eq_none (by rw [liveP_len]; omega), List.getElem?_eq_none (by simp; omega)]
theorem liveP_all (n : Nat) (s : List Sl) : liveP n s n = liveL n s := by
  apply List.ext_getElem?
  intro c
  by_cases h : c < n
  · rw [liveP_at h, liveL_at h, if_pos h]
  · rw [List.getElem?_eq_none (by rw [liveP_len]; omega), List.getElem?_eq_none (by rw [liveL_len]; omega)]
theorem liveP_next {n m : Nat} {s : List Sl} (h : m < n) : liveP n s (m + 1) = (liveP n s m).set m ((liveN s m : Nat) : Int) := by
  apply List.ext_getElem?
  intro c
  rw [List.getElem?_set]
  by_cases hc : c < n
  · rw [liveP_at hc, liveP_at hc, liveP_len]
    by_cases e : m = c
    · subst e; simp [h]
    · rw [if_neg e]
      by_cases h1 : c < m
      · rw [if_pos h1, if_pos (by omega)]
      · rw [if_neg h1, if_neg (by omega)]
  · rw [List.getElem?_eq_none (by rw [liveP_len]; omega), if_neg (by omega), List.getElem?_eq_none (by rw [liveP_len]; omega)]
/-- What stands in a round of Usage: m classes are counted. -/
structure UsP (w : World) (x : ASt) (bu bl : Nat) (m : Nat) (W : World) : Prop where
  below : Below w.heap.size w W
  res : Bx W w.heap.size #[.slice none 0 0, .int .i64 0, .int .i64 0] 56
  ub : w.heap.size < bu ∧ w.heap.size < bl ∧ bu ≠ bl
  box : Bx W bu #[.slice (some ⟨bl, 0, none⟩) x.L.length x.L.length, .int .i64 (bytesC x.L x.s m), .int .i64 (x.fa : Int)] 56
  row : OwnK kI W (.slice (some ⟨bl, 0, none⟩) x.L.length x.L.length) (liveP x.L.length x.s m)
theorem UsP.alloc {w W : World} {x : ASt} {bu bl m : Nat} (h : UsP w x bu bl m W) (o : Obj) : UsP w x bu bl m (W.alloc o) :=
  have hb : Below W.heap.size W (W.alloc o) := (Below.refl _ _).alloc (Nat.le_refl _) o
  ⟨h.below.alloc h.below.size o, h.res.below hb, h.ub, h.box.below hb, h.row.below hb⟩
theorem UsP.drew {w W : World} {x : ASt} {bu bl m : Nat} (h : UsP w x bu bl m W) : UsP w x bu bl m W.drew := ⟨h.below.drew, h.res, h.ub, h.box, h.row⟩
theorem UsR.toP {w W : World} {x : ASt} {bu bl : Nat} (h : UsR w x bu bl 0 W) : UsP w x bu bl 0 W := ⟨h.below, h.res, h.ub, h.box, by rw [liveP_zero]; exact h.row⟩
section
variable {col : Col} {w : World} {k g : Nat}
set_option maxHeartbeats 4000000 in
theorem p_usage {x : ASt} (H : PAr col k w g x) (ht : Tidy col w) (hlt : x.t ≤ 1000000000) :
    Calls Try.prog 27 #[.pointer (some ⟨g, 0, none⟩)] w
      fun e w' => ∃ A c, e = .returned (.agg #[.slice A x.L.length c, .int .i64 (bytesN x.L x.s), .int .i64 (x.fa : Int)]) ∧ RdG kI w' A x.L.length c (liveL x.L.length x.s) ∧ Below w.heap.size w w' := by
  obtain ⟨hG, sl, fr, AL, cL, vS, vF, R, H⟩ := H
  have hl8 := hG.l.n8
  have hok := hG.l.ok
  have hfew := hG.few
  have hfa := hG.fa
  have hsl := hG.sl
  have hcapL := H.cls.rd.cap
  have hmaxL := H.cls.rd.max
  have hB0 : Below w.heap.size w (w.alloc (.cells #[.slice none 0 0, .int .i64 0, .int .i64 0] 56)) := (Below.refl _ _).alloc (Nat.le_refl _) _
  have H0 := H.below ht hB0
  have x0 := H0.c0
  have x4 := H0.c17
  have hmk := run_make_row' (P := Try.prog) 22 3 (.int .i64 0) 8 Try.underlying22 kI.info rfl .i64 .i64 x.L.length (by omega) (by omega)
  have hg0 := H.box.lt
  have y0 : ∀ o, ((w.alloc (.cells #[.slice none 0 0, .int .i64 0, .int .i64 0] 56)).alloc o).cell? ⟨g, 0, none⟩ = some (.slice AL x.L.length cL) := fun o => c_keep x0 ((Below.refl _ _).alloc (Nat.le_refl _) o)
  have y4 : ∀ o, ((w.alloc (.cells #[.slice none 0 0, .int .i64 0, .int .i64 0] 56)).alloc o).cell? ⟨g, 17, none⟩ = some (.int .i64 (x.fa : Int)) := fun o => c_keep x4 ((Below.refl _ _).alloc (Nat.le_refl _) o)
  have z0 : ∀ o o', (((w.alloc (.cells #[.slice none 0 0, .int .i64 0, .int .i64 0] 56)).alloc o).alloc o').cell? ⟨g, 0, none⟩ = some (.slice AL x.L.length cL) := fun o o' => c_keep (y0 o) ((Below.refl _ _).alloc (Nat.le_refl _) o')
  have z4 : ∀ o o', (((w.alloc (.cells #[.slice none 0 0, .int .i64 0, .int .i64 0] 56)).alloc o).alloc o').cell? ⟨g, 17, none⟩ = some (.int .i64 (x.fa : Int)) := fun o o' => c_keep (y4 o) ((Below.refl _ _).alloc (Nat.le_refl _) o')
  clear H0
  go_enter Try.func27, Try.ntmps27
  go_wp2
  have U1 := (UsR.init1 w x hl8).toP
  have U2 := (UsR.init2 w x hl8).toP
  go_region
  all_goals
    first
      | (obtain ⟨W1, hW1⟩ : ∃ W1, W1 = (((w.alloc (.cells #[.slice none 0 0, .int .i64 0, .int .i64 0] 56)).alloc (.cells (madeCells #[Value.int .i64 0] x.L.length) 3)).alloc (.cells #[.slice (some ⟨w.heap.size + 1, 0, none⟩) x.L.length x.L.length, .int .i64 0, .int .i64 (x.fa : Int)] 56)).drew := ⟨_, rfl⟩
         rw [← hW1] at U1 ⊢
         clear hW1 U2 y0 y4 z0 z4 x0 x4 hmk hB0
         generalize w.heap.size + 1 + 1 = bu at *
         generalize w.heap.size + 1 = bl at *
         generalize hU : U1 = U at *
         clear hU)
      | (obtain ⟨W1, hW1⟩ : ∃ W1, W1 = (((w.alloc (.cells #[.slice none 0 0, .int .i64 0, .int .i64 0] 56)).alloc (.cells #[.slice (some ⟨w.heap.size + 1 + 1, 0, none⟩) x.L.length x.L.length, .int .i64 0, .int .i64 (x.fa : Int)] 56)).alloc (.cells (madeCells #[Value.int .i64 0] x.L.length) 3)).drew := ⟨_, rfl⟩
         rw [← hW1] at U2 ⊢
         clear hW1 U1 y0 y4 z0 z4 x0 x4 hmk hB0
         generalize w.heap.size + 1 + 1 = bl at *
         generalize w.heap.size + 1 = bu at *
         generalize hU : U2 = U at *
         clear hU)
    have q1 := (H.below ht U.below).c0
    go_wp2
    go_loopw [25] (fun i wr => ∃ m : Nat, m ≤ x.L.length ∧ i = .int .i64 m ∧ UsP w x bu bl m wr) (fun i _ => x.L.length - (intOf i).toNat)
    case atStart => exact ⟨0, Nat.zero_le _, rfl, U⟩
    case round =>
      clear U q1
      obtain ⟨m, hm, rfl, U⟩ := hrel
      by_cases hml : m < x.L.length
      · have hD8 : D8 m := Nat.lt_of_lt_of_le hml hl8
        have hc8 : m < 8 := hD8
        have hcc : (m : Int) < 8 := by omega
        have hmi : (m : Int) < (x.L.length : Int) := by omega
        have HW := H.below ht U.below
        obtain ⟨bL, oL, z1, z2, hAL, hz, hzm, hbL, l0, l1⟩ := HW.cls.rd.atC hml
        subst hAL
        have hzb := hok _ hzm
        simp only at hzb
        have hlive := R.live hG hml
        rw [plain_len] at hlive
        have hfs := R.few hG hml
        have hub := U.ub
        have hBc := bytesC_bd (fun y hy => by have := hok y hy; omega) hfew m hm
        have hBc1 := bytesC_bd (fun y hy => by have := hok y hy; omega) hfew (m + 1) hml
        have hnext : bytesC x.L x.s (m + 1) = bytesC x.L x.s m + (liveN x.s m : Int) * z1 := by
          show bytesC x.L x.s m + (liveN x.s m : Int) * (x.L.getD m (0, 0)).1 = _
          rw [getD_at hz]
        have hlv := liveN_le x.s m
        have hmul0 : 0 ≤ (liveN x.s m : Int) * z1 := Int.mul_nonneg (by omega) (by omega)
        have hmul1 : (liveN x.s m : Int) * z1 ≤ 524288 * 4096 := Int.mul_le_mul (by omega) (by omega) (by omega) (by omega)
        have hw1 : IntKind.i64.wrap ((liveN x.s m : Int) * z1) = (liveN x.s m : Int) * z1 := by rw [IntKind.wrap_i64]; omega
        have hw2 : IntKind.i64.wrap (bytesC x.L x.s m + (liveN x.s m : Int) * z1) = bytesC x.L x.s m + (liveN x.s m : Int) * z1 := by rw [IntKind.wrap_i64]; omega
        have hw3 : IntKind.i64.wrap (((sl m).length : Int) - ((fr m).length : Int)) = (liveN x.s m : Int) := by rw [IntKind.wrap_i64]; omega
        have UA := U.alloc (.cells #[.int .i64 z1, .int .i64 z2] 61)
        have HA := H.below ht UA.below
        have BA : Below wr.heap.size wr (wr.alloc (.cells #[.int .i64 z1, .int .i64 z2] 61)) := (Below.refl _ _).alloc (Nat.le_refl _) _
        have XA := Bx.new wr #[.int .i64 z1, .int .i64 z2] 61
        obtain ⟨A1, m1, hv1, hm11, hm12, _⟩ := HA.formS hc8
        obtain ⟨A2, m2, hv2, hm21, hm22, _⟩ := HA.formF hc8
        have q1 := HA.cS hc8
        have q2 := HA.cF hc8
        rw [hv1] at q1
        rw [hv2] at q2
        have u0 := UA.box.cell 0 rfl
        have hlv0 := liveP_at (s := x.s) (m := m) hml
        have vf := UA.row.free m
        have v00 := UA.row.cell (j := m) (i := 0) hlv0 rfl
        rw [show m * kI.k + 0 = m by simp [kI], if_neg (Nat.lt_irrefl m)] at v00
        have hnx := liveP_next (n := x.L.length) (s := x.s) hml
        have rB := UA.row.store hlv0 (i := 0) (a' := (liveN x.s m : Int)) (u := .int .i64 (liveN x.s m : Int)) K_one rfl
        rw [show m * kI.k + 0 = m by simp [kI], ← hnx] at rB
        have bB := UA.box.other (a := ⟨bl, m, none⟩) (u := .int .i64 (liveN x.s m : Int)) hub.2.2
        have eB := UA.res.other (a := ⟨bl, m, none⟩) (u := .int .i64 (liveN x.s m : Int)) (by show w.heap.size ≠ bl; omega)
        have xB := XA.other (a := ⟨bl, m, none⟩) (u := .int .i64 (liveN x.s m : Int)) (by have := U.row.lt bl rfl; show wr.heap.size ≠ bl; omega)
        have BB := UA.below.setCell (p := ⟨bl, m, none⟩) (by show w.heap.size ≤ bl; omega) (.int .i64 (liveN x.s m : Int))
        have hLN : (liveN x.s m : Int) ≤ 524288 := by omega
        generalize hF1 : (sl m).length = F1 at *
        generalize hF2 : (fr m).length = F2 at *
        generalize hLV : liveN x.s m = LV at *
        generalize hBY : bytesC x.L x.s m = BY at *
        have HNX := Lib.hid hnext
        have HLV := Lib.hid hLV
        clear hnext U HW hzm hz HA XA UA hv1 hv2 hlv0 hnx hF1 hF2 hLV hBY BA
        go_wp2
        obtain ⟨WA, hWA⟩ : ∃ WA, WA = wr.alloc (.cells #[.int .i64 z1, .int .i64 z2] 61) := ⟨_, rfl⟩
        rw [← hWA] at q1 q2 u0 vf v00 rB bB eB xB BB ⊢
        clear hWA
        have HrB := Lib.hid rB
        have HbB := Lib.hid bB
        have HeB := Lib.hid eB
        have HxB := Lib.hid xB
        have HBB := Lib.hid BB
        generalize hbc : wr.heap.size = bc at *
        clear rB bB eB xB BB hbc
        go_region
        all_goals
          obtain ⟨WB, hWB⟩ : ∃ WB, WB = (WA.setCell ⟨bl, m, none⟩ (.int .i64 (LV : Int))).drew := ⟨_, rfl⟩
          have rB : OwnK kI WB (.slice (some ⟨bl, 0, none⟩) x.L.length x.L.length) (liveP x.L.length x.s (m + 1)) := by rw [hWB]; exact HrB.out
          have bB : Bx WB bu #[.slice (some ⟨bl, 0, none⟩) x.L.length x.L.length, .int .i64 BY, .int .i64 (x.fa : Int)] 56 := by rw [hWB]; exact HbB.out
          have eB : Bx WB w.heap.size #[.slice none 0 0, .int .i64 0, .int .i64 0] 56 := by rw [hWB]; exact HeB.out
          have xB : Bx WB bc #[.int .i64 z1, .int .i64 z2] 61 := by rw [hWB]; exact HxB.out
          have BB : Below w.heap.size w WB := by rw [hWB]; exact HBB.out.drew
          rw [← hWB]
          clear hWB HrB HbB HeB HxB HBB q1 q2 u0 vf v00
          have u0 := bB.cell 0 rfl
          have u1 := bB.cell 1 rfl
          have uf := bB.free 1
          have c0 := xB.cell 0 rfl
          have v0 := rB.cell (j := m) (i := 0) (liveP_at hml) rfl
          rw [show m * kI.k + 0 = m by simp [kI], if_pos (Nat.lt_succ_self m), HLV.out] at v0
          have UC : UsP w x bu bl (m + 1) (WB.setCell ⟨bu, 1, none⟩ (.int .i64 (BY + (LV : Int) * z1))) := ⟨BB.setCell (p := ⟨bu, 1, none⟩) (by show w.heap.size ≤ bu; omega) _, eB.other (by show w.heap.size ≠ bu; omega), hub, by
            rw [HNX.out]; exact bB.put 1 (.int .i64 (BY + (LV : Int) * z1)), rB.other fun q hq => by simp [Value.ownBlock] at hq; subst hq; exact fun e => hub.2.2 e.symm⟩
          have hUC := Lib.hid UC
          clear rB bB eB xB BB UC
          go_wp2
          go_region
          all_goals
            go_wp2
            go_roundw
            case rel => exact ⟨m + 1, by omega, by go_num, hUC.out.drew⟩
            case measure => (simp [intOf] <;> omega)
      · have hmm : m = x.L.length := by omega
        have hmi : ¬ (m : Int) < (x.L.length : Int) := by omega
        have Ub := U.box
        have Ur := U.row
        have hbs := bytesC_all x.L x.s m fun y hy => by rw [hmm]; exact (hsl y hy).1
        rw [← hbs] at Ub
        rw [hmm, liveP_all] at Ur
        have u0 := Ub.cell 0 rfl
        have u1 := Ub.cell 1 rfl
        have u2 := Ub.cell 2 rfl
        have r0 := U.res.cell 0 rfl
        have r1 := U.res.cell 1 rfl
        have r2 := U.res.cell 2 rfl
        have f0 := U.res.free 0
        have f1 := U.res.free 1
        have f2 := U.res.free 2
        have hUr := Lib.hid Ur
        have hub := U.ub
        have hRX := Lib.hid (((U.res.put 0 (.slice (some ⟨bl, 0, none⟩) x.L.length x.L.length)).put 1 (.int .i64 (bytesN x.L x.s))).put 2 (.int .i64 (x.fa : Int)))
        have hBX := Lib.hid (((U.below.setCell (p := ⟨w.heap.size, 0, none⟩) (Nat.le_refl _) (.slice (some ⟨bl, 0, none⟩) x.L.length x.L.length)).setCell (p := ⟨w.heap.size, 1, none⟩) (Nat.le_refl _) (.int .i64 (bytesN x.L x.s))).setCell (p := ⟨w.heap.size, 2, none⟩) (Nat.le_refl _) (.int .i64 (x.fa : Int)))
        have hne : ∀ q, (Value.slice (some ⟨bl, 0, none⟩) x.L.length x.L.length).ownBlock = some q → q ≠ w.heap.size := fun q hq => by simp [Value.ownBlock] at hq; omega
        clear U Ub Ur hmm hbs
        go_wp2
        refine bodyPost_ret (results_cell_row rfl _ _ w.heap.size _ _ (0, 0) _ rfl hRX.out Try.underlying56 rfl (by kernel_rfl)) rfl ?_
        exact ⟨_, _, rfl, (((hUr.out.other (a := ⟨w.heap.size, 0, none⟩) hne).other (a := ⟨w.heap.size, 1, none⟩) hne).other (a := ⟨w.heap.size, 2, none⟩) hne).reads, hBX.out⟩
end
theorem p_usage_nil (w : World) : Calls Try.prog 27 #[.pointer none] w fun e w' => ∃ A c, e = .returned (.agg #[.slice A 0 c, .int .i64 0, .int .i64 0]) ∧ Below w.heap.size w w' := by
  have X := Bx.new w #[.slice none 0 0, .int .i64 0, .int .i64 0] 56
  have hB : Below w.heap.size w (w.alloc (.cells #[.slice none 0 0, .int .i64 0, .int .i64 0] 56)) := (Below.refl _ _).alloc (Nat.le_refl _) _
  go_enter Try.func27, Try.ntmps27
  go_wp2
  refine bodyPost_ret (results_cell_row rfl _ _ w.heap.size _ _ (0, 0) _ rfl X Try.underlying56 rfl (by kernel_rfl)) rfl ?_
  exact ⟨_, _, rfl, hB⟩
end Go.Proofs.Ytenchaifnfgijaa

/- The program's arena keeps all its contracts. Conditions: none beyond those typed. -/
namespace Go.Proofs.Ytenchaifnfgijaa
open Go.ChangeShapes Go.WideShapes Go.ChangeAt Go.RowKit
set_option linter.unusedVariables false
set_option linter.unusedSimpArgs false

theorem progA : ProgA PAr where
  keep := fun h hs hp h0 => h.keep hs hp h0
  good := fun h => h.1
  check := fun hR hn hL => p_check hR hn hL
  new := fun ht hk hR hn hL => p_new ht hk hR hn hL
  fit := fun h ht z hz => by
    obtain ⟨hG, sl, fr, AL, cL, vS, vF, R, H⟩ := h
    exact p_fit H hG.l.n8 (fun y hy => by have := hG.l.ok y hy; omega) z hz
  alloc := fun h ht hlt z hz => p_alloc h ht hlt z hz
  free := fun h ht hlt hd hh => p_free h ht hlt hd
  write := fun h ht hlt hd hh _ _ _ _ _ hc hb hn => p_write h ht hlt hd hc hb hn
  read := fun h ht hlt hd hh => p_read h ht hlt hd
  usage := fun h ht hlt => p_usage h ht hlt
  nilAlloc := fun w z hz => p_alloc_nil w z
  nilFree := fun w h hh => p_free_nil w h
  nilUsage := fun w => p_usage_nil w
end Go.Proofs.Ytenchaifnfgijaa
