/- The program's tables: Add, Get, Take, Untracked, Total. Conditions: none beyond those typed. -/
import Derived.Test.YtlfhkhnhcckajaaGreatDoorZ18
import Derived.Test.YtlfhkhnhcckajaaGreatDoorTm
namespace Go.Proofs.YtlfhkhnhcckajaaGreatDoor
open Go.ChangeShapes Go.WideShapes Go.ChangeAt Go.RowKit
set_option linter.unusedVariables false
set_option linter.unusedSimpArgs false
set_option maxRecDepth 100000

/-- The table t lies in block g. -/
def SoT (c2 : Col) (w : World) (g : Nat) (t : TSt) : Prop := ∃ X, t.l = X.map Prod.snd ∧ GoodT t ∧ SoS c2 w g t.m t.base t.sum X
def DidST (c2 : Col) (w : World) (g : Nat) (t : TSt) (w' : World) : Prop := ∃ c3, SoT c3 w' g t ∧ StepC (fun c => 16 ≤ c) c2 w c3 w'
section
variable {P : Nat → Prop} {c2 c3 : Col} {w w' : World} {g n i : Nat} {t : TSt} {X : List Xn} {x : Xn} {s : ByteArray} {z : Int}
theorem SoT.keep (T : SoT c2 w g t) (hs : StepC P c2 w c3 w') (hP : ∀ c, 16 ≤ c → ¬ P c) (h0 : ¬ P 0) : SoT c3 w' g t := by
  obtain ⟨X, hl, G, S⟩ := T
  exact ⟨X, hl, G, S.keep hs hP h0⟩
theorem SoT.below (T : SoT c2 w g t) (ht : Tidy c2 w) (hb : Below w.heap.size w w') : SoT c2 w' g t := by
  obtain ⟨X, hl, G, S⟩ := T
  exact ⟨X, hl, G, S.below ht hb⟩
theorem get_getX (hl : t.l = X.map Prod.snd) (hk : (X.map fun x => x.2.1).Nodup) (s : ByteArray) : t.get s = getX X s := by
  unfold TSt.get getX
  rw [hl]
  cases hp : placeE (X.map Prod.snd) s with
  | none => rw [place_fndX.1 hp]
  | some i =>
    obtain ⟨x, _, h2, h3⟩ := place_someX hk hp
    rw [h2]
    show (((X.map Prod.snd)[i]?).getD zeroE, true) = _
    rw [h3]; rfl
theorem take_delX (hl : t.l = X.map Prod.snd) (hk : (X.map fun x => x.2.1).Nodup) (s : ByteArray) : t.take s = { t with l := (delX X s).map Prod.snd } := by
  unfold TSt.take
  rw [hl]
  cases hp : placeE (X.map Prod.snd) s with
  | none => rw [delX_no (place_fndX.1 hp), ← hl]
  | some i =>
    obtain ⟨x, h1, h2, h3⟩ := place_someX hk hp
    obtain ⟨_, h4⟩ := fndX_some h2
    show ({ t with l := withoutE (X.map Prod.snd) i } : TSt) = _
    rw [← delX_at hk h1, h4]
theorem tGet_any (T : SoT c2 w g t) (ht : Tidy c2 w) (hs : s.size ≤ 281474976710656) :
    Calls Tryz.prog 9 #[.pointer (some ⟨g, 0, none⟩), .string s] w fun e w' => e = .returned (.tuple #[.agg (VE (t.get s).1), .bool (t.get s).2]) ∧ Below w.heap.size w w' := by
  obtain ⟨X, hl, hG, gr, gm, bE, c, m, M, E, H, L⟩ := T
  rw [get_getX hl L.keys]
  have b1 : Below w.heap.size w (w.alloc (.cells #[.string ⟨#[]⟩, .int .u64 0, .int .u64 0] 32)) := (Below.refl _ _).alloc (Nat.le_refl _) _
  have ht1 := ht.size b1.size
  have X1 : BoxC c2 (w.alloc (.cells #[.string ⟨#[]⟩, .int .u64 0, .int .u64 0] 32)) w.heap.size 0 (VE zeroE) 32 := ⟨heap_alloc_new w _, ht _ (Nat.le_refl _)⟩
  have hC := soFind_any (H.below ht b1) L ht1 hs
  obtain ⟨W1, hW1⟩ : ∃ W1, W1 = w.alloc (.cells #[.string ⟨#[]⟩, .int .u64 0, .int .u64 0] 32) := ⟨_, rfl⟩
  obtain ⟨G, hG⟩ : ∃ G, w.heap.size = G := ⟨_, rfl⟩
  rw [← hW1] at hC X1 ht1 b1
  rw [hG] at X1
  have hGW : w.heap.size ≤ G := by omega
  obtain ⟨R, hR⟩ : ∃ R, getX X s = R := ⟨_, rfl⟩
  rw [hR] at hC ⊢
  clear H L hR hl
  go_enter Tryz.func9, Tryz.ntmps9
  go_wp2_with fail
  rw [← hW1]
  clear hW1
  refine hC.mono ?_
  rintro e w2 ⟨rfl, b2⟩
  have X2 := X1.keep (P := fun _ => False) (StepC.below ht1 b2) (fun h => h)
  obtain ⟨hX, hB, z0, z1, z2, f0, f1, f2⟩ := boxE X2 (w0 := w) hGW (below_then b1 b2) R.1
  have z0' : w2.cell? ⟨G, 0, none⟩ = some (.string ⟨#[]⟩) := z0
  have z1' : w2.cell? ⟨G, 1, none⟩ = some (.int .u64 0) := z1
  have z2' : w2.cell? ⟨G, 2, none⟩ = some (.int .u64 0) := z2
  have HX := Lib.hid hX
  have HB := Lib.hid hB
  clear X1 X2 hC b1 b2 hGW ht1 hG z0 z1 z2 hX hB
  go_wp2
  refine bodyPost_ret (results_cell_row2 rfl _ _ G _ _ (0, 0) _ rfl HX.out Tryz.underlying32 rfl (by kernel_rfl)) rfl ?_
  exact ⟨rfl, HB.out⟩
theorem tTake_any (T : SoT c2 w g t) (ht : Tidy c2 w) (hs : s.size ≤ 281474976710656) :
    Calls Tryz.prog 10 #[.pointer (some ⟨g, 0, none⟩), .string s] w fun e w' => e = .returned (.tuple #[.agg (VE (t.get s).1), .bool (t.get s).2]) ∧ DidST c2 w g (t.take s) w' := by
  obtain ⟨X, hl, hG, gr, gm, bE, c, m, M, E, H, L⟩ := T
  have hGt := hG.take s
  rw [take_delX hl L.keys] at hGt ⊢
  rw [get_getX hl L.keys]
  have s1 := StepC.new ht (.cells #[.string ⟨#[]⟩, .int .u64 0, .int .u64 0] 32) 2 (fun _ => False)
  have S1 := s1.mono (P' := fun c => 16 ≤ c) (fun c hc => hc.elim)
  have X1 : BoxC (dye c2 (some w.heap.size) 2) (w.alloc (.cells #[.string ⟨#[]⟩, .int .u64 0, .int .u64 0] 32)) w.heap.size 2 (VE zeroE) 32 := ⟨heap_alloc_new w _, dye_of⟩
  have hC := soRemove_any (H.keep s1 (fun _ _ h => h) (fun h => h)) L s1.tidy hs
  obtain ⟨cA, hcA⟩ : ∃ cA, cA = dye c2 (some w.heap.size) 2 := ⟨_, rfl⟩
  obtain ⟨W1, hW1⟩ : ∃ W1, W1 = w.alloc (.cells #[.string ⟨#[]⟩, .int .u64 0, .int .u64 0] 32) := ⟨_, rfl⟩
  obtain ⟨G, hGG⟩ : ∃ G, w.heap.size = G := ⟨_, rfl⟩
  rw [← hcA, ← hW1] at hC X1 S1
  rw [hGG] at X1
  have hGW : w.heap.size ≤ G := by omega
  have h16 : ¬ (16 ≤ 2) := by omega
  obtain ⟨R, hR⟩ : ∃ R, getX X s = R := ⟨_, rfl⟩
  rw [hR] at hC ⊢
  have HG := Lib.hid hGt
  clear H L hR hl s1 hcA hG hGt
  go_enter Tryz.func10, Tryz.ntmps10
  go_wp2_with fail
  rw [← hW1]
  clear hW1
  refine hC.mono ?_
  rintro e w2 ⟨rfl, c3, ⟨gr, gm, bE, c, m, M, E, H3, L3⟩, s3⟩
  have X2 := X1.keep s3 h16
  obtain ⟨H4, S4, hX, z0, z1, z2, f0, f1, f2⟩ := H3.boxed (S1.trans s3) X2 hGW R.1
  have z0' : w2.cell? ⟨G, 0, none⟩ = some (.string ⟨#[]⟩) := z0
  have z1' : w2.cell? ⟨G, 1, none⟩ = some (.int .u64 0) := z1
  have z2' : w2.cell? ⟨G, 2, none⟩ = some (.int .u64 0) := z2
  have HX := Lib.hid hX
  have HD := Lib.hid (show DidST c2 w g { t with l := (delX X s).map Prod.snd } _ from ⟨c3, ⟨_, rfl, HG.out, _, _, _, _, _, _, _, H4, L3⟩, S4⟩)
  clear X1 X2 hC hGW hGG z0 z1 z2 hX H3 L3 s3 S1 H4 S4 HG
  go_wp2
  refine bodyPost_ret (results_cell_row2 rfl _ _ G _ _ (0, 0) _ rfl HX.out Tryz.underlying32 rfl (by kernel_rfl)) rfl ?_
  exact ⟨rfl, HD.out⟩
theorem tUntr_any (T : SoT c2 w g t) : Calls Tryz.prog 13 #[.pointer (some ⟨g, 0, none⟩)] w fun e w' => e = .returned (.int .u64 t.base) ∧ Below w.heap.size w w' := by
  obtain ⟨X, hl, hG, gr, gm, bE, c, m, M, E, H, L⟩ := T
  have y := H.cb
  clear H L
  go_enter Tryz.func13, Tryz.ntmps13
  go_wp2
  go_ret
  exact ⟨rfl, Below.refl _ _⟩
theorem tTotal_any (T : SoT c2 w g t) : Calls Tryz.prog 14 #[.pointer (some ⟨g, 0, none⟩)] w fun e w' => e = .returned (.int .u64 t.sum) ∧ Below w.heap.size w w' := by
  obtain ⟨X, hl, hG, gr, gm, bE, c, m, M, E, H, L⟩ := T
  have y := H.cs
  clear H L
  go_enter Tryz.func14, Tryz.ntmps14
  go_wp2
  go_ret
  exact ⟨rfl, Below.refl _ _⟩
theorem tLen_any (T : SoT c2 w g t) : Calls Tryz.prog 15 #[.pointer (some ⟨g, 0, none⟩)] w fun e w' => e = .returned (.int .i64 t.l.length) ∧ Below w.heap.size w w' := by
  obtain ⟨X, hl, hG, gr, gm, bE, c, m, M, E, H, L⟩ := T
  have hC := soSize_any H L
  rw [show (X.length : Int) = (t.l.length : Int) by rw [hl, List.length_map]] at hC
  clear H L hl
  go_enter Tryz.func15, Tryz.ntmps15
  go_wp2_with fail
  refine hC.mono ?_
  rintro e w2 ⟨rfl, hw⟩
  subst hw
  go_wp2
  go_ret
  exact ⟨rfl, Below.refl _ _⟩
theorem DidSo.cb {b s' : Int} (h : DidSo c2 w g n b s' X w') : w'.cell? ⟨g, 3, none⟩ = some (.int .u64 b) := by
  obtain ⟨c3, ⟨gr, gm, bE, c, m, M, E, H, L⟩, st⟩ := h
  exact H.cb
theorem SoS.toD {t' : TSt} {X' : List Xn} (h : DidSo c2 w g t'.m t'.base t'.sum X' w') (hl : t'.l = X'.map Prod.snd) (G : GoodT t') : DidST c2 w g t' w' := by
  obtain ⟨c3, S, st⟩ := h
  exact ⟨c3, ⟨X', hl, G, S⟩, st⟩
theorem x_bd (hG : GoodT t) (hl : t.l = X.map Prod.snd) (hx : x ∈ X) : ctE x.2 ≤ t.sum := (hG.bd (show x.2 ∈ t.l by rw [hl]; exact List.mem_map.2 ⟨x, hx, rfl⟩)).2.2.2
set_option maxHeartbeats 4000000 in
theorem tAdd_any (T : SoT c2 w g t) (ht : Tidy c2 w) (hs : s.size ≤ 281474976710656) (hz : 0 ≤ z ∧ z ≤ 18446744073709551615) :
    Calls Tryz.prog 12 #[.pointer (some ⟨g, 0, none⟩), .string s, .int .u64 z] w fun e w' => e = .returned (.int .i64 (t.addS s z).1) ∧ DidST c2 w g (t.addS s z).2 w' := by
  have HD0 := Lib.hid (show DidST c2 w g t w from ⟨c2, T, StepC.refl ht⟩)
  obtain ⟨X, hl, hG, gr, gm, bE, c, m, M, E, H, L⟩ := T
  have hs0 := hG.sum0
  have hst := hG.top
  by_cases c1 : s.size = 0
  · have hb : s.toList.isEmpty = true := (ba_empty c1).1
    rw [addS_form c1]
    clear H L hG c1 hl
    go_enter Tryz.func12, Tryz.ntmps12
    go_wp2
    go_ret
    exact ⟨rfl, HD0.out⟩
  have hb : s.toList.isEmpty = false := ba_some (by omega)
  by_cases c2' : z = 0
  · have hb2 : (z == 0) = true := beq_iff_eq.2 c2'
    rw [addS_zero c1 c2']
    clear H L hG c1 c2' hl
    go_enter Tryz.func12, Tryz.ntmps12
    go_wp2
    go_ret
    exact ⟨rfl, HD0.out⟩
  have hb2 : (z == 0) = false := beq_false_of_ne c2'
  have hF := fits_any t.sum z w ⟨hs0, by omega⟩ hz
  have x4 := H.cs
  cases hf : fitsB t.sum z with
  | false =>
    rw [hf] at hF
    rw [addS_over c1 c2' hf]
    clear H L hG c1 c2' hl
    go_enter Tryz.func12, Tryz.ntmps12
    go_wp2_with fail
    refine hF.mono ?_
    rintro e w1 ⟨rfl, hw⟩
    subst hw
    go_wp2
    go_ret
    exact ⟨rfl, HD0.out⟩
  | true =>
    rw [hf] at hF
    have hfl := fits_le hf
    have hGA := hG.addS s hz.1
    have hsw : IntKind.u64.wrap (t.sum + z) = t.sum + z := IntWalk.u64_in _ ⟨by omega, by omega⟩
    obtain ⟨y, hy⟩ : ∃ y, t.sum + z = y := ⟨_, rfl⟩
    rw [hy] at hsw
    have f4 := H.box.free 4
    obtain ⟨H1, s1⟩ := H.sum ht y
    have t1 := s1.tidy
    have S1 := s1.mono (P' := fun c => 16 ≤ c) (fun c hc => by omega)
    have hR := soRaise_any H1 L t1 hs (z := z) (by omega) hz.2 (fun x hx => by have := x_bd hG hl (fndX_some hx).1; omega)
    cases hp : placeE t.l s with
    | some i =>
      obtain ⟨x, hx0, hfx, hxi⟩ := place_someX L.keys (by rw [← hl]; exact hp)
      rw [← hl] at hxi
      rw [show hasX X s = true by unfold hasX; rw [hfx]; rfl, show upXs X s z = delX X s ++ [upX x z] by unfold upXs; rw [hfx]] at hR
      have hE := addS_own c1 c2' hf hp hxi (fndX_some hfx).2
      rw [hE] at hGA ⊢
      have hlX : withoutE t.l i ++ [(x.2.1, x.2.2.1 + z, x.2.2.2)] = (delX X s ++ [upX x z]).map Prod.snd := by
        rw [List.map_append, hl, ← delX_at L.keys hx0, show delX X s = delX X x.2.1 by rw [(fndX_some hfx).2]]; rfl
      rw [hy] at hGA ⊢
      have HX := Lib.hid (And.intro hGA (And.intro hlX S1))
      clear H L hG H1 s1 t1 hE hlX hGA hfx hx0 hxi hp hl c1 c2' S1
      obtain ⟨W1, hW1⟩ : ∃ W, W = w.setCell ⟨g, 4, none⟩ (.int .u64 y) := ⟨_, rfl⟩
      rw [← hW1] at hR HX
      go_enter Tryz.func12, Tryz.ntmps12
      go_wp2_with fail
      refine hF.mono ?_
      rintro e w1 ⟨rfl, hw⟩
      subst hw
      clear hF
      go_wp2_with fail
      rw [← hW1]
      clear hW1 x4 f4
      refine hR.mono ?_
      rintro e w2 ⟨rfl, c3, S3, s3⟩
      have HD := Lib.hid (show DidST c2 w g _ w2 from ⟨c3, ⟨_, HX.out.2.1, HX.out.1, S3⟩, HX.out.2.2.trans s3⟩)
      clear hR S3 s3 HX
      go_wp2
      go_ret
      exact ⟨rfl, HD.out⟩
    | none =>
      have hfx : fndX X s = none := place_fndX.1 (by rw [← hl]; exact hp)
      rw [show hasX X s = false by unfold hasX; rw [hfx]; rfl, show upXs X s z = X by unfold upXs; rw [hfx]] at hR
      have hxl : X.length = t.l.length := by rw [hl, List.length_map]
      obtain ⟨W1, hW1⟩ : ∃ W, W = w.setCell ⟨g, 4, none⟩ (.int .u64 y) := ⟨_, rfl⟩
      rw [← hW1] at hR S1
      have hzw := hz
      by_cases hfull : t.l.length = t.m
      · obtain ⟨hX0, hEl⟩ : 0 < X.length ∧ 1 ≤ t.m := by have := hG.m1; omega
        have hXn : X.length = t.m := by omega
        obtain ⟨x, hx0, -⟩ := L.least hX0
        have hxi : t.l[leastE t.l]? = some x.2 := by rw [hl, List.getElem?_map, hx0]; rfl
        have hE := addS_full c1 c2' hf hp hfull hxi
        rw [hE, hy] at hGA
        rw [hE, hy]
        have hxm := List.mem_of_getElem? hx0
        have hct0 := hG.ct0 x.2 (by rw [hl]; exact List.mem_map.2 ⟨x, hxm, rfl⟩)
        have hcts := x_bd hG hl hxm
        have hdl : withoutE t.l (leastE t.l) = (delX X x.2.1).map Prod.snd := by
          rw [delX_at L.keys hx0]; rw [hl]
        obtain ⟨C, hC⟩ : ∃ C, ctE x.2 = C := ⟨_, rfl⟩
        rw [hC] at hGA hct0 hcts
        rw [hC]
        have hdlt : (delX X x.2.1).length < t.m := by
          have h1 := delX_len L.keys (fndX_is L.keys hxm rfl)
          omega
        have hdno : fndX (delX X x.2.1) s = none := by
          rw [fndX_del]
          by_cases h : s = x.2.1
          · rw [if_pos h]
          · rw [if_neg h]; exact hfx
        have HX := Lib.hid (And.intro hGA (And.intro hdno (And.intro hs (And.intro hdl (And.intro S1 (And.intro c1 (And.intro hx0 (And.intro hX0 hC))))))))
        obtain ⟨B, hB⟩ : ∃ B, t.base = B := ⟨_, rfl⟩
        rw [hB] at hR
        clear H L hG H1 s1 t1 hE hGA hfx hp hl c1 c2' S1 hxl hfull hB hs hxi hx0 hX0 hxm hdl hdno hC hEl
        go_enter Tryz.func12, Tryz.ntmps12
        go_wp2_with fail
        refine hF.mono ?_
        rintro e w1 ⟨rfl, hw⟩
        subst hw
        clear hF
        go_wp2_with fail
        rw [← hW1]
        clear hW1 x4 f4
        refine hR.mono ?_
        rintro e w2 ⟨rfl, c3, ⟨gr, gm, bE, c, m, M, E, H3, L3⟩, s3⟩
        have hFu := soFull_any H3 L3 s3.tidy
        rw [decide_eq_true hXn] at hFu
        have t3 := s3.tidy
        clear hR
        go_wp2_with fail
        refine hFu.mono ?_
        rintro e w4 ⟨rfl, b4⟩
        have s4 : StepC (fun _ => False) c3 w2 c3 w4 := StepC.below t3 b4
        have hLe := soLeast_any (H3.keep s4 (fun _ _ h => h) (fun h => h)) L3 s4.tidy HX.out.2.2.2.2.2.2.2.1
        have S4 := (HX.out.2.2.2.2.1.trans s3).trans (s4.mono (P' := fun c => 16 ≤ c) (fun c hc => hc.elim))
        clear hFu H3 L3 s3 t3 b4 s4
        go_wp2_with fail
        refine hLe.mono ?_
        rintro e w5 ⟨x', hx', rfl, c5, ⟨gr, gm, bE, c, m, M, E, H5, L5⟩, s5⟩
        rw [HX.out.2.2.2.2.2.2.1] at hx'
        injection hx' with hx'
        subst hx'
        have hC := HX.out.2.2.2.2.2.2.2.2
        rw [hC]
        have y3' := H5.cb
        have f3 := H5.box.free 3
        obtain ⟨H6, s6⟩ := H5.base s5.tidy C
        have S6 := (S4.trans s5).trans (s6.mono (P' := fun c => 16 ≤ c) (fun c hc => by omega))
        have H6' := H6
        have t6 := s6.tidy
        obtain ⟨W6, hW6⟩ : ∃ W, W = w5.setCell ⟨g, 3, none⟩ (.int .u64 C) := ⟨_, rfl⟩
        rw [← hW6] at H6 S6 t6
        have bd := (Below.refl W6.heap.size W6).drew
        have s7 : StepC (fun _ => False) c5 W6 c5 W6.drew := StepC.below t6 bd
        have H7 := H6.keep s7 (fun _ _ h => h) (fun h => h)
        have y3 := H7.cb
        have hIn : Calls Tryz.prog 35 #[.pointer (some ⟨g, 0, none⟩), .agg #[.string s, .int .u64 z, .int .u64 C]] W6.drew _ := soInsert_any (e := (s, z, C)) H7 L5 s7.tidy hdlt HX.out.2.1 ⟨by have := HX.out.2.2.2.2.2.1; show 0 < s.size; omega, HX.out.2.2.1⟩ hzw.1 hct0 (by show z + C ≤ 9223372036854775808; omega)
        have y3d : W6.cell? ⟨g, 3, none⟩ = some (.int .u64 C) := H6.cb
        have S7 := Lib.hid (S6.trans (s7.mono (P' := fun c => 16 ≤ c) (fun c hc => hc.elim)))
        clear hLe H5 s5 S4 hC H6 H6' s6 S6 t6 bd s7 H7 L5
        go_wp2_with fail
        rw [← hW6]
        clear hW6 y3' f3
        go_region_held3 (fun W => W.cell? ⟨g, 3, none⟩ = some (.int .u64 C)) (first | exact y3 | exact y5 | exact y3d) ((go_at_call 35; refine hIn.mono ?_; rintro e w8 ⟨rfl, i, hD⟩; have y5 := hD.cb; have HD := Lib.hid (And.intro hD S7.out)))
        have HT := Lib.hid (show DidST c2 w g { t with sum := y, base := C, l := withoutE t.l (leastE t.l) ++ [(s, z, C)] } w8 from by
          obtain ⟨⟨c6, S6, s6⟩, S4⟩ := HD.out
          exact ⟨c6, ⟨_, by show withoutE t.l (leastE t.l) ++ [(s, z, C)] = (delX X x.2.1 ++ [(i, (s, z, C))]).map Prod.snd; rw [List.map_append, HX.out.2.2.2.1]; rfl, HX.out.1, S6⟩, S4.trans s6⟩)
        clear hIn y3 S7 HD hD y5 HX y3d
        go_wp2
        go_ret
        exact ⟨rfl, HT.out⟩
      · have hE := addS_room c1 c2' hf hp hfull
        rw [hE, hy] at hGA
        rw [hE, hy]
        have HX := Lib.hid (And.intro hGA (And.intro hfx (And.intro hs (And.intro hl (And.intro hG (And.intro S1 c1))))))
        have hXn : ¬ X.length = t.m := by omega
        have hXlt : X.length < t.m := by have := L.few; omega
        have hb0 := hG.base0
        have hbt := hG.base_le
        obtain ⟨B, hB⟩ : ∃ B, t.base = B := ⟨_, rfl⟩
        rw [hB] at hR hb0 hbt
        have HB := Lib.hid hB
        clear H L hG H1 s1 t1 hE hGA hfx hp hl c1 c2' S1 hxl hfull hB hs
        go_enter Tryz.func12, Tryz.ntmps12
        go_wp2_with fail
        refine hF.mono ?_
        rintro e w1 ⟨rfl, hw⟩
        subst hw
        clear hF
        go_wp2_with fail
        rw [← hW1]
        clear hW1 x4 f4
        refine hR.mono ?_
        rintro e w2 ⟨rfl, c3, ⟨gr, gm, bE, c, m, M, E, H3, L3⟩, s3⟩
        have hFu := soFull_any H3 L3 s3.tidy
        rw [decide_eq_false hXn] at hFu
        have t3 := s3.tidy
        clear hR
        go_wp2_with fail
        refine hFu.mono ?_
        rintro e w4 ⟨rfl, b4⟩
        have bd := b4.drew
        have s4 : StepC (fun _ => False) c3 w2 c3 w4.drew := StepC.below t3 bd
        have H4 := H3.keep s4 (fun _ _ h => h) (fun h => h)
        have y3 := H4.cb
        have hIn : Calls Tryz.prog 35 #[.pointer (some ⟨g, 0, none⟩), .agg #[.string s, .int .u64 z, .int .u64 B]] w4.drew _ := soInsert_any (e := (s, z, B)) H4 L3 s4.tidy hXlt HX.out.2.1 ⟨by have := HX.out.2.2.2.2.2.2; show 0 < s.size; omega, HX.out.2.2.1⟩ hzw.1 hb0 (by show z + B ≤ 9223372036854775808; omega)
        have S4 := Lib.hid ((HX.out.2.2.2.2.2.1.trans s3).trans (s4.mono (P' := fun c => 16 ≤ c) (fun c hc => hc.elim)))
        clear hFu H3 L3 s3 t3 b4 bd s4 H4
        go_wp2_with fail
        go_region_held3 (fun W => W.cell? ⟨g, 3, none⟩ = some (.int .u64 B)) (first | exact y3 | exact y5) ((go_at_call 35; refine hIn.mono ?_; rintro e w5 ⟨rfl, i, hD⟩; have y5 := hD.cb; have HD := Lib.hid (And.intro hD S4.out)))
        have HT := Lib.hid (show DidST c2 w g { t with sum := y, l := t.l ++ [(s, z, t.base)] } w5 from by
          obtain ⟨hD, S4⟩ := HD.out
          obtain ⟨c6, S6, s6⟩ := hD
          rw [← HB.out] at S6
          exact ⟨c6, ⟨_, by show t.l ++ [(s, z, t.base)] = (X ++ [(i, (s, z, t.base))]).map Prod.snd; rw [List.map_append, HX.out.2.2.2.1]; rfl, HX.out.1, S6⟩, S4.trans s6⟩)
        clear hIn y3 S4 HD hD y5 HX
        go_wp2
        go_ret
        exact ⟨rfl, HT.out⟩
end
end Go.Proofs.YtlfhkhnhcckajaaGreatDoor
