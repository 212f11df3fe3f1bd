/- Words laid together in one text. Conditions: none beyond those typed. -/
import Derived.Test.YtlfhkhnhcckajaaDoorZ14
import Derived.Test.YtlfhkhnhcckajaaDoorTm
import Derived.Test.YtlfhkhnhcckajaaDoorZ11
import Derived.Deep.CutRange
import Derived.Test.YtlfhkhnhcckajaaDoorZ12
import Derived.Test.YtlfhkhnhcckajaaDoorShelf
import Derived.Sort.OwnSorted
import Derived.Sort.Walk0
import Derived.Test.YtlfhkhnhcckajaaDoorZ13
import Derived.Test.YtlfhkhnhcckajaaDoorZ05
import Derived.Test.YtlfhkhnhcckajaaDoorTie
import Derived.Test.YtlfhkhnhcckajaaDoorCards
import Derived.Lib.LaidTab
import Derived.LaidMore
import Derived.ProofKit
import Derived.OpenShut
import Derived.Stop.Joined
import Derived.Handed
/- The program's tables: Add, Get, Take, Untracked, Total. Conditions: none beyond those typed. -/
namespace Go.Proofs.YtlfhkhnhcckajaaDoor
open Go.ChangeShapes Go.WideShapes Go.ChangeAt Go.RowKit
set_option linter.unusedVariables false
set_option linter.unusedSimpArgs false
set_option maxRecDepth 100000

/-- The table t lies in block g. -/
def SoT (c2 : Col) (w : World) (g : Nat) (t : TSt) : Prop := ∃ X, t.l = X.map Prod.snd ∧ GoodT t ∧ SoS c2 w g t.m t.base t.sum X
def DidST (c2 : Col) (w : World) (g : Nat) (t : TSt) (w' : World) : Prop := ∃ c3, SoT c3 w' g t ∧ StepC (fun c => 16 ≤ c) c2 w c3 w'
section
variable {P : Nat → Prop} {c2 c3 : Col} {w w' : World} {g n i : Nat} {t : TSt} {X : List Xn} {x : Xn} {s : ByteArray} {z : Int}
theorem SoT.keep (T : SoT c2 w g t) (hs : StepC P c2 w c3 w') (hP : ∀ c, 16 ≤ c → ¬ P c) (h0 : ¬ P 0) : SoT c3 w' g t := by
  obtain ⟨X, hl, G, S⟩ := T
  exact ⟨X, hl, G, S.keep hs hP h0⟩
theorem SoT.below (T : SoT c2 w g t) (ht : Tidy c2 w) (hb : Below w.heap.size w w') : SoT c2 w' g t := by
  obtain ⟨X, hl, G, S⟩ := T
  exact ⟨X, hl, G, S.below ht hb⟩
theorem get_getX (hl : t.l = X.map Prod.snd) (hk : (X.map fun x => x.2.1).Nodup) (s : ByteArray) : t.get s = getX X s := by
  unfold TSt.get getX
  rw [hl]
  cases hp : placeE (X.map Prod.snd) s with
  | none => rw [place_fndX.1 hp]
  | some i =>
    obtain ⟨x, _, h2, h3⟩ := place_someX hk hp
    rw [h2]
    show (((X.map Prod.snd)[i]?).getD zeroE, true) = _
    rw [h3]; rfl
theorem take_delX (hl : t.l = X.map Prod.snd) (hk : (X.map fun x => x.2.1).Nodup) (s : ByteArray) : t.take s = { t with l := (delX X s).map Prod.snd } := by
  unfold TSt.take
  rw [hl]
  cases hp : placeE (X.map Prod.snd) s with
  | none => rw [delX_no (place_fndX.1 hp), ← hl]
  | some i =>
    obtain ⟨x, h1, h2, h3⟩ := place_someX hk hp
    obtain ⟨_, h4⟩ := fndX_some h2
    show ({ t with l := withoutE (X.map Prod.snd) i } : TSt) = _
    rw [← delX_at hk h1, h4]
theorem tGet_any (T : SoT c2 w g t) (ht : Tidy c2 w) (hs : s.size ≤ 281474976710656) :
    Calls Tryd.prog 8 #[.pointer (some ⟨g, 0, none⟩), .string s] w fun e w' => e = .returned (.tuple #[.agg (VE (t.get s).1), .bool (t.get s).2]) ∧ Below w.heap.size w w' := by
  obtain ⟨X, hl, hG, gr, gm, bE, c, m, M, E, H, L⟩ := T
  rw [get_getX hl L.keys]
  have b1 : Below w.heap.size w (w.alloc (.cells #[.string ⟨#[]⟩, .int .u64 0, .int .u64 0] 34)) := (Below.refl _ _).alloc (Nat.le_refl _) _
  have ht1 := ht.size b1.size
  have X1 : BoxC c2 (w.alloc (.cells #[.string ⟨#[]⟩, .int .u64 0, .int .u64 0] 34)) w.heap.size 0 (VE zeroE) 34 := ⟨heap_alloc_new w _, ht _ (Nat.le_refl _)⟩
  have hC := soFind_any (H.below ht b1) L ht1 hs
  obtain ⟨W1, hW1⟩ : ∃ W1, W1 = w.alloc (.cells #[.string ⟨#[]⟩, .int .u64 0, .int .u64 0] 34) := ⟨_, rfl⟩
  obtain ⟨G, hG⟩ : ∃ G, w.heap.size = G := ⟨_, rfl⟩
  rw [← hW1] at hC X1 ht1 b1
  rw [hG] at X1
  have hGW : w.heap.size ≤ G := by omega
  obtain ⟨R, hR⟩ : ∃ R, getX X s = R := ⟨_, rfl⟩
  rw [hR] at hC ⊢
  clear H L hR hl
  go_enter Tryd.func8, Tryd.ntmps8
  go_wp2_with fail
  rw [← hW1]
  clear hW1
  refine hC.mono ?_
  rintro e w2 ⟨rfl, b2⟩
  have X2 := X1.keep (P := fun _ => False) (StepC.below ht1 b2) (fun h => h)
  obtain ⟨hX, hB, z0, z1, z2, f0, f1, f2⟩ := boxE X2 (w0 := w) hGW (below_then b1 b2) R.1
  have z0' : w2.cell? ⟨G, 0, none⟩ = some (.string ⟨#[]⟩) := z0
  have z1' : w2.cell? ⟨G, 1, none⟩ = some (.int .u64 0) := z1
  have z2' : w2.cell? ⟨G, 2, none⟩ = some (.int .u64 0) := z2
  have HX := Lib.hid hX
  have HB := Lib.hid hB
  clear X1 X2 hC b1 b2 hGW ht1 hG z0 z1 z2 hX hB
  go_wp2
  refine bodyPost_ret (results_cell_row2 rfl _ _ G _ _ (0, 0) _ rfl HX.out Tryd.underlying34 rfl (by kernel_rfl)) rfl ?_
  exact ⟨rfl, HB.out⟩
theorem tTake_any (T : SoT c2 w g t) (ht : Tidy c2 w) (hs : s.size ≤ 281474976710656) :
    Calls Tryd.prog 19 #[.pointer (some ⟨g, 0, none⟩), .string s] w fun e w' => e = .returned (.tuple #[.agg (VE (t.get s).1), .bool (t.get s).2]) ∧ DidST c2 w g (t.take s) w' := by
  obtain ⟨X, hl, hG, gr, gm, bE, c, m, M, E, H, L⟩ := T
  have hGt := hG.take s
  rw [take_delX hl L.keys] at hGt ⊢
  rw [get_getX hl L.keys]
  have s1 := StepC.new ht (.cells #[.string ⟨#[]⟩, .int .u64 0, .int .u64 0] 34) 2 (fun _ => False)
  have S1 := s1.mono (P' := fun c => 16 ≤ c) (fun c hc => hc.elim)
  have X1 : BoxC (dye c2 (some w.heap.size) 2) (w.alloc (.cells #[.string ⟨#[]⟩, .int .u64 0, .int .u64 0] 34)) w.heap.size 2 (VE zeroE) 34 := ⟨heap_alloc_new w _, dye_of⟩
  have hC := soRemove_any (H.keep s1 (fun _ _ h => h) (fun h => h)) L s1.tidy hs
  obtain ⟨cA, hcA⟩ : ∃ cA, cA = dye c2 (some w.heap.size) 2 := ⟨_, rfl⟩
  obtain ⟨W1, hW1⟩ : ∃ W1, W1 = w.alloc (.cells #[.string ⟨#[]⟩, .int .u64 0, .int .u64 0] 34) := ⟨_, rfl⟩
  obtain ⟨G, hGG⟩ : ∃ G, w.heap.size = G := ⟨_, rfl⟩
  rw [← hcA, ← hW1] at hC X1 S1
  rw [hGG] at X1
  have hGW : w.heap.size ≤ G := by omega
  have h16 : ¬ (16 ≤ 2) := by omega
  obtain ⟨R, hR⟩ : ∃ R, getX X s = R := ⟨_, rfl⟩
  rw [hR] at hC ⊢
  have HG := Lib.hid hGt
  clear H L hR hl s1 hcA hG hGt
  go_enter Tryd.func19, Tryd.ntmps19
  go_wp2_with fail
  rw [← hW1]
  clear hW1
  refine hC.mono ?_
  rintro e w2 ⟨rfl, c3, ⟨gr, gm, bE, c, m, M, E, H3, L3⟩, s3⟩
  have X2 := X1.keep s3 h16
  obtain ⟨H4, S4, hX, z0, z1, z2, f0, f1, f2⟩ := H3.boxed (S1.trans s3) X2 hGW R.1
  have z0' : w2.cell? ⟨G, 0, none⟩ = some (.string ⟨#[]⟩) := z0
  have z1' : w2.cell? ⟨G, 1, none⟩ = some (.int .u64 0) := z1
  have z2' : w2.cell? ⟨G, 2, none⟩ = some (.int .u64 0) := z2
  have HX := Lib.hid hX
  have HD := Lib.hid (show DidST c2 w g { t with l := (delX X s).map Prod.snd } _ from ⟨c3, ⟨_, rfl, HG.out, _, _, _, _, _, _, _, H4, L3⟩, S4⟩)
  clear X1 X2 hC hGW hGG z0 z1 z2 hX H3 L3 s3 S1 H4 S4 HG
  go_wp2
  refine bodyPost_ret (results_cell_row2 rfl _ _ G _ _ (0, 0) _ rfl HX.out Tryd.underlying34 rfl (by kernel_rfl)) rfl ?_
  exact ⟨rfl, HD.out⟩
theorem tUntr_any (T : SoT c2 w g t) : Calls Tryd.prog 20 #[.pointer (some ⟨g, 0, none⟩)] w fun e w' => e = .returned (.int .u64 t.base) ∧ Below w.heap.size w w' := by
  obtain ⟨X, hl, hG, gr, gm, bE, c, m, M, E, H, L⟩ := T
  have y := H.cb
  clear H L
  go_enter Tryd.func20, Tryd.ntmps20
  go_wp2
  go_ret
  exact ⟨rfl, Below.refl _ _⟩
theorem tTotal_any (T : SoT c2 w g t) : Calls Tryd.prog 9 #[.pointer (some ⟨g, 0, none⟩)] w fun e w' => e = .returned (.int .u64 t.sum) ∧ Below w.heap.size w w' := by
  obtain ⟨X, hl, hG, gr, gm, bE, c, m, M, E, H, L⟩ := T
  have y := H.cs
  clear H L
  go_enter Tryd.func9, Tryd.ntmps9
  go_wp2
  go_ret
  exact ⟨rfl, Below.refl _ _⟩
theorem DidSo.cb {b s' : Int} (h : DidSo c2 w g n b s' X w') : w'.cell? ⟨g, 3, none⟩ = some (.int .u64 b) := by
  obtain ⟨c3, ⟨gr, gm, bE, c, m, M, E, H, L⟩, st⟩ := h
  exact H.cb
theorem SoS.toD {t' : TSt} {X' : List Xn} (h : DidSo c2 w g t'.m t'.base t'.sum X' w') (hl : t'.l = X'.map Prod.snd) (G : GoodT t') : DidST c2 w g t' w' := by
  obtain ⟨c3, S, st⟩ := h
  exact ⟨c3, ⟨X', hl, G, S⟩, st⟩
theorem x_bd (hG : GoodT t) (hl : t.l = X.map Prod.snd) (hx : x ∈ X) : ctE x.2 ≤ t.sum := (hG.bd (show x.2 ∈ t.l by rw [hl]; exact List.mem_map.2 ⟨x, hx, rfl⟩)).2.2.2
set_option maxHeartbeats 4000000 in
theorem tAdd_any (T : SoT c2 w g t) (ht : Tidy c2 w) (hs : s.size ≤ 281474976710656) (hz : 0 ≤ z ∧ z ≤ 18446744073709551615) :
    Calls Tryd.prog 6 #[.pointer (some ⟨g, 0, none⟩), .string s, .int .u64 z] w fun e w' => e = .returned (.int .i64 (t.addS s z).1) ∧ DidST c2 w g (t.addS s z).2 w' := by
  have HD0 := Lib.hid (show DidST c2 w g t w from ⟨c2, T, StepC.refl ht⟩)
  obtain ⟨X, hl, hG, gr, gm, bE, c, m, M, E, H, L⟩ := T
  have hs0 := hG.sum0
  have hst := hG.top
  by_cases c1 : s.size = 0
  · have hb : s.toList.isEmpty = true := (ba_empty c1).1
    rw [addS_form c1]
    clear H L hG c1 hl
    go_enter Tryd.func6, Tryd.ntmps6
    go_wp2
    go_ret
    exact ⟨rfl, HD0.out⟩
  have hb : s.toList.isEmpty = false := ba_some (by omega)
  by_cases c2' : z = 0
  · have hb2 : (z == 0) = true := beq_iff_eq.2 c2'
    rw [addS_zero c1 c2']
    clear H L hG c1 c2' hl
    go_enter Tryd.func6, Tryd.ntmps6
    go_wp2
    go_ret
    exact ⟨rfl, HD0.out⟩
  have hb2 : (z == 0) = false := beq_false_of_ne c2'
  have hF := fits_any t.sum z w ⟨hs0, by omega⟩ hz
  have x4 := H.cs
  cases hf : fitsB t.sum z with
  | false =>
    rw [hf] at hF
    rw [addS_over c1 c2' hf]
    clear H L hG c1 c2' hl
    go_enter Tryd.func6, Tryd.ntmps6
    go_wp2_with fail
    refine hF.mono ?_
    rintro e w1 ⟨rfl, hw⟩
    subst hw
    go_wp2
    go_ret
    exact ⟨rfl, HD0.out⟩
  | true =>
    rw [hf] at hF
    have hfl := fits_le hf
    have hGA := hG.addS s hz.1
    have hsw : IntKind.u64.wrap (t.sum + z) = t.sum + z := IntWalk.u64_in _ ⟨by omega, by omega⟩
    obtain ⟨y, hy⟩ : ∃ y, t.sum + z = y := ⟨_, rfl⟩
    rw [hy] at hsw
    have f4 := H.box.free 4
    obtain ⟨H1, s1⟩ := H.sum ht y
    have t1 := s1.tidy
    have S1 := s1.mono (P' := fun c => 16 ≤ c) (fun c hc => by omega)
    have hR := soRaise_any H1 L t1 hs (z := z) (by omega) hz.2 (fun x hx => by have := x_bd hG hl (fndX_some hx).1; omega)
    cases hp : placeE t.l s with
    | some i =>
      obtain ⟨x, hx0, hfx, hxi⟩ := place_someX L.keys (by rw [← hl]; exact hp)
      rw [← hl] at hxi
      rw [show hasX X s = true by unfold hasX; rw [hfx]; rfl, show upXs X s z = delX X s ++ [upX x z] by unfold upXs; rw [hfx]] at hR
      have hE := addS_own c1 c2' hf hp hxi (fndX_some hfx).2
      rw [hE] at hGA ⊢
      have hlX : withoutE t.l i ++ [(x.2.1, x.2.2.1 + z, x.2.2.2)] = (delX X s ++ [upX x z]).map Prod.snd := by
        rw [List.map_append, hl, ← delX_at L.keys hx0, show delX X s = delX X x.2.1 by rw [(fndX_some hfx).2]]; rfl
      rw [hy] at hGA ⊢
      have HX := Lib.hid (And.intro hGA (And.intro hlX S1))
      clear H L hG H1 s1 t1 hE hlX hGA hfx hx0 hxi hp hl c1 c2' S1
      obtain ⟨W1, hW1⟩ : ∃ W, W = w.setCell ⟨g, 4, none⟩ (.int .u64 y) := ⟨_, rfl⟩
      rw [← hW1] at hR HX
      go_enter Tryd.func6, Tryd.ntmps6
      go_wp2_with fail
      refine hF.mono ?_
      rintro e w1 ⟨rfl, hw⟩
      subst hw
      clear hF
      go_wp2_with fail
      rw [← hW1]
      clear hW1 x4 f4
      refine hR.mono ?_
      rintro e w2 ⟨rfl, c3, S3, s3⟩
      have HD := Lib.hid (show DidST c2 w g _ w2 from ⟨c3, ⟨_, HX.out.2.1, HX.out.1, S3⟩, HX.out.2.2.trans s3⟩)
      clear hR S3 s3 HX
      go_wp2
      go_ret
      exact ⟨rfl, HD.out⟩
    | none =>
      have hfx : fndX X s = none := place_fndX.1 (by rw [← hl]; exact hp)
      rw [show hasX X s = false by unfold hasX; rw [hfx]; rfl, show upXs X s z = X by unfold upXs; rw [hfx]] at hR
      have hxl : X.length = t.l.length := by rw [hl, List.length_map]
      obtain ⟨W1, hW1⟩ : ∃ W, W = w.setCell ⟨g, 4, none⟩ (.int .u64 y) := ⟨_, rfl⟩
      rw [← hW1] at hR S1
      have hzw := hz
      by_cases hfull : t.l.length = t.m
      · obtain ⟨hX0, hEl⟩ : 0 < X.length ∧ 1 ≤ t.m := by have := hG.m1; omega
        have hXn : X.length = t.m := by omega
        obtain ⟨x, hx0, -⟩ := L.least hX0
        have hxi : t.l[leastE t.l]? = some x.2 := by rw [hl, List.getElem?_map, hx0]; rfl
        have hE := addS_full c1 c2' hf hp hfull hxi
        rw [hE, hy] at hGA
        rw [hE, hy]
        have hxm := List.mem_of_getElem? hx0
        have hct0 := hG.ct0 x.2 (by rw [hl]; exact List.mem_map.2 ⟨x, hxm, rfl⟩)
        have hcts := x_bd hG hl hxm
        have hdl : withoutE t.l (leastE t.l) = (delX X x.2.1).map Prod.snd := by
          rw [delX_at L.keys hx0]; rw [hl]
        obtain ⟨C, hC⟩ : ∃ C, ctE x.2 = C := ⟨_, rfl⟩
        rw [hC] at hGA hct0 hcts
        rw [hC]
        have hdlt : (delX X x.2.1).length < t.m := by
          have h1 := delX_len L.keys (fndX_is L.keys hxm rfl)
          omega
        have hdno : fndX (delX X x.2.1) s = none := by
          rw [fndX_del]
          by_cases h : s = x.2.1
          · rw [if_pos h]
          · rw [if_neg h]; exact hfx
        have HX := Lib.hid (And.intro hGA (And.intro hdno (And.intro hs (And.intro hdl (And.intro S1 (And.intro c1 (And.intro hx0 (And.intro hX0 hC))))))))
        obtain ⟨B, hB⟩ : ∃ B, t.base = B := ⟨_, rfl⟩
        rw [hB] at hR
        clear H L hG H1 s1 t1 hE hGA hfx hp hl c1 c2' S1 hxl hfull hB hs hxi hx0 hX0 hxm hdl hdno hC hEl
        go_enter Tryd.func6, Tryd.ntmps6
        go_wp2_with fail
        refine hF.mono ?_
        rintro e w1 ⟨rfl, hw⟩
        subst hw
        clear hF
        go_wp2_with fail
        rw [← hW1]
        clear hW1 x4 f4
        refine hR.mono ?_
        rintro e w2 ⟨rfl, c3, ⟨gr, gm, bE, c, m, M, E, H3, L3⟩, s3⟩
        have hFu := soFull_any H3 L3 s3.tidy
        rw [decide_eq_true hXn] at hFu
        have t3 := s3.tidy
        clear hR
        go_wp2_with fail
        refine hFu.mono ?_
        rintro e w4 ⟨rfl, b4⟩
        have s4 : StepC (fun _ => False) c3 w2 c3 w4 := StepC.below t3 b4
        have hLe := soLeast_any (H3.keep s4 (fun _ _ h => h) (fun h => h)) L3 s4.tidy HX.out.2.2.2.2.2.2.2.1
        have S4 := (HX.out.2.2.2.2.1.trans s3).trans (s4.mono (P' := fun c => 16 ≤ c) (fun c hc => hc.elim))
        clear hFu H3 L3 s3 t3 b4 s4
        go_wp2_with fail
        refine hLe.mono ?_
        rintro e w5 ⟨x', hx', rfl, c5, ⟨gr, gm, bE, c, m, M, E, H5, L5⟩, s5⟩
        rw [HX.out.2.2.2.2.2.2.1] at hx'
        injection hx' with hx'
        subst hx'
        have hC := HX.out.2.2.2.2.2.2.2.2
        rw [hC]
        have y3' := H5.cb
        have f3 := H5.box.free 3
        obtain ⟨H6, s6⟩ := H5.base s5.tidy C
        have S6 := (S4.trans s5).trans (s6.mono (P' := fun c => 16 ≤ c) (fun c hc => by omega))
        have H6' := H6
        have t6 := s6.tidy
        obtain ⟨W6, hW6⟩ : ∃ W, W = w5.setCell ⟨g, 3, none⟩ (.int .u64 C) := ⟨_, rfl⟩
        rw [← hW6] at H6 S6 t6
        have bd := (Below.refl W6.heap.size W6).drew
        have s7 : StepC (fun _ => False) c5 W6 c5 W6.drew := StepC.below t6 bd
        have H7 := H6.keep s7 (fun _ _ h => h) (fun h => h)
        have y3 := H7.cb
        have hIn : Calls Tryd.prog 16 #[.pointer (some ⟨g, 0, none⟩), .agg #[.string s, .int .u64 z, .int .u64 C]] W6.drew _ := soInsert_any (e := (s, z, C)) H7 L5 s7.tidy hdlt HX.out.2.1 ⟨by have := HX.out.2.2.2.2.2.1; show 0 < s.size; omega, HX.out.2.2.1⟩ hzw.1 hct0 (by show z + C ≤ 9223372036854775808; omega)
        have y3d : W6.cell? ⟨g, 3, none⟩ = some (.int .u64 C) := H6.cb
        have S7 := Lib.hid (S6.trans (s7.mono (P' := fun c => 16 ≤ c) (fun c hc => hc.elim)))
        clear hLe H5 s5 S4 hC H6 H6' s6 S6 t6 bd s7 H7 L5
        go_wp2_with fail
        rw [← hW6]
        clear hW6 y3' f3
        go_region_held3 (fun W => W.cell? ⟨g, 3, none⟩ = some (.int .u64 C)) (first | exact y3 | exact y5 | exact y3d) ((go_at_call 16; refine hIn.mono ?_; rintro e w8 ⟨rfl, i, hD⟩; have y5 := hD.cb; have HD := Lib.hid (And.intro hD S7.out)))
        have HT := Lib.hid (show DidST c2 w g { t with sum := y, base := C, l := withoutE t.l (leastE t.l) ++ [(s, z, C)] } w8 from by
          obtain ⟨⟨c6, S6, s6⟩, S4⟩ := HD.out
          exact ⟨c6, ⟨_, by show withoutE t.l (leastE t.l) ++ [(s, z, C)] = (delX X x.2.1 ++ [(i, (s, z, C))]).map Prod.snd; rw [List.map_append, HX.out.2.2.2.1]; rfl, HX.out.1, S6⟩, S4.trans s6⟩)
        clear hIn y3 S7 HD hD y5 HX y3d
        go_wp2
        go_ret
        exact ⟨rfl, HT.out⟩
      · have hE := addS_room c1 c2' hf hp hfull
        rw [hE, hy] at hGA
        rw [hE, hy]
        have HX := Lib.hid (And.intro hGA (And.intro hfx (And.intro hs (And.intro hl (And.intro hG (And.intro S1 c1))))))
        have hXn : ¬ X.length = t.m := by omega
        have hXlt : X.length < t.m := by have := L.few; omega
        have hb0 := hG.base0
        have hbt := hG.base_le
        obtain ⟨B, hB⟩ : ∃ B, t.base = B := ⟨_, rfl⟩
        rw [hB] at hR hb0 hbt
        have HB := Lib.hid hB
        clear H L hG H1 s1 t1 hE hGA hfx hp hl c1 c2' S1 hxl hfull hB hs
        go_enter Tryd.func6, Tryd.ntmps6
        go_wp2_with fail
        refine hF.mono ?_
        rintro e w1 ⟨rfl, hw⟩
        subst hw
        clear hF
        go_wp2_with fail
        rw [← hW1]
        clear hW1 x4 f4
        refine hR.mono ?_
        rintro e w2 ⟨rfl, c3, ⟨gr, gm, bE, c, m, M, E, H3, L3⟩, s3⟩
        have hFu := soFull_any H3 L3 s3.tidy
        rw [decide_eq_false hXn] at hFu
        have t3 := s3.tidy
        clear hR
        go_wp2_with fail
        refine hFu.mono ?_
        rintro e w4 ⟨rfl, b4⟩
        have bd := b4.drew
        have s4 : StepC (fun _ => False) c3 w2 c3 w4.drew := StepC.below t3 bd
        have H4 := H3.keep s4 (fun _ _ h => h) (fun h => h)
        have y3 := H4.cb
        have hIn : Calls Tryd.prog 16 #[.pointer (some ⟨g, 0, none⟩), .agg #[.string s, .int .u64 z, .int .u64 B]] w4.drew _ := soInsert_any (e := (s, z, B)) H4 L3 s4.tidy hXlt HX.out.2.1 ⟨by have := HX.out.2.2.2.2.2.2; show 0 < s.size; omega, HX.out.2.2.1⟩ hzw.1 hb0 (by show z + B ≤ 9223372036854775808; omega)
        have S4 := Lib.hid ((HX.out.2.2.2.2.2.1.trans s3).trans (s4.mono (P' := fun c => 16 ≤ c) (fun c hc => hc.elim)))
        clear hFu H3 L3 s3 t3 b4 bd s4 H4
        go_wp2_with fail
        go_region_held3 (fun W => W.cell? ⟨g, 3, none⟩ = some (.int .u64 B)) (first | exact y3 | exact y5) ((go_at_call 16; refine hIn.mono ?_; rintro e w5 ⟨rfl, i, hD⟩; have y5 := hD.cb; have HD := Lib.hid (And.intro hD S4.out)))
        have HT := Lib.hid (show DidST c2 w g { t with sum := y, l := t.l ++ [(s, z, t.base)] } w5 from by
          obtain ⟨hD, S4⟩ := HD.out
          obtain ⟨c6, S6, s6⟩ := hD
          rw [← HB.out] at S6
          exact ⟨c6, ⟨_, by show t.l ++ [(s, z, t.base)] = (X ++ [(i, (s, z, t.base))]).map Prod.snd; rw [List.map_append, HX.out.2.2.2.1]; rfl, HX.out.1, S6⟩, S4.trans s6⟩)
        clear hIn y3 S4 HD hD y5 HX
        go_wp2
        go_ret
        exact ⟨rfl, HT.out⟩
end
end Go.Proofs.YtlfhkhnhcckajaaDoor

/- The program's tables: allows, Swap. Conditions: none beyond those typed. -/
namespace Go.Proofs.YtlfhkhnhcckajaaDoor
open Go.ChangeShapes Go.WideShapes Go.ChangeAt Go.RowKit
set_option linter.unusedVariables false
set_option linter.unusedSimpArgs false
set_option maxRecDepth 100000

/-- What Swap refuses of an entry. -/
def alE (t : TSt) (e old : En) : Int := if e.1.size = 0 then 3 else if (t.get e.1).2 = true then 10 else if e.2.1 + e.2.2 ≤ ctE old then 0 else 1
section
variable {P : Nat → Prop} {c2 c3 : Col} {w w' : World} {g n i : Nat} {t : TSt} {X : List Xn} {x : Xn} {s : ByteArray} {z : Int} {e old : En}
theorem tFind_any (T : SoT c2 w g t) (ht : Tidy c2 w) (hs : s.size ≤ 281474976710656) :
    Calls Tryd.prog 18 #[.pointer (some ⟨g, 0, none⟩), .string s] w fun e w' => e = .returned (.tuple #[.agg (VE (t.get s).1), .bool (t.get s).2]) ∧ Below w.heap.size w w' := by
  obtain ⟨X, hl, hG, gr, gm, bE, c, m, M, E, H, L⟩ := T
  rw [get_getX hl L.keys]
  exact soFind_any H L ht hs
/-- What Swap does, by what allows says. -/
theorem swap_al (hz : 0 ≤ e.2.2) (hp : t.get s = (old, true)) : ∃ i, placeE t.l s = some i ∧ t.l[i]? = some old ∧ t.swapS s e = if alE t e old = 0 then ((old, 0), { t with l := withoutE t.l i ++ [swapE t.base e] }) else ((zeroE, alE t e old), t) := by
  unfold TSt.get at hp
  cases h : placeE t.l s with
  | none => rw [h] at hp; injection hp with _ hp; cases hp
  | some i =>
    rw [h] at hp
    obtain ⟨e0, he0, -, hil⟩ := placeE_some h
    have hp' : ((t.l[i]?).getD zeroE, true) = (old, true) := hp
    rw [he0] at hp'
    have heo : e0 = old := by injection hp'
    subst heo
    refine ⟨i, rfl, he0, ?_⟩
    unfold TSt.swapS alE
    rw [h]
    show (if e.1.size = 0 then _ else _) = _
    by_cases c1 : e.1.size = 0
    · rw [if_pos c1, if_pos c1, if_neg (by decide)]
    rw [if_neg c1, if_neg c1]
    have hd : (placeE t.l e.1).isSome = (t.get e.1).2 := by unfold TSt.get; cases placeE t.l e.1 <;> rfl
    rw [hd]
    by_cases c2 : (t.get e.1).2 = true
    · rw [if_pos c2, if_pos c2, if_neg (by decide)]
    rw [if_neg c2, if_neg c2, ctAt_at he0, he0]
    by_cases c3 : e.2.1 + e.2.2 ≤ ctE e0
    · rw [if_neg (fun h => h ⟨by omega, by omega⟩), if_pos c3, if_pos rfl]; rfl
    · rw [if_pos (fun h => c3 (by omega)), if_neg c3, if_neg (by decide)]
theorem swapE_max (base : Int) (e : En) : max e.2.2 (subV base e.2.1) = (swapE base e).2.2 ∨ (e.2.2 < 0) := by
  unfold swapE subV
  by_cases h : base < e.2.1
  · rw [if_pos h, if_neg (by omega)]
    show max e.2.2 0 = e.2.2 ∨ _
    omega
  · rw [if_neg h]
    by_cases h2 : e.2.1 < base ∧ e.2.2 < base - e.2.1
    · rw [if_pos h2]; left; show max e.2.2 (base - e.2.1) = base - e.2.1; omega
    · rw [if_neg h2]
      show max e.2.2 (base - e.2.1) = e.2.2 ∨ _
      omega
end
end Go.Proofs.YtlfhkhnhcckajaaDoor

/- The program's tables of string values: where a search ends. Conditions: none beyond those typed. -/
namespace Go.Proofs.YtlfhkhnhcckajaaDoor
open Go.ChangeShapes Go.WideShapes Go.ChangeAt Go.RowKit
set_option linter.unusedVariables false
set_option linter.unusedSimpArgs false
set_option maxRecDepth 100000

section
variable {P : Nat → Prop} {col col' : Col} {w w' : World} {k g n u N : Nat} {T : List Int} {seed : Int} {A : Option Addr} {cT b c : Nat} {t : Tb ByteArray} {home : ByteArray → Nat} {s : ByteArray}
/-- Where a search ends: at the key, or at a free place, and then the key is nowhere. -/
def Founds (t : Tb ByteArray) (home : ByteArray → Nat) (s : ByteArray) (i : Nat) (yes : Bool) : Prop :=
  (yes = true ∧ ∃ v, t[i]? = some (some (s, v))) ∨ (yes = false ∧ Emp t i ∧ (∀ q, q < t.length → dst t.length (home s) q < dst t.length (home s) i → Occ t q) ∧ ∀ (p : Nat) (v : ByteArray), t[p]? ≠ some (some (s, v)))
def FindOuts (t : Tb ByteArray) (home : ByteArray → Nat) (s : ByteArray) (N : Nat) (w : World) (r : Ending) (w' : World) : Prop := ∃ (i : Nat) (yes : Bool), r = .returned (.tuple #[.int .i64 i, .bool yes]) ∧ i < N ∧ Founds t home s i yes ∧ w = w'
end
end Go.Proofs.YtlfhkhnhcckajaaDoor

/- The program's tables of string values: New, and what a nil table returns. Conditions: none beyond those typed. -/
namespace Go.Proofs.YtlfhkhnhcckajaaDoor
open Go.ChangeShapes Go.WideShapes Go.ChangeAt Go.RowKit
set_option linter.unusedVariables false
set_option linter.unusedSimpArgs false
set_option maxRecDepth 100000

section
variable {P : Nat → Prop} {col col' : Col} {w w' W : World} {k g n u N : Nat} {T : List Int} {seed : Int} {A : Option Addr} {cT b c gm bc cc : Nat} {t : Tb ByteArray} {home : ByteArray → Nat} {s : ByteArray} {m : MSt ByteArray} {v : ByteArray}
theorem plOfs_free (home : ByteArray → Nat) (N : Nat) : (List.replicate N (none : Option (ByteArray × ByteArray))).map (plOf (⟨#[]⟩ : ByteArray) home) = List.replicate N ((false, 0, ⟨#[]⟩, (⟨#[]⟩ : ByteArray)) : Pl ByteArray) := by simp [plOf]
end
end Go.Proofs.YtlfhkhnhcckajaaDoor

/- slices.Sort of a row of texts of the call's own; make of an empty row with room. Conditions: none beyond those typed. -/
namespace Go.Proofs.YtlfhkhnhcckajaaDoor
open Go.ChangeShapes Go.WideShapes Go.ChangeAt Go.RowKit Go.Sort
set_option linter.unusedVariables false
set_option linter.unusedSimpArgs false
set_option maxRecDepth 100000

def bytesT (l : List ByteArray) : List (List UInt8) := l.map fun z => z.data.toList
def ofBytesT (l : List (List UInt8)) : List ByteArray := l.map fun b => ⟨b.toArray⟩
/-- In ascending order. -/
def ordT (l : List ByteArray) : List ByteArray := ofBytesT ((bytesT l).mergeSort fun x y => decide (x ≤ y))
theorem bytes_of (l : List (List UInt8)) : bytesT (ofBytesT l) = l := by
  induction l with
  | nil => rfl
  | cons a r ih => exact congrArg (List.cons a) ih
theorem of_bytes (l : List ByteArray) : ofBytesT (bytesT l) = l := by
  induction l with
  | nil => rfl
  | cons a r ih => exact congrArg (List.cons a) ih
theorem ord_len (l : List ByteArray) : (ordT l).length = l.length := by simp [ordT, ofBytesT, bytesT]
theorem ord_mem (l : List ByteArray) (s : ByteArray) : s ∈ ordT l ↔ s ∈ l := by
  unfold ordT ofBytesT bytesT
  simp only [List.mem_map, List.mem_mergeSort]
  constructor
  · rintro ⟨_, ⟨z, hz, rfl⟩, rfl⟩; simpa using hz
  · intro hs; exact ⟨_, ⟨s, hs, rfl⟩, by simp⟩
theorem le_bl (x y : List UInt8) : decide (x ≤ y) = !Op.bytesLess y x := by
  rw [bytesLess_eq, ← decide_not]
  apply decide_eq_decide.2
  exact Iff.rfl
theorem ord_srt {l : List ByteArray} (hn : l.Nodup) : (ordT l).Pairwise fun a b => sless a b = true := by
  have h1 : ((bytesT l).mergeSort fun x y => decide (x ≤ y)).Pairwise fun x y => decide (x ≤ y) = true := by
    apply List.pairwise_mergeSort
    · intro x y z h1 h2
      rw [le_bl] at h1 h2 ⊢
      cases hzx : Op.bytesLess z x with
      | false => rfl
      | true =>
        rcases bl_total x y with e | e | e
        · subst e; rw [hzx] at h2; cases h2
        · rw [bl_trans _ _ _ hzx e] at h2; cases h2
        · rw [e] at h1; cases h1
    · intro x y
      rw [le_bl, le_bl]
      cases hxy : Op.bytesLess y x with
      | false => rfl
      | true => rw [bl_asymm hxy]; rfl
  have h2 : ((bytesT l).mergeSort fun x y => decide (x ≤ y)).Nodup := (List.mergeSort_perm _ _).nodup_iff.2 (by
    unfold bytesT
    refine List.Pairwise.map _ ?_ hn
    intro a b hab e
    exact hab (ByteArray.ext (Array.toList_inj.1 e)))
  unfold ordT ofBytesT
  refine List.Pairwise.map _ ?_ (h1.and h2)
  intro a b hab
  have h3 := hab.1
  rw [le_bl] at h3
  unfold sless
  rw [Lib.toList_data, Lib.toList_data]
  rcases bl_total a b with e | e | e
  · exact absurd e hab.2
  · simpa using e
  · rw [e] at h3; cases h3
end Go.Proofs.YtlfhkhnhcckajaaDoor

/- The program's tables of numbers: Keys; all that the statements use of them. Conditions: none beyond those typed. -/
namespace Go.Proofs.YtlfhkhnhcckajaaDoor
open Go.ChangeShapes Go.WideShapes Go.ChangeAt Go.RowKit
set_option linter.unusedVariables false
set_option linter.unusedSimpArgs false
set_option maxRecDepth 100000

section
variable {α : Type} {t : Tb α} {i : Nat} {e : ByteArray × α}
/-- The keys in their places' order. -/
def keysT (t : Tb α) : List ByteArray := (ents t).map Prod.fst
theorem keysT_yes (h : t[i]? = some (some e)) : keysT (t.take (i + 1)) = keysT (t.take i) ++ [e.1] := by
  rw [List.take_add_one, h]
  simp [keysT, ents]
theorem keysT_no (h : t[i]? = some none) : keysT (t.take (i + 1)) = keysT (t.take i) := by
  rw [List.take_add_one, h]
  simp [keysT, ents]
theorem keysT_le (t : Tb α) : (keysT t).length ≤ t.length := by
  rw [keysT, List.length_map]
  exact List.length_filterMap_le _ _
end
section
variable {P : Nat → Prop} {col col' : Col} {w w' W : World} {k g n u N : Nat} {T : List Int} {seed : Int} {A : Option Addr} {cT b c gm bc : Nat} {t : Tb Int} {home : ByteArray → Nat} {s : ByteArray} {m : MSt Int} {v : Int}
end
end Go.Proofs.YtlfhkhnhcckajaaDoor

/- The program's tables: Entries. Conditions: none beyond those typed. -/
namespace Go.Proofs.YtlfhkhnhcckajaaDoor
open Go.ChangeShapes Go.WideShapes Go.ChangeAt Go.RowKit
set_option linter.unusedVariables false
set_option linter.unusedSimpArgs false
set_option maxRecDepth 100000

theorem insSE_add (out : List En) (e : En) : insSE out e = addM out e.1 e.2 := rfl
theorem foldSE_srt : ∀ (l out : List En), Srt out → ((l ++ out).map Prod.fst).Nodup → Srt (l.foldl insSE out)
  | [], out, h, _ => h
  | e :: l, out, h, hn => by
    have hp : ((l ++ insSE out e).map Prod.fst).Perm ((e :: l ++ out).map Prod.fst) := by
      have h1 : (l ++ insSE out e).Perm (l ++ e :: out) := (insSE_perm out e).append_left l
      exact (h1.trans List.perm_middle).map _
    refine foldSE_srt l (insSE out e) ?_ (hp.nodup_iff.2 hn)
    rw [insSE_add]
    refine add_srt h ?_
    cases hl : lookM out e.1 with
    | none => rfl
    | some v =>
      exfalso
      have hm := (look_mem h).1 hl
      rw [List.cons_append, List.map_cons] at hn
      exact (List.nodup_cons.1 hn).1 (List.mem_map.2 ⟨_, List.mem_append.2 (.inr hm), rfl⟩)
theorem sortE_srt {l : List En} (hn : (l.map Prod.fst).Nodup) : Srt (sortE l) := foldSE_srt l [] List.Pairwise.nil (by rwa [List.append_nil])
theorem LkO.sorted {n : Nat} {X : List Xn} {m : CSt Int} {M : MSt Int} {E : List El} {l : List En} (L : LkO n X m M E) (hl : l = X.map Prod.snd) : M.keys = (sortE l).map Prod.fst := by
  have hn : (l.map Prod.fst).Nodup := by rw [hl, List.map_map]; exact L.keys
  have e1 : M.keys.Pairwise fun a b => sless a b = true := List.pairwise_map.2 L.gM.srt
  have e2 : ((sortE l).map Prod.fst).Pairwise fun a b => sless a b = true := List.pairwise_map.2 (sortE_srt hn)
  refine srt_unique e1 e2 fun s => ?_
  have h1 := look_key (s := s) L.gM.srt
  unfold MSt.keys
  rw [← h1]
  have h2 : M.look s = (fndX X s).map fun x => (x.1 : Int) := L.map s
  unfold MSt.look at h2
  rw [h2]
  constructor
  · rintro ⟨v, hv⟩
    cases hf : fndX X s with
    | none => rw [hf] at hv; cases hv
    | some x =>
      obtain ⟨hx, hs⟩ := fndX_some hf
      exact List.mem_map.2 ⟨x.2, (sortE_perm l).mem_iff.2 (by rw [hl]; exact List.mem_map.2 ⟨x, hx, rfl⟩), hs⟩
  · intro hm
    obtain ⟨e, he, hs⟩ := List.mem_map.1 hm
    have he' := (sortE_perm l).mem_iff.1 he
    rw [hl] at he'
    obtain ⟨x, hx, rfl⟩ := List.mem_map.1 he'
    exact ⟨(x.1 : Int), by rw [fndX_is L.keys hx hs]; rfl⟩
section
variable {c2 : Col} {w w' : World} {g n i : Nat} {t : TSt} {e : En}
end
end Go.Proofs.YtlfhkhnhcckajaaDoor

/- The program's tables: what a nil table returns. Conditions: none beyond those typed. -/
namespace Go.Proofs.YtlfhkhnhcckajaaDoor
open Go.ChangeShapes Go.WideShapes Go.ChangeAt Go.RowKit
set_option linter.unusedVariables false
set_option linter.unusedSimpArgs false
set_option maxRecDepth 100000

theorem snilGet (w : World) (s : ByteArray) : Calls Tryd.prog 8 #[.pointer none, .string s] w fun e w' => e = .returned (.tuple #[.agg (VE zeroE), .bool false]) ∧ Below w.heap.size w w' := by
  have HX := Lib.hid (show (w.alloc (.cells #[.string ⟨#[]⟩, .int .u64 0, .int .u64 0] 34)).heap[w.heap.size]? = some (.cells (VE zeroE) 34 (0, 0)) from heap_alloc_new w _)
  have HB := Lib.hid (show Below w.heap.size w (w.alloc (.cells #[.string ⟨#[]⟩, .int .u64 0, .int .u64 0] 34)) from (Below.refl _ _).alloc (Nat.le_refl _) _)
  go_enter Tryd.func8, Tryd.ntmps8
  go_wp2
  refine bodyPost_ret (results_cell_row2 rfl _ _ w.heap.size _ _ (0, 0) _ rfl HX.out Tryd.underlying34 rfl (by kernel_rfl)) rfl ?_
  exact ⟨rfl, HB.out⟩
theorem snilTake (w : World) (s : ByteArray) : Calls Tryd.prog 19 #[.pointer none, .string s] w fun e w' => e = .returned (.tuple #[.agg (VE zeroE), .bool false]) ∧ Below w.heap.size w w' := by
  have HX := Lib.hid (show (w.alloc (.cells #[.string ⟨#[]⟩, .int .u64 0, .int .u64 0] 34)).heap[w.heap.size]? = some (.cells (VE zeroE) 34 (0, 0)) from heap_alloc_new w _)
  have HB := Lib.hid (show Below w.heap.size w (w.alloc (.cells #[.string ⟨#[]⟩, .int .u64 0, .int .u64 0] 34)) from (Below.refl _ _).alloc (Nat.le_refl _) _)
  go_enter Tryd.func19, Tryd.ntmps19
  go_wp2
  refine bodyPost_ret (results_cell_row2 rfl _ _ w.heap.size _ _ (0, 0) _ rfl HX.out Tryd.underlying34 rfl (by kernel_rfl)) rfl ?_
  exact ⟨rfl, HB.out⟩
end Go.Proofs.YtlfhkhnhcckajaaDoor

/- The program's tables (Space-Saving) keep all their contracts. Conditions: none beyond those typed. -/
namespace Go.Proofs.YtlfhkhnhcckajaaDoor
open Go.ChangeShapes Go.WideShapes Go.ChangeAt Go.RowKit
set_option linter.unusedVariables false
set_option linter.unusedSimpArgs false
set_option maxRecDepth 100000

/-- The table t lies in block g, with the base colour k. -/
def PTs : RepT := fun col k w g t => 1 ≤ k ∧ ∃ c2, Fine k col c2 ∧ Tidy c2 w ∧ SoT c2 w g t
section
variable {P : Nat → Prop} {col col' c2 c2' : Col} {w w' : World} {k g : Nat} {t : TSt}
theorem PTs.keep (h : PTs col k w g t) (hs : StepC P col w col' w') (hp : ∀ c, Rng k c → ¬ P c) (h0 : ¬ P 0) : PTs col' k w' g t := by
  obtain ⟨hk, c2, F, t2, S⟩ := h
  obtain ⟨c2', F', s⟩ := F.inn hk t2 hs hp h0
  exact ⟨hk, c2', F', s.tidy, S.keep s (fun c hc => by omega) (by omega)⟩
theorem PTs.good (h : PTs col k w g t) : GoodT t := by
  obtain ⟨_, _, _, _, _, _, G, _⟩ := h
  exact G
theorem DidST.out (h : DidST c2 w g t w') (F : Fine k col c2) (hk : 1 ≤ k) (ht : Tidy col w) : DidPT PTs col k w g t w' := by
  obtain ⟨c3, S, s⟩ := h
  obtain ⟨col', F', s'⟩ := F.out hk ht s (fun c hc => by omega)
  exact ⟨col', ⟨hk, c3, F', s.tidy, S⟩, s'⟩
set_option maxHeartbeats 1000000 in
theorem tNew_any (ht : Tidy col w) (hT : TbC col w) (hk : 1 ≤ k) (n : Int) (hn : J64 n) : Calls Tryd.prog 4 #[.int .i64 n] w (NewPT PTs col k n w) := by
  have F0 := fineOf_fine hk col
  have t0 := fineOf_tidy (k := k) ht
  have T0 : TbC (fineOf k col) w := ⟨hT.tab, (F0 _).1 hT.col0⟩
  unfold J64 at hn
  by_cases h1 : n < 1
  · have HE := Lib.hid (show svE n = 1 from if_pos (by omega))
    clear F0 t0 T0 hT
    go_enter Tryd.func4, Tryd.ntmps4
    go_wp2
    go_ret2
    exact .inr ⟨HE.out, rfl, Below.refl _ _⟩
  by_cases h2 : n > 64
  · have HE := Lib.hid (show svE n = 1 from if_pos (by omega))
    clear F0 t0 T0 hT
    go_enter Tryd.func4, Tryd.ntmps4
    go_wp2
    go_ret2
    exact .inr ⟨HE.out, rfl, Below.refl _ _⟩
  obtain ⟨q, rfl⟩ : ∃ q : Nat, n = (q : Int) := ⟨n.toNat, by omega⟩
  have HE := Lib.hid (show svE (q : Int) = 0 from if_neg (by omega))
  have hq : 1 ≤ q ∧ q ≤ 64 := by omega
  have hC := soEmpty_any t0 T0 hq
  have HF := Lib.hid (And.intro F0 (And.intro ht hk))
  generalize fineOf k col = c2 at *
  clear F0 t0 T0 hT
  go_enter Tryd.func4, Tryd.ntmps4
  go_wp2_with fail
  refine hC.mono ?_
  rintro e w2 ⟨gr, gm, bE, c3, rfl, O3, R3, M3, s3⟩
  have HD := Lib.hid (show DidPT PTs col k w w2.heap.size (newT q) (w2.alloc (.cells #[.pointer (some ⟨gr, 0, none⟩), .pointer (some ⟨gm, 0, none⟩), .slice (some ⟨bE, 0, none⟩) q q, .int .u64 0, .int .u64 0] 47)) from by
    obtain ⟨F, ht, hk⟩ := HF.out
    have s4 := StepC.new s3.tidy (.cells #[.pointer (some ⟨gr, 0, none⟩), .pointer (some ⟨gm, 0, none⟩), .slice (some ⟨bE, 0, none⟩) q q, .int .u64 0, .int .u64 0] 47) 16 (fun _ => False)
    refine DidST.out ⟨_, ⟨[], rfl, newT_good hq, gr, gm, bE, q, newC Int q, newM Int q, List.replicate q zeroEl, ⟨⟨heap_alloc_new _ _, dye_of⟩, O3.keep s4 (fun h => h), R3.keep s4 (fun _ _ h => h) (fun h => h), M3.keep s4 (fun _ _ h => h) (fun h => h)⟩, LkO.new hq⟩, s3.trans (s4.mono (fun c hc => hc.elim))⟩ F hk ht)
  clear hC O3 R3 M3 s3 HF
  go_wp2
  go_ret2
  exact .inl ⟨HE.out, w2.heap.size, rfl, HD.out⟩
theorem progTh : ProgTh PTs where
  keep := PTs.keep
  good := PTs.good
  new := fun ht hT hk n hn => tNew_any ht hT hk n hn
  add := fun h ht s x hs hx => by
    obtain ⟨hk, c2, F, t2, S⟩ := h
    exact (tAdd_any S t2 hs hx).mono fun e w' h => ⟨h.1, h.2.out F hk ht⟩
  get := fun h ht s hs => by
    obtain ⟨hk, c2, F, t2, S⟩ := h
    exact tGet_any S t2 hs
  take := fun h ht s hs => by
    obtain ⟨hk, c2, F, t2, S⟩ := h
    exact (tTake_any S t2 hs).mono fun e w' h => ⟨h.1, h.2.out F hk ht⟩
  untr := fun h ht => by
    obtain ⟨hk, c2, F, t2, S⟩ := h
    exact tUntr_any S
  total := fun h ht => by
    obtain ⟨hk, c2, F, t2, S⟩ := h
    exact tTotal_any S
end
end Go.Proofs.YtlfhkhnhcckajaaDoor

/- The table of math/bits.TrailingZeros64 out of the row's condition; the start that meets it. Conditions: none beyond those typed. -/
namespace Go.Proofs.YtlfhkhnhcckajaaDoor
open Go.ChangeShapes Go.WideShapes Go.ChangeAt Go.RowKit
set_option linter.unusedVariables false
set_option linter.unusedSimpArgs false

abbrev seatLaid : List (String × DataW Unit) := [("math/bits.deBruijn64tab", Rows.laid_math_bits_deBruijn64tab)]
theorem gTab : Tryd.prog.globalNamed "math/bits.deBruijn64tab" = some 0 := by kernel_rfl
theorem gTabType : (Tryd.prog.globals[0]?).map (·.type) = some 130 := by kernel_rfl
theorem tab_of_laid {W : World} (h : laidMetH Tryd.prog seatLaid W) : Tab W := by
  rw [MakeChecks.laidMetH_plain _ _ _ (by kernel_rfl)] at h
  have h' : laidMet Tryd.prog (("math/bits.deBruijn64tab", Lib.tabData .u8 (Lib.deBruijn64tab.map fun z : Nat => (z : Int))) :: []) W := h
  have hT := Lib.tabIs_of_head gTab gTabType Tryd.underlying130 Tryd.underlying5 (by kernel_rfl) (by kernel_rfl) h'
  intro j hj
  have hl : Lib.deBruijn64tab.length = 64 := rfl
  have := hT.cell gTab j (by rw [List.length_map, hl]; exact hj)
  rw [this, List.getD_eq_getElem?_getD, List.getElem?_map, List.getD_eq_getElem?_getD, List.getElem?_eq_getElem (by rw [hl]; exact hj)]
  rfl
theorem door_met (os : Os) (args : Array Value) : laidMetH Tryd.prog seatLaid ((World.doorLaid Tryd.prog 400 os).forCall (fun _ _ => 0) ⟨#[], args, []⟩).memory :=
  laidMetH_of_parts3 (fuel := 8) (laidMet_of_run' 8 (by kernel_rfl) (by kernel_rfl)) (by kernel_rfl) (by kernel_rfl)
end Go.Proofs.YtlfhkhnhcckajaaDoor
