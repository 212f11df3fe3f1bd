/- Words laid together in one text. Conditions: none beyond those typed. -/
import Derived.Test.YtgkokglngpbamaaZ07
import Derived.Test.YtgkokglngpbamaaTm
import Derived.Deep.RegionHeld3
import Derived.Deep.CutRange
import Derived.StillTailTactics
import Derived.BigRegion
import Derived.Test.YtgkokglngpbamaaZ04
/- The specified table in memory: Add (mode Frequent). Conditions: none beyond those typed. -/
namespace Go.Proofs.Ytgkokglngpbamaa
open Go.ChangeShapes Go.WideShapes Go.ChangeAt Go.RowKit
set_option linter.unusedVariables false
set_option linter.unusedSimpArgs false
set_option maxRecDepth 100000

section
variable {P : Nat → Prop} {col col' : Col} {w w' : World} {k g : Nat} {t : TSt}
set_option maxHeartbeats 4000000 in
theorem rfAdd (H : RefF col k w g t) (ht : Tidy col w) (s : ByteArray) (x : Int) (hx : 0 ≤ x ∧ x ≤ 18446744073709551615) :
    Calls Try.prog 22 #[.pointer (some ⟨g, 0, none⟩), .string s, .int .u64 x] w fun e w' => e = .returned (.int .i64 (t.addF s x).1) ∧ DidRF col k w g (t.addF s x).2 w' := by
  have HD0 := Lib.hid (show DidRF col k w g t w from ⟨col, H, StepC.refl ht⟩)
  have H0 := Lib.hid H
  obtain ⟨hG, A, c, HB⟩ := H
  have hs0 := hG.sums.2.2.1
  have hst := hG.top
  by_cases c1 : s.size = 0
  · have hb : s.toList.isEmpty = true := (ba_empty c1).1
    rw [addF_form c1]
    clear HB hG c1
    go_enter Try.func22, Try.ntmps22
    go_wp2
    go_ret
    exact ⟨rfl, HD0.out⟩
  have hb : s.toList.isEmpty = false := ba_some (by omega)
  by_cases c2 : x = 0
  · have hb2 : (x == 0) = true := beq_iff_eq.2 c2
    rw [addF_zero c1 c2]
    clear HB hG c1 c2
    go_enter Try.func22, Try.ntmps22
    go_wp2
    go_ret
    exact ⟨rfl, HD0.out⟩
  have hb2 : (x == 0) = false := beq_false_of_ne c2
  have hF := rfits_any t.sum x w ⟨hs0, by omega⟩ hx
  have x4 : w.cell? ⟨g, 4, none⟩ = some (.int .u64 t.sum) := HB.box.cell 4 rfl
  cases hf : fitsB t.sum x with
  | false =>
    rw [hf] at hF
    rw [addF_over c1 c2 hf]
    clear HB hG c1 c2
    go_enter Try.func22, Try.ntmps22
    go_wp2_with fail
    refine hF.mono ?_
    rintro e w1 ⟨rfl, hw⟩
    subst hw
    go_wp2
    go_ret
    exact ⟨rfl, HD0.out⟩
  | true =>
    rw [hf] at hF
    have hfl := fits_le hf
    have hGA := hG.addF s hx.1
    have hsw : IntKind.u64.wrap (t.sum + x) = t.sum + x := IntWalk.u64_in _ ⟨by omega, by omega⟩
    obtain ⟨y, hy⟩ : ∃ y, t.sum + x = y := ⟨_, rfl⟩
    rw [hy] at hsw
    have f4 := HB.box.free 4
    obtain ⟨H1, S1⟩ := HB.setSum ht y
    have T1 := S1.tidy
    obtain ⟨n, hn⟩ : ∃ n, t.l.length = n := ⟨_, rfl⟩
    have hn6 : n ≤ 64 := by have := hG.len; have := hG.m1; omega
    have y2 : (w.setCell ⟨g, 4, none⟩ (.int .u64 y)).cell? ⟨g, 2, none⟩ = some (.slice A n c) := by rw [← hn]; exact H1.box.cell 2 rfl
    have hRow : RdG kEn (w.setCell ⟨g, 4, none⟩ (.int .u64 y)) A n c t.l := by rw [← hn]; exact H1.row.own.reads
    have hPl := place_any hRow (by omega) s
    unfold placeI at hPl
    cases hp : placeE t.l s with
    | some i =>
      rw [hp] at hPl
      obtain ⟨e0, he0, hes, hil⟩ := placeE_some hp
      rw [addF_own c1 c2 hf hp he0 hes] at hGA ⊢
      obtain ⟨b0, b1, b2⟩ := hG.bd (List.mem_of_getElem? he0)
      have how : IntKind.u64.wrap (e0.2.1 + x) = e0.2.1 + x := IntWalk.u64_in _ ⟨by omega, by omega⟩
      obtain ⟨v, hv⟩ : ∃ v, e0.2.1 + x = v := ⟨_, rfl⟩
      rw [hv] at how
      rw [hy, hv] at hGA ⊢
      go_enter Try.func22, Try.ntmps22
      go_wp2_with fail
      refine hF.mono ?_
      rintro e w1 ⟨rfl, hw⟩
      subst hw
      clear hF
      go_wp2_with fail
      generalize w.setCell ⟨g, 4, none⟩ (.int .u64 y) = W1 at *
      refine hPl.mono ?_
      rintro e w2 ⟨rfl, bp⟩
      have H2 := H1.below T1 bp
      have T2 := T1.size bp.size
      have S2 := S1.trans (StepC.below T1 bp)
      have z2 : w2.cell? ⟨g, 2, none⟩ = some (.slice A n c) := (cellB y2 bp).1
      have hR2 := hRow.below bp
      obtain ⟨b, rfl, _⟩ : ∃ b, A = some ⟨b, 0, none⟩ ∧ b < w2.heap.size := by have := H2.row.own.head (Nat.lt_of_le_of_lt (Nat.zero_le i) hil); exact this
      obtain ⟨b', o', e', hb', he', q0, q1, q2⟩ := hR2.atEn (j := i) (by omega)
      injection hb' with hb'; injection hb' with h1 h2; subst h1 h2
      rw [he0] at he'; injection he' with he'; subst he'
      have hin : (i : Int) < (n : Int) := by omega
      have hcap := hR2.cap
      have hmax := hR2.max
      simp only [Nat.zero_add] at q0 q1 q2
      clear hPl bp y2 hes hp H1 hRow T1 S1
      go_upto_region 12 with fail
      obtain ⟨G, hG⟩ : ∃ G, w2.heap.size = G := ⟨_, rfl⟩
      have b4 : Below w2.heap.size w2 (w2.alloc (.cells #[.string e0.1, .int .u64 v, .int .u64 e0.2.2] 32)) := (Below.refl _ _).alloc (Nat.le_refl _) _
      have XG : BoxC col (w2.alloc (.cells #[.string e0.1, .int .u64 v, .int .u64 e0.2.2] 32)) G 0 (VE (e0.1, v, e0.2.2)) 32 := by rw [← hG]; exact ⟨heap_alloc_new w2 _, T2 _ (Nat.le_refl _)⟩
      try rw [hG]
      generalize hW4 : w2.alloc (.cells #[.string e0.1, .int .u64 v, .int .u64 e0.2.2] 32) = W4 at *
      have y1 : W4.cell? ⟨g, 2, none⟩ = some (.slice (some ⟨b, 0, none⟩) n c) := (cellB z2 b4).1
      have g0 : W4.cell? ⟨G, 0, none⟩ = some (.string e0.1) := XG.cell 0 rfl
      have g1 : W4.cell? ⟨G, 1, none⟩ = some (.int .u64 v) := XG.cell 1 rfl
      have g2 : W4.cell? ⟨G, 2, none⟩ = some (.int .u64 e0.2.2) := XG.cell 2 rfl
      have HB := Lib.hid (H2.below T2 b4)
      have HS := Lib.hid (S2.trans (StepC.below (P := Rng k) T2 b4))
      have T1 := T2.size b4.size
      have hWo := fun (W : World) (hb : Below W4.heap.size W4 W) => without_any ((hR2.below b4).below hb) (by omega) (i := i) (by omega)
      have hlw : (withoutE t.l i).length = n - 1 := by have := (without_at he0).1; omega
      have hly : (withoutE t.l i ++ [(e0.1, v, e0.2.2)]).length = n - 1 + 1 := by rw [List.length_append, hlw]; rfl
      have hby : (withoutE t.l i).length + 1 ≤ 1000000000 := by omega
      have HG := Lib.hid hGA
      clear hGA H2 S2 z2 hR2 XG hW4 b4 T2 hG q0 q1 q2 hlw he0
      have hSP : ∀ W, Below W4.heap.size W4 W → (fun w' => w'.cell? ⟨g, 2, none⟩ = some (.slice (some ⟨b, 0, none⟩) n c) ∧ w'.cell? ⟨G, 0, none⟩ = some (.string e0.1) ∧ w'.cell? ⟨G, 1, none⟩ = some (.int .u64 v) ∧ w'.cell? ⟨G, 2, none⟩ = some (.int .u64 e0.2.2)) W := fun W B => ⟨(cellB y1 B).1, (cellB g0 B).1, (cellB g1 B).1, (cellB g2 B).1⟩
      refine wp_region_noPanic ?_
      refine wp_region_late (fun w' => w'.cell? ⟨g, 2, none⟩ = some (.slice (some ⟨b, 0, none⟩) n c) ∧ w'.cell? ⟨G, 0, none⟩ = some (.string e0.1) ∧ w'.cell? ⟨G, 1, none⟩ = some (.int .u64 v) ∧ w'.cell? ⟨G, 2, none⟩ = some (.int .u64 e0.2.2)) (fun j => [0, 1, 2, 3, 5, 10, 11, 12].contains j) (by kernel_rfl) ?_
      intro u0 hu0
      have B0 : Below W4.heap.size W4 u0 := by rw [← hu0]; exact bdM _
      have hS : (fun w' => w'.cell? ⟨g, 2, none⟩ = some (.slice (some ⟨b, 0, none⟩) n c) ∧ w'.cell? ⟨G, 0, none⟩ = some (.string e0.1) ∧ w'.cell? ⟨G, 1, none⟩ = some (.int .u64 v) ∧ w'.cell? ⟨G, 2, none⟩ = some (.int .u64 e0.2.2)) u0 := hSP _ B0
      clear hu0
      refine wpAnyL_takeY 0 _ (.pointer (some ⟨g, 0, none⟩)) rfl (by kernel_rfl) (by kernel_rfl) (by kernel_rfl) (by kernel_rfl) (fun _ _ _ h => h) (Or.inl ⟨by rfl, ?_⟩) ?_
      · intro w'; go_simp
      simp only [Act.put, List.setIfInBounds_toArray, List.set_cons_zero, List.set_cons_succ]
      refine wpAnyL_takeY 1 _ (.pointer (some ⟨g, 0, none⟩)) rfl (by kernel_rfl) (by kernel_rfl) (by kernel_rfl) (by kernel_rfl) (fun _ _ _ h => h) (Or.inl ⟨by rfl, ?_⟩) ?_
      · intro w'; go_simp
      simp only [Act.put, List.setIfInBounds_toArray, List.set_cons_zero, List.set_cons_succ]
      refine wpAnyL_takeY 2 _ (.pointer (some ⟨g, 0, none⟩)) rfl (by kernel_rfl) (by kernel_rfl) (by kernel_rfl) (by kernel_rfl) (fun _ _ _ h => h) (Or.inl ⟨by rfl, ?_⟩) ?_
      · intro w'; go_simp
      simp only [Act.put, List.setIfInBounds_toArray, List.set_cons_zero, List.set_cons_succ]
      refine wpAnyL_takeY 3 _ (.pointer (some ⟨g, 2, none⟩)) rfl (by kernel_rfl) (by kernel_rfl) (by kernel_rfl) (by kernel_rfl) (fun _ _ _ h => h) (Or.inl ⟨by rfl, ?_⟩) ?_
      · intro w'; go_simp
      simp only [Act.put, List.setIfInBounds_toArray, List.set_cons_zero, List.set_cons_succ]
      refine wpAnyL_takeY 5 _ (.int .i64 (i : Int)) rfl (by kernel_rfl) (by kernel_rfl) (by kernel_rfl) (by kernel_rfl) (fun _ _ _ h => h) (Or.inl ⟨by rfl, ?_⟩) ?_
      · intro w'; go_simp
      simp only [Act.put, List.setIfInBounds_toArray, List.set_cons_zero, List.set_cons_succ]
      refine wpAnyL_take 4 _ (.slice (some ⟨b, 0, none⟩) n c) rfl (by kernel_rfl) (by kernel_rfl) (by kernel_rfl) (by kernel_rfl) (fun _ _ _ h => h) (Or.inl ⟨by rfl, ?_⟩) hS ?_
      · rintro w' ⟨hS0, hS1, hS2, hS3⟩; go_simp
      simp only [Act.put, List.setIfInBounds_toArray, List.set_cons_zero, List.set_cons_succ]
      refine wpAnyL_take 7 _ (.agg #[.string e0.1, .int .u64 v, .int .u64 e0.2.2]) rfl (by kernel_rfl) (by kernel_rfl) (by kernel_rfl) (by kernel_rfl) (fun _ _ _ h => h) (Or.inl ⟨by rfl, ?_⟩) hS ?_
      · rintro w' ⟨hS0, hS1, hS2, hS3⟩; go_simp
      simp only [Act.put, List.setIfInBounds_toArray, List.set_cons_zero, List.set_cons_succ]
      clear hS
      refine wpAnyL_all [6, 8] (by kernel_rfl) (by simp) ?_
      refine (lateCons ?_ (lateCons ?_ lateNil))
      · refine wpOpL_step _ rfl (fun K' hK => ?_)
        go_simp
        refine (hWo _ B0).mono ?_
        rintro e u1 ⟨A2, c2, rfl, O2, N2, bw⟩
        have B1 := below_then B0 bw
        have R1 : MidR kEn W4 u1 (.slice A2 (n - 1) c2) (withoutE t.l i) := ⟨O2, (fun q hq => Nat.le_trans B0.size (N2 q hq)), B1⟩
        refine hK.out _ _ (fun _ => hSP _ B1) ?_
        clear hK K' bw O2 N2 B0
        try simp only [Act.put, List.setIfInBounds_toArray, List.set_cons_zero, List.set_cons_succ]
        refine wpAnyL_all [8] (by kernel_rfl) (by simp) ?_
        refine (lateCons ?_ lateNil)
        · refine wpOpL_step _ rfl (fun K' hK => ?_)
          refine litThen kEn (e0.1, v, e0.2.2) (cs := #[.string e0.1, .int .u64 v, .int .u64 e0.2.2]) rfl (t := 32) rfl B1 ?_
          intro u2 pL e1 e2 B2 L k2
          have R2 := (k2 _ _ R1).1
          clear R1
          go_simp
          try rw [e1]
          try rw [e2]
          clear k2
          refine hK.out _ _ (fun _ => hSP _ B2) ?_
          clear hK K' B1
          try simp only [Act.put, List.setIfInBounds_toArray, List.set_cons_zero, List.set_cons_succ]
          refine wpAnyL_all [9] (by kernel_rfl) (by simp) ?_
          refine (lateCons ?_ lateNil)
          · refine wpOpL_step _ rfl (fun K' hK => ?_)
            refine R2.step rfl (.tmp 57) (.tmp 59) rfl rfl _ _ _ _ rfl L hby hly ?_
            intro A3 d3 u3 R3 k3
            have B3 := R3.bel
            clear R2 L k3
            refine hK.out _ _ (fun _ => hSP _ B3) ?_
            clear hK K' B2
            try simp only [Act.put, List.setIfInBounds_toArray, List.set_cons_zero, List.set_cons_succ]
            have f0 := (HB.out.below T1 B3).box.free 2
            have c0 := (cellB y1 B3).1
            have HR := Lib.hid R3
            clear R3
            refine wpAnyL_takeY 10 _ (.pointer (some ⟨g, 0, none⟩)) rfl (by kernel_rfl) (by kernel_rfl) (by kernel_rfl) (by kernel_rfl) (fun _ _ _ h => h) (Or.inl ⟨by rfl, ?_⟩) ?_
            · intro w'; go_simp
            simp only [Act.put, List.setIfInBounds_toArray, List.set_cons_zero, List.set_cons_succ]
            refine wpAnyL_takeY 11 _ (.pointer (some ⟨g, 2, none⟩)) rfl (by kernel_rfl) (by kernel_rfl) (by kernel_rfl) (by kernel_rfl) (fun _ _ _ h => h) (Or.inl ⟨by rfl, ?_⟩) ?_
            · intro w'; go_simp
            simp only [Act.put, List.setIfInBounds_toArray, List.set_cons_zero, List.set_cons_succ]
            refine wpAnyL_all [12] (by kernel_rfl) (by simp) ?_
            refine lateCons ?_ lateNil
            refine wpOpL_step _ rfl (fun K' hK => ?_)
            go_simp
            refine hK.out _ _ (fun h => absurd h (by decide)) ?_
            clear hK K'
            try simp only [Act.put, List.setIfInBounds_toArray, List.set_cons_zero, List.set_cons_succ]
            refine wpAnyL_done (by kernel_rfl) ?_ _
            dsimp only [NoPanic]
            obtain ⟨col5, M5, S5⟩ := HB.out.newRow T1 B3 hly HR.out.own HR.out.new
            have HD := Lib.hid (show DidRF col k w g _ _ from ⟨_, ⟨HG.out, _, _, M5⟩, HS.out.trans S5⟩)
            clear M5 S5 HR B3 hWo f0 c0 y1
            go_wp2
            go_ret
            exact ⟨rfl, HD.out⟩
      · refine wpOpL_step _ rfl (fun K' hK => ?_)
        refine litThen kEn (e0.1, v, e0.2.2) (cs := #[.string e0.1, .int .u64 v, .int .u64 e0.2.2]) rfl (t := 32) rfl B0 ?_
        intro u1 pL e1 e2 B1 L k1
        go_simp
        try rw [e1]
        try rw [e2]
        clear k1
        refine hK.out _ _ (fun _ => hSP _ B1) ?_
        clear hK K' B0
        try simp only [Act.put, List.setIfInBounds_toArray, List.set_cons_zero, List.set_cons_succ]
        refine wpAnyL_all [6] (by kernel_rfl) (by simp) ?_
        refine (lateCons ?_ lateNil)
        · refine wpOpL_step _ rfl (fun K' hK => ?_)
          go_simp
          refine (hWo _ B1).mono ?_
          rintro e u2 ⟨A2, c2, rfl, O2, N2, bw⟩
          have B2 := below_then B1 bw
          have R2 : MidR kEn W4 u2 (.slice A2 (n - 1) c2) (withoutE t.l i) := ⟨O2, (fun q hq => Nat.le_trans B1.size (N2 q hq)), B2⟩
          have L := L.below bw
          refine hK.out _ _ (fun _ => hSP _ B2) ?_
          clear hK K' bw O2 N2 B1
          try simp only [Act.put, List.setIfInBounds_toArray, List.set_cons_zero, List.set_cons_succ]
          refine wpAnyL_all [9] (by kernel_rfl) (by simp) ?_
          refine (lateCons ?_ lateNil)
          · refine wpOpL_step _ rfl (fun K' hK => ?_)
            refine R2.step rfl (.tmp 57) (.tmp 59) rfl rfl _ _ _ _ rfl L hby hly ?_
            intro A3 d3 u3 R3 k3
            have B3 := R3.bel
            clear R2 L k3
            refine hK.out _ _ (fun _ => hSP _ B3) ?_
            clear hK K' B2
            try simp only [Act.put, List.setIfInBounds_toArray, List.set_cons_zero, List.set_cons_succ]
            have f0 := (HB.out.below T1 B3).box.free 2
            have c0 := (cellB y1 B3).1
            have HR := Lib.hid R3
            clear R3
            refine wpAnyL_takeY 10 _ (.pointer (some ⟨g, 0, none⟩)) rfl (by kernel_rfl) (by kernel_rfl) (by kernel_rfl) (by kernel_rfl) (fun _ _ _ h => h) (Or.inl ⟨by rfl, ?_⟩) ?_
            · intro w'; go_simp
            simp only [Act.put, List.setIfInBounds_toArray, List.set_cons_zero, List.set_cons_succ]
            refine wpAnyL_takeY 11 _ (.pointer (some ⟨g, 2, none⟩)) rfl (by kernel_rfl) (by kernel_rfl) (by kernel_rfl) (by kernel_rfl) (fun _ _ _ h => h) (Or.inl ⟨by rfl, ?_⟩) ?_
            · intro w'; go_simp
            simp only [Act.put, List.setIfInBounds_toArray, List.set_cons_zero, List.set_cons_succ]
            refine wpAnyL_all [12] (by kernel_rfl) (by simp) ?_
            refine lateCons ?_ lateNil
            refine wpOpL_step _ rfl (fun K' hK => ?_)
            go_simp
            refine hK.out _ _ (fun h => absurd h (by decide)) ?_
            clear hK K'
            try simp only [Act.put, List.setIfInBounds_toArray, List.set_cons_zero, List.set_cons_succ]
            refine wpAnyL_done (by kernel_rfl) ?_ _
            dsimp only [NoPanic]
            obtain ⟨col5, M5, S5⟩ := HB.out.newRow T1 B3 hly HR.out.own HR.out.new
            have HD := Lib.hid (show DidRF col k w g _ _ from ⟨_, ⟨HG.out, _, _, M5⟩, HS.out.trans S5⟩)
            clear M5 S5 HR B3 hWo f0 c0 y1
            go_wp2
            go_ret
            exact ⟨rfl, HD.out⟩
    | none =>
      rw [hp] at hPl
      have hM : (w.setCell ⟨g, 4, none⟩ (.int .u64 y)).cell? ⟨g, 0, none⟩ = some (.int .i64 2) := H1.box.cell 0 rfl
      have hOk : (t.addF s x).1 = 0 := by
        by_cases hfu : t.l.length = t.m
        · rw [addF_full c1 c2 hf hp hfu]
        · rw [addF_room c1 c2 hf hp hfu]
      rw [hOk]
      have hDe := Lib.hid (fun (W : World) (hb : Below (w.setCell ⟨g, 4, none⟩ (.int .u64 y)).heap.size (w.setCell ⟨g, 4, none⟩ (.int .u64 y)) W) => rfDeduct hG hf (by omega) c1 hp hy (H1.below T1 hb) (T1.size hb.size))
      have HS1 := Lib.hid (And.intro S1 T1)
      clear hGA hOk H1 S1 T1 hRow HB hG hp
      go_enter Try.func22, Try.ntmps22
      go_wp2_with fail
      refine hF.mono ?_
      rintro e w1 ⟨rfl, hw⟩
      subst hw
      clear hF
      go_wp2_with fail
      generalize w.setCell ⟨g, 4, none⟩ (.int .u64 y) = W1 at *
      refine hPl.mono ?_
      rintro e w2 ⟨rfl, bp⟩
      have hM2 := (cellB hM bp).1
      have hD2 := hDe.out _ bp
      clear hPl hM y2 hDe
      go_wp2_with fail
      refine hD2.mono ?_
      rintro e w3 ⟨rfl, col3, H3, S3⟩
      have HDD := Lib.hid (show DidRF col k w g (t.addF s x).2 w3 from ⟨col3, H3, (HS1.out.1.trans (StepC.below HS1.out.2 bp)).trans S3⟩)
      clear hD2 H3 S3 HS1 bp
      go_wp2
      go_ret
      exact ⟨rfl, HDD.out⟩
end
end Go.Proofs.Ytgkokglngpbamaa

/- The specified table in memory: Take (mode Frequent). Conditions: none beyond those typed. -/
namespace Go.Proofs.Ytgkokglngpbamaa
open Go.ChangeShapes Go.WideShapes Go.ChangeAt Go.RowKit
set_option linter.unusedVariables false
set_option linter.unusedSimpArgs false
set_option maxRecDepth 100000

section
variable {P : Nat → Prop} {col col' : Col} {w w' : World} {k g : Nat} {t : TSt}
set_option maxHeartbeats 4000000 in
theorem rfTake (H : RefF col k w g t) (ht : Tidy col w) (s : ByteArray) :
    Calls Try.prog 23 #[.pointer (some ⟨g, 0, none⟩), .string s] w fun e w' => e = .returned (.tuple #[.agg (VE (t.getF s).1), .bool (t.getF s).2]) ∧ DidRF col k w g (t.take s) w' := by
  have b1 : Below w.heap.size w (w.alloc (.cells #[.string ⟨#[]⟩, .int .u64 0, .int .u64 0] 32)) := (Below.refl _ _).alloc (Nat.le_refl _) _
  have H1 := H.below ht b1
  have sA : StepC (Rng k) col w col (w.alloc (.cells #[.string ⟨#[]⟩, .int .u64 0, .int .u64 0] 32)) := StepC.below ht b1
  have ht1 := sA.tidy
  have X1 : BoxC col (w.alloc (.cells #[.string ⟨#[]⟩, .int .u64 0, .int .u64 0] 32)) w.heap.size 0 (VE zeroE) 32 := ⟨heap_alloc_new w _, ht _ (Nat.le_refl _)⟩
  obtain ⟨W1, hW1⟩ : ∃ W1, W1 = w.alloc (.cells #[.string ⟨#[]⟩, .int .u64 0, .int .u64 0] 32) := ⟨_, rfl⟩
  obtain ⟨G, hG⟩ : ∃ G, w.heap.size = G := ⟨_, rfl⟩
  rw [← hW1] at H1 X1 sA ht1 b1
  rw [hG] at X1
  have hGW : G ≤ W1.heap.size := by rw [← hG]; exact b1.size
  have hGt := rfGet H1 ht1 s
  have hk : 1 ≤ k := by obtain ⟨_, _, _, h⟩ := H; exact h.k1
  cases hp : placeE t.l s with
  | none =>
    have hV : t.getF s = (zeroE, false) := by unfold TSt.getF; rw [hp]
    have hT : t.take s = t := by unfold TSt.take; rw [hp]
    rw [hV] at hGt ⊢
    rw [hT]
    replace hGt : Calls Try.prog 26 #[.pointer (some ⟨g, 0, none⟩), .string s] W1 (fun e w' => e = .returned (.tuple #[.agg #[.string ⟨#[]⟩, .int .u64 0, .int .u64 0], .bool false]) ∧ Below W1.heap.size W1 w') := hGt
    go_enter Try.func23, Try.ntmps23
    go_wp2_with fail
    rw [← hW1]
    clear hW1
    refine hGt.mono ?_
    rintro e w2 ⟨rfl, b2⟩
    have b3 : Below W1.heap.size W1 (w2.alloc (.cells #[.string ⟨#[]⟩, .int .u64 0, .int .u64 0] 32)) := b2.alloc b2.size _
    have X3 : BoxC col (w2.alloc (.cells #[.string ⟨#[]⟩, .int .u64 0, .int .u64 0] 32)) G 0 (VE zeroE) 32 := X1.keep (P := fun _ => False) (StepC.below ht1 b3) (fun h => h)
    have y0 : (w2.alloc (.cells #[.string ⟨#[]⟩, .int .u64 0, .int .u64 0] 32)).cell? ⟨G, 0, none⟩ = some (.string ⟨#[]⟩) := X3.cell 0 rfl
    have y1 : (w2.alloc (.cells #[.string ⟨#[]⟩, .int .u64 0, .int .u64 0] 32)).cell? ⟨G, 1, none⟩ = some (.int .u64 0) := X3.cell 1 rfl
    have y3 : (w2.alloc (.cells #[.string ⟨#[]⟩, .int .u64 0, .int .u64 0] 32)).cell? ⟨G, 2, none⟩ = some (.int .u64 0) := X3.cell 2 rfl
    have n0 : (w2.alloc (.cells #[.string ⟨#[]⟩, .int .u64 0, .int .u64 0] 32)).cell? ⟨w2.heap.size, 0, none⟩ = some (.string ⟨#[]⟩) := (World.cell?_alloc_at (w := w2) _ _ _ _ rfl).trans rfl
    have n1 : (w2.alloc (.cells #[.string ⟨#[]⟩, .int .u64 0, .int .u64 0] 32)).cell? ⟨w2.heap.size, 1, none⟩ = some (.int .u64 0) := (World.cell?_alloc_at (w := w2) _ _ _ _ rfl).trans rfl
    have n2 : (w2.alloc (.cells #[.string ⟨#[]⟩, .int .u64 0, .int .u64 0] 32)).cell? ⟨w2.heap.size, 2, none⟩ = some (.int .u64 0) := (World.cell?_alloc_at (w := w2) _ _ _ _ rfl).trans rfl
    have f0 := X3.free 0
    have f1 := X3.free 1
    have f2 := X3.free 2
    have HX := Lib.hid (vbox_en X3 (a := zeroE) zeroE).heap
    have HB := (((below_then b1 b3).setCell (p := ⟨G, 0, none⟩) (by rw [hG]; exact Nat.le_refl _) (.string ⟨#[]⟩)).setCell (p := ⟨G, 1, none⟩) (by rw [hG]; exact Nat.le_refl _) (.int .u64 0)).setCell (p := ⟨G, 2, none⟩) (by rw [hG]; exact Nat.le_refl _) (.int .u64 0)
    have HD := Lib.hid (show DidRF col k w g t _ from ⟨col, H.below ht HB, StepC.below ht HB⟩)
    clear X1 X3 HB b3 b2 b1 hGt hG hGW H1 H sA
    go_wp2
    refine bodyPost_ret (results_cell_row2 rfl _ _ G _ _ (0, 0) _ rfl HX.out Try.underlying32 rfl (by kernel_rfl)) rfl ?_
    exact ⟨rfl, HD.out⟩
  | some i =>
    obtain ⟨e0, he0, -, hil⟩ := placeE_some hp
    obtain ⟨te, hte⟩ : ∃ te, t.tellF e0 = te := ⟨_, rfl⟩
    have hV : t.getF s = (te, true) := by unfold TSt.getF; rw [hp]; show (t.tellF ((t.l[i]?).getD zeroE), true) = _; rw [he0, ← hte]; rfl
    clear hte
    have hT : t.take s = { t with l := withoutE t.l i } := by unfold TSt.take; rw [hp]
    have hGF := H.1.take s
    rw [hV] at hGt ⊢
    rw [hT] at hGF ⊢
    have hG6 : t.l.length ≤ 64 := by have := H.1.len; have := H.1.m1; omega
    go_enter Try.func23, Try.ntmps23
    go_wp2_with fail
    rw [← hW1]
    clear hW1
    refine hGt.mono ?_
    rintro e w2 ⟨rfl, b2⟩
    have b3 : Below W1.heap.size W1 (w2.alloc (.cells (VE te) 32)) := b2.alloc b2.size _
    have X3 : BoxC col (w2.alloc (.cells (VE te) 32)) G 0 (VE zeroE) 32 := X1.keep (P := fun _ => False) (StepC.below ht1 b3) (fun h => h)
    have X6 : BoxC col (w2.alloc (.cells (VE te) 32)) w2.heap.size 0 (VE te) 32 := ⟨heap_alloc_new w2 _, (ht1.size b2.size) _ (Nat.le_refl _)⟩
    have H3 := H1.below ht1 b3
    have T1 := ht1.size b3.size
    have s3 := sA.trans (StepC.below (P := Rng k) ht1 b3)
    obtain ⟨G6, hG6'⟩ : ∃ G6, w2.heap.size = G6 := ⟨_, rfl⟩
    rw [hG6'] at X6
    go_upto_region 3 with fail
    generalize hW3 : w2.alloc (.cells #[.string te.1, .int .u64 te.2.1, .int .u64 te.2.2] 32) = W3 at *
    clear hW3 hG6' hGt
    obtain ⟨_, A, c, HB0⟩ := H3
    obtain ⟨n, hn⟩ : ∃ n, t.l.length = n := ⟨_, rfl⟩
    obtain ⟨b, rfl, _⟩ := HB0.row.own.head (by omega)
    have y1 : W3.cell? ⟨g, 2, none⟩ = some (.slice (some ⟨b, 0, none⟩) n c) := by rw [← hn]; exact HB0.box.cell 2 rfl
    have hRow := HB0.row.own.reads
    rw [hn] at hRow
    have hPl := fun (W : World) (hb : Below W3.heap.size W3 W) => place_any (hRow.below hb) (by omega) s
    unfold placeI at hPl
    rw [hp] at hPl
    have hWo := fun (W : World) (hb : Below W3.heap.size W3 W) => without_any (hRow.below hb) (by omega) (i := i) (by omega)
    have HB := Lib.hid HB0
    have hlw : (withoutE t.l i).length = n - 1 := by have := (without_at he0).1; omega
    have HL := Lib.hid hlw
    have X3' := Lib.hid X3
    have X6' := Lib.hid X6
    have HG := Lib.hid hGF
    have HS := Lib.hid s3
    clear HB0 hRow X3 X6 X1 H1 hGF hV hT hp he0 hlw s3 sA b3 b2 hil
    refine wp_region_noPanic ?_
    refine wp_region_late (fun w' => w'.cell? ⟨g, 2, none⟩ = some (.slice (some ⟨b, 0, none⟩) n c)) (fun j => [0, 1, 2, 3, 5, 6, 7, 9, 12, 13, 14].contains j) (by kernel_rfl) ?_
    intro u0 hu0
    have B0 : Below W3.heap.size W3 u0 := by rw [← hu0]; exact bdM _
    have hS : (fun w' => w'.cell? ⟨g, 2, none⟩ = some (.slice (some ⟨b, 0, none⟩) n c)) u0 := (cellB y1 B0).1
    clear hu0
    refine wpAnyL_takeY 0 _ (.pointer (some ⟨g, 0, none⟩)) rfl (by kernel_rfl) (by kernel_rfl) (by kernel_rfl) (by kernel_rfl) (fun _ _ _ h => h) (Or.inl ⟨by rfl, ?_⟩) ?_
    · intro w'; go_simp
    simp only [Act.put, List.setIfInBounds_toArray, List.set_cons_zero, List.set_cons_succ]
    refine wpAnyL_takeY 1 _ (.pointer (some ⟨g, 0, none⟩)) rfl (by kernel_rfl) (by kernel_rfl) (by kernel_rfl) (by kernel_rfl) (fun _ _ _ h => h) (Or.inl ⟨by rfl, ?_⟩) ?_
    · intro w'; go_simp
    simp only [Act.put, List.setIfInBounds_toArray, List.set_cons_zero, List.set_cons_succ]
    refine wpAnyL_takeY 2 _ (.pointer (some ⟨g, 0, none⟩)) rfl (by kernel_rfl) (by kernel_rfl) (by kernel_rfl) (by kernel_rfl) (fun _ _ _ h => h) (Or.inl ⟨by rfl, ?_⟩) ?_
    · intro w'; go_simp
    simp only [Act.put, List.setIfInBounds_toArray, List.set_cons_zero, List.set_cons_succ]
    refine wpAnyL_takeY 3 _ (.pointer (some ⟨g, 2, none⟩)) rfl (by kernel_rfl) (by kernel_rfl) (by kernel_rfl) (by kernel_rfl) (fun _ _ _ h => h) (Or.inl ⟨by rfl, ?_⟩) ?_
    · intro w'; go_simp
    simp only [Act.put, List.setIfInBounds_toArray, List.set_cons_zero, List.set_cons_succ]
    refine wpAnyL_takeY 5 _ (.pointer (some ⟨g, 0, none⟩)) rfl (by kernel_rfl) (by kernel_rfl) (by kernel_rfl) (by kernel_rfl) (fun _ _ _ h => h) (Or.inl ⟨by rfl, ?_⟩) ?_
    · intro w'; go_simp
    simp only [Act.put, List.setIfInBounds_toArray, List.set_cons_zero, List.set_cons_succ]
    refine wpAnyL_takeY 6 _ (.pointer (some ⟨g, 0, none⟩)) rfl (by kernel_rfl) (by kernel_rfl) (by kernel_rfl) (by kernel_rfl) (fun _ _ _ h => h) (Or.inl ⟨by rfl, ?_⟩) ?_
    · intro w'; go_simp
    simp only [Act.put, List.setIfInBounds_toArray, List.set_cons_zero, List.set_cons_succ]
    refine wpAnyL_takeY 7 _ (.pointer (some ⟨g, 2, none⟩)) rfl (by kernel_rfl) (by kernel_rfl) (by kernel_rfl) (by kernel_rfl) (fun _ _ _ h => h) (Or.inl ⟨by rfl, ?_⟩) ?_
    · intro w'; go_simp
    simp only [Act.put, List.setIfInBounds_toArray, List.set_cons_zero, List.set_cons_succ]
    refine wpAnyL_takeY 9 _ (.string s) rfl (by kernel_rfl) (by kernel_rfl) (by kernel_rfl) (by kernel_rfl) (fun _ _ _ h => h) (Or.inl ⟨by rfl, ?_⟩) ?_
    · intro w'; go_simp
    simp only [Act.put, List.setIfInBounds_toArray, List.set_cons_zero, List.set_cons_succ]
    refine wpAnyL_take 4 _ (.slice (some ⟨b, 0, none⟩) n c) rfl (by kernel_rfl) (by kernel_rfl) (by kernel_rfl) (by kernel_rfl) (fun _ _ _ h => h) (Or.inl ⟨by rfl, ?_⟩) hS ?_
    · intro w' hSw; go_simp
    simp only [Act.put, List.setIfInBounds_toArray, List.set_cons_zero, List.set_cons_succ]
    refine wpAnyL_take 8 _ (.slice (some ⟨b, 0, none⟩) n c) rfl (by kernel_rfl) (by kernel_rfl) (by kernel_rfl) (by kernel_rfl) (fun _ _ _ h => h) (Or.inl ⟨by rfl, ?_⟩) hS ?_
    · intro w' hSw; go_simp
    simp only [Act.put, List.setIfInBounds_toArray, List.set_cons_zero, List.set_cons_succ]
    clear hS
    refine wpAnyL_all [10] (by kernel_rfl) (by simp) ?_
    refine (lateCons ?_ lateNil)
    refine wpOpL_step _ rfl (fun K' hK => ?_)
    go_simp
    refine (hPl _ B0).mono ?_
    rintro e u1 ⟨rfl, bp⟩
    have B1 := below_then B0 bp
    refine hK.out _ _ (fun _ => (cellB y1 B1).1) ?_
    clear hK K' B0 bp
    try simp only [Act.put, List.setIfInBounds_toArray, List.set_cons_zero, List.set_cons_succ]
    refine wpAnyL_all [11] (by kernel_rfl) (by simp) ?_
    refine (lateCons ?_ lateNil)
    refine wpOpL_step _ rfl (fun K' hK => ?_)
    go_simp
    refine (hWo _ B1).mono ?_
    rintro e u2 ⟨A2, c2, rfl, O2, N2, bw⟩
    have B2 := below_then B1 bw
    refine hK.out _ _ (fun _ => (cellB y1 B2).1) ?_
    clear hK K' bw
    try simp only [Act.put, List.setIfInBounds_toArray, List.set_cons_zero, List.set_cons_succ]
    have f0 := (HB.out.below T1 B2).box.free 2
    have c0 := (cellB y1 B2).1
    refine wpAnyL_takeY 12 _ (.pointer (some ⟨g, 0, none⟩)) rfl (by kernel_rfl) (by kernel_rfl) (by kernel_rfl) (by kernel_rfl) (fun _ _ _ h => h) (Or.inl ⟨by rfl, ?_⟩) ?_
    · intro w'; go_simp
    simp only [Act.put, List.setIfInBounds_toArray, List.set_cons_zero, List.set_cons_succ]
    refine wpAnyL_takeY 13 _ (.pointer (some ⟨g, 2, none⟩)) rfl (by kernel_rfl) (by kernel_rfl) (by kernel_rfl) (by kernel_rfl) (fun _ _ _ h => h) (Or.inl ⟨by rfl, ?_⟩) ?_
    · intro w'; go_simp
    simp only [Act.put, List.setIfInBounds_toArray, List.set_cons_zero, List.set_cons_succ]
    refine wpAnyL_all [14] (by kernel_rfl) (by simp) ?_
    refine lateCons ?_ lateNil
    refine wpOpL_step _ rfl (fun K' hK => ?_)
    go_simp
    refine hK.out _ _ (fun h => absurd h (by decide)) ?_
    clear hK K'
    try simp only [Act.put, List.setIfInBounds_toArray, List.set_cons_zero, List.set_cons_succ]
    refine wpAnyL_done (by kernel_rfl) ?_ _
    dsimp only [NoPanic]
    obtain ⟨col5, M5, S5⟩ := HB.out.newRow T1 B2 HL.out O2 (fun q hq => Nat.le_trans B1.size (N2 q hq))
    have X9 := X3'.out.keep S5 (rng0 hk)
    have X10 := X6'.out.keep S5 (rng0 hk)
    have v0 : (u2.setCell ⟨g, 2, none⟩ (.slice A2 (n - 1) c2)).cell? ⟨G6, 0, none⟩ = some (.string te.1) := X10.cell 0 rfl
    have v1 : (u2.setCell ⟨g, 2, none⟩ (.slice A2 (n - 1) c2)).cell? ⟨G6, 1, none⟩ = some (.int .u64 te.2.1) := X10.cell 1 rfl
    have v2 : (u2.setCell ⟨g, 2, none⟩ (.slice A2 (n - 1) c2)).cell? ⟨G6, 2, none⟩ = some (.int .u64 te.2.2) := X10.cell 2 rfl
    have g0 : (u2.setCell ⟨g, 2, none⟩ (.slice A2 (n - 1) c2)).cell? ⟨G, 0, none⟩ = some (.string ⟨#[]⟩) := X9.cell 0 rfl
    have g1 : (u2.setCell ⟨g, 2, none⟩ (.slice A2 (n - 1) c2)).cell? ⟨G, 1, none⟩ = some (.int .u64 0) := X9.cell 1 rfl
    have g2 : (u2.setCell ⟨g, 2, none⟩ (.slice A2 (n - 1) c2)).cell? ⟨G, 2, none⟩ = some (.int .u64 0) := X9.cell 2 rfl
    have gf0 := X9.free 0
    have gf1 := X9.free 1
    have gf2 := X9.free 2
    obtain ⟨colf, M6, S6⟩ := RefF.inNew (t := { t with l := withoutE t.l i }) ⟨HG.out, _, _, M5⟩ (HS.out.trans S5) X9.col (by omega) X9.lt te
    have HD := Lib.hid (show DidRF col k w g { t with l := withoutE t.l i } _ from ⟨_, M6, S6⟩)
    have HX := Lib.hid (vbox_en X9 (a := zeroE) te).heap
    clear M5 S5 X9 X10 M6 S6 O2 N2 B1 B2 hPl hWo f0 c0 y1
    go_wp2
    refine bodyPost_ret (results_cell_row2 rfl _ _ G _ _ (0, 0) _ rfl HX.out Try.underlying32 rfl (by kernel_rfl)) rfl ?_
    exact ⟨rfl, HD.out⟩
end
end Go.Proofs.Ytgkokglngpbamaa

/- The specified table in memory: Swap, what it refuses. Conditions: none beyond those typed. -/
namespace Go.Proofs.Ytgkokglngpbamaa
open Go.ChangeShapes Go.WideShapes Go.ChangeAt Go.RowKit
set_option linter.unusedVariables false
set_option linter.unusedSimpArgs false
set_option maxRecDepth 100000

section
variable {P : Nat → Prop} {col col' : Col} {w w' : World} {k g : Nat} {t : TSt}
set_option maxHeartbeats 4000000 in
theorem rfSwapNone (H : RefF col k w g t) (ht : Tidy col w) (s : ByteArray) (e : En) (hp : placeE t.l s = none) :
    Calls Try.prog 25 #[.pointer (some ⟨g, 0, none⟩), .string s, .agg #[.string e.1, .int .u64 e.2.1, .int .u64 e.2.2]] w fun r w' => r = .returned (.tuple #[.agg (VE zeroE), .int .i64 8]) ∧ DidRF col k w g t w' := by
  have b0 : Below w.heap.size w (w.alloc (.cells #[.string e.1, .int .u64 e.2.1, .int .u64 e.2.2] 32)) := (Below.refl _ _).alloc (Nat.le_refl _) _
  have b1 : Below w.heap.size w ((w.alloc (.cells #[.string e.1, .int .u64 e.2.1, .int .u64 e.2.2] 32)).alloc (.cells #[.string ⟨#[]⟩, .int .u64 0, .int .u64 0] 32)) := b0.alloc b0.size _
  have T0 := ht.size b0.size
  have H1 := H.below ht b1
  have ht1 := ht.size b1.size
  have X1 : BoxC col ((w.alloc (.cells #[.string e.1, .int .u64 e.2.1, .int .u64 e.2.2] 32)).alloc (.cells #[.string ⟨#[]⟩, .int .u64 0, .int .u64 0] 32)) (w.alloc (.cells #[.string e.1, .int .u64 e.2.1, .int .u64 e.2.2] 32)).heap.size 0 (VE zeroE) 32 := ⟨heap_alloc_new _ _, T0 _ (Nat.le_refl _)⟩
  rw [show (w.alloc (.cells #[.string e.1, .int .u64 e.2.1, .int .u64 e.2.2] 32)).heap.size = w.heap.size + 1 by simp] at X1
  obtain ⟨W1, hW1⟩ : ∃ W1, W1 = ((w.alloc (.cells #[.string e.1, .int .u64 e.2.1, .int .u64 e.2.2] 32)).alloc (.cells #[.string ⟨#[]⟩, .int .u64 0, .int .u64 0] 32)) := ⟨_, rfl⟩
  rw [← hW1] at H1 X1 ht1 b1
  have hGt := rfGet H1 ht1 s
  rw [show t.getF s = (zeroE, false) by unfold TSt.getF; rw [hp]] at hGt
  replace hGt : Calls Try.prog 26 #[.pointer (some ⟨g, 0, none⟩), .string s] W1 (fun e w' => e = .returned (.tuple #[.agg #[.string ⟨#[]⟩, .int .u64 0, .int .u64 0], .bool false]) ∧ Below W1.heap.size W1 w') := hGt
  obtain ⟨G, hG⟩ : ∃ G, w.heap.size + 1 = G := ⟨_, rfl⟩
  rw [hG] at X1
  have hGW : w.heap.size ≤ G := by omega
  go_enter Try.func25, Try.ntmps25
  go_wp2_with fail
  rw [← hW1]
  clear hW1
  refine hGt.mono ?_
  rintro e w2 ⟨rfl, b2⟩
  have b3 : Below W1.heap.size W1 (w2.alloc (.cells #[.string ⟨#[]⟩, .int .u64 0, .int .u64 0] 32)) := b2.alloc b2.size _
  have X3 : BoxC col (w2.alloc (.cells #[.string ⟨#[]⟩, .int .u64 0, .int .u64 0] 32)) G 0 (VE zeroE) 32 := X1.keep (P := fun _ => False) (StepC.below ht1 b3) (fun h => h)
  have y0 : (w2.alloc (.cells #[.string ⟨#[]⟩, .int .u64 0, .int .u64 0] 32)).cell? ⟨G, 0, none⟩ = some (.string ⟨#[]⟩) := X3.cell 0 rfl
  have y1 : (w2.alloc (.cells #[.string ⟨#[]⟩, .int .u64 0, .int .u64 0] 32)).cell? ⟨G, 1, none⟩ = some (.int .u64 0) := X3.cell 1 rfl
  have y3 : (w2.alloc (.cells #[.string ⟨#[]⟩, .int .u64 0, .int .u64 0] 32)).cell? ⟨G, 2, none⟩ = some (.int .u64 0) := X3.cell 2 rfl
  have f0 := X3.free 0
  have f1 := X3.free 1
  have f2 := X3.free 2
  have HX := Lib.hid (vbox_en X3 (a := zeroE) zeroE).heap
  have HB := (((below_then b1 b3).setCell (p := ⟨G, 0, none⟩) hGW (.string ⟨#[]⟩)).setCell (p := ⟨G, 1, none⟩) hGW (.int .u64 0)).setCell (p := ⟨G, 2, none⟩) hGW (.int .u64 0)
  have HD := Lib.hid (show DidRF col k w g t _ from ⟨col, H.below ht HB, StepC.below ht HB⟩)
  clear X1 X3 HB b3 b2 b1 b0 hGt hG hGW H1 H
  go_wp2
  refine bodyPost_ret (results_cell_row2 rfl _ _ G _ _ (0, 0) _ rfl HX.out Try.underlying32 rfl (by kernel_rfl)) rfl ?_
  exact ⟨rfl, HD.out⟩
set_option maxHeartbeats 4000000 in
theorem rfSwapForm (H : RefF col k w g t) (ht : Tidy col w) (s : ByteArray) (e : En) {i : Nat} (hp : placeE t.l s = some i) (hz : e.1.size = 0) :
    Calls Try.prog 25 #[.pointer (some ⟨g, 0, none⟩), .string s, .agg #[.string e.1, .int .u64 e.2.1, .int .u64 e.2.2]] w fun r w' => r = .returned (.tuple #[.agg (VE zeroE), .int .i64 3]) ∧ DidRF col k w g t w' := by
  have b0 : Below w.heap.size w (w.alloc (.cells #[.string e.1, .int .u64 e.2.1, .int .u64 e.2.2] 32)) := (Below.refl _ _).alloc (Nat.le_refl _) _
  have b1 : Below w.heap.size w ((w.alloc (.cells #[.string e.1, .int .u64 e.2.1, .int .u64 e.2.2] 32)).alloc (.cells #[.string ⟨#[]⟩, .int .u64 0, .int .u64 0] 32)) := b0.alloc b0.size _
  have T0 := ht.size b0.size
  have H1 := H.below ht b1
  have ht1 := ht.size b1.size
  have X1 : BoxC col ((w.alloc (.cells #[.string e.1, .int .u64 e.2.1, .int .u64 e.2.2] 32)).alloc (.cells #[.string ⟨#[]⟩, .int .u64 0, .int .u64 0] 32)) (w.alloc (.cells #[.string e.1, .int .u64 e.2.1, .int .u64 e.2.2] 32)).heap.size 0 (VE zeroE) 32 := ⟨heap_alloc_new _ _, T0 _ (Nat.le_refl _)⟩
  rw [show (w.alloc (.cells #[.string e.1, .int .u64 e.2.1, .int .u64 e.2.2] 32)).heap.size = w.heap.size + 1 by simp] at X1
  obtain ⟨W1, hW1⟩ : ∃ W1, W1 = ((w.alloc (.cells #[.string e.1, .int .u64 e.2.1, .int .u64 e.2.2] 32)).alloc (.cells #[.string ⟨#[]⟩, .int .u64 0, .int .u64 0] 32)) := ⟨_, rfl⟩
  rw [← hW1] at H1 X1 ht1 b1
  have X5 : BoxC col W1 w.heap.size 0 (VE e) 32 := by
    rw [hW1]
    exact BoxC.keep (P := fun _ => False) ⟨heap_alloc_new _ _, ht _ (Nat.le_refl _)⟩ (StepC.alloc T0 _) (fun h => h)
  obtain ⟨e0, he0, -, hil⟩ := placeE_some hp
  have hb : e.1.toList.isEmpty = true := (ba_empty hz).1
  have hGt := rfGet H1 ht1 s
  obtain ⟨te, hte⟩ : ∃ te, t.tellF e0 = te := ⟨_, rfl⟩
  rw [show t.getF s = (te, true) by unfold TSt.getF; rw [hp]; show (t.tellF ((t.l[i]?).getD zeroE), true) = _; rw [he0, ← hte]; rfl] at hGt
  replace hGt : Calls Try.prog 26 #[.pointer (some ⟨g, 0, none⟩), .string s] W1 (fun e w' => e = .returned (.tuple #[.agg #[.string te.1, .int .u64 te.2.1, .int .u64 te.2.2], .bool true]) ∧ Below W1.heap.size W1 w') := hGt
  obtain ⟨G5, hG5⟩ : ∃ G5, w.heap.size = G5 := ⟨_, rfl⟩
  obtain ⟨G, hG⟩ : ∃ G, G5 + 1 = G := ⟨_, rfl⟩
  rw [hG5, hG] at X1
  rw [hG5] at X5
  have hGW : w.heap.size ≤ G := by omega
  go_enter Try.func25, Try.ntmps25
  go_wp2_with fail
  rw [← hW1]
  clear hW1
  refine hGt.mono ?_
  rintro eR w2 ⟨rfl, b2⟩
  have b3 : Below W1.heap.size W1 (w2.alloc (.cells #[.string te.1, .int .u64 te.2.1, .int .u64 te.2.2] 32)) := b2.alloc b2.size _
  have X3 : BoxC col (w2.alloc (.cells #[.string te.1, .int .u64 te.2.1, .int .u64 te.2.2] 32)) G 0 (VE zeroE) 32 := X1.keep (P := fun _ => False) (StepC.below ht1 b3) (fun h => h)
  have X6 := X5.keep (P := fun _ => False) (StepC.below ht1 b3) (fun h => h)
  have v0 : (w2.alloc (.cells #[.string te.1, .int .u64 te.2.1, .int .u64 te.2.2] 32)).cell? ⟨G5, 0, none⟩ = some (.string e.1) := X6.cell 0 rfl
  have y0 : (w2.alloc (.cells #[.string te.1, .int .u64 te.2.1, .int .u64 te.2.2] 32)).cell? ⟨G, 0, none⟩ = some (.string ⟨#[]⟩) := X3.cell 0 rfl
  have y1 : (w2.alloc (.cells #[.string te.1, .int .u64 te.2.1, .int .u64 te.2.2] 32)).cell? ⟨G, 1, none⟩ = some (.int .u64 0) := X3.cell 1 rfl
  have y3 : (w2.alloc (.cells #[.string te.1, .int .u64 te.2.1, .int .u64 te.2.2] 32)).cell? ⟨G, 2, none⟩ = some (.int .u64 0) := X3.cell 2 rfl
  have f0 := X3.free 0
  have f1 := X3.free 1
  have f2 := X3.free 2
  have HX := Lib.hid (vbox_en X3 (a := zeroE) zeroE).heap
  have HB := (((below_then b1 b3).setCell (p := ⟨G, 0, none⟩) hGW (.string ⟨#[]⟩)).setCell (p := ⟨G, 1, none⟩) hGW (.int .u64 0)).setCell (p := ⟨G, 2, none⟩) hGW (.int .u64 0)
  have HD := Lib.hid (show DidRF col k w g t _ from ⟨col, H.below ht HB, StepC.below ht HB⟩)
  clear X5 X6 hG5 hz hp he0 hte X1 X3 HB b3 b2 b1 b0 hGt hG hGW H1 H
  go_wp2
  refine bodyPost_ret (results_cell_row2 rfl _ _ G _ _ (0, 0) _ rfl HX.out Try.underlying32 rfl (by kernel_rfl)) rfl ?_
  exact ⟨rfl, HD.out⟩
end
end Go.Proofs.Ytgkokglngpbamaa
