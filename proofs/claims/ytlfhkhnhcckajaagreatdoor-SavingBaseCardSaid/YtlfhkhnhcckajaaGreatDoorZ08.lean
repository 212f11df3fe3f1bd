/- Words laid together in one text. Conditions: none beyond those typed. -/
import Derived.Test.YtlfhkhnhcckajaaGreatDoorZ07
import Derived.Test.YtlfhkhnhcckajaaGreatDoorTm
import Derived.Deep.RegionHeld3
import Derived.Deep.CutRange
import Derived.StillTailTactics
import Derived.BigRegion
import Derived.Test.YtlfhkhnhcckajaaGreatDoorZ04
/- The specified table in memory: Add, any weight. Conditions: none beyond those typed. -/
namespace Go.Proofs.YtlfhkhnhcckajaaGreatDoor
open Go.ChangeShapes Go.WideShapes Go.ChangeAt Go.RowKit
set_option linter.unusedVariables false
set_option linter.unusedSimpArgs false
set_option maxRecDepth 100000

section
variable {P : Nat → Prop} {col col' : Col} {w w' : World} {k g : Nat} {t : TSt}
set_option maxHeartbeats 4000000 in
theorem rtAdd (H : RefT col k w g t) (ht : Tidy col w) (s : ByteArray) (x : Int) (hx : 0 ≤ x ∧ x ≤ 18446744073709551615) :
    Calls Tryz.prog 21 #[.pointer (some ⟨g, 0, none⟩), .string s, .int .u64 x] w fun e w' => e = .returned (.int .i64 (t.addS s x).1) ∧ DidRT col k w g (t.addS s x).2 w' := by
  have HD0 := Lib.hid (show DidRT col k w g t w from ⟨col, H, StepC.refl ht⟩)
  have H0 := Lib.hid H
  obtain ⟨hG, A, c, HB⟩ := H
  have hs0 := hG.sum0
  have hst := hG.top
  by_cases c1 : s.size = 0
  · have hb : s.toList.isEmpty = true := (ba_empty c1).1
    rw [addS_form c1]
    clear HB hG c1
    go_enter Tryz.func21, Tryz.ntmps21
    go_wp2
    go_ret
    exact ⟨rfl, HD0.out⟩
  have hb : s.toList.isEmpty = false := ba_some (by omega)
  by_cases c2 : x = 0
  · have hb2 : (x == 0) = true := beq_iff_eq.2 c2
    rw [addS_zero c1 c2]
    clear HB hG c1 c2
    go_enter Tryz.func21, Tryz.ntmps21
    go_wp2
    go_ret
    exact ⟨rfl, HD0.out⟩
  have hb2 : (x == 0) = false := beq_false_of_ne c2
  have hF := rfits_any t.sum x w ⟨hs0, by omega⟩ hx
  have x4 : w.cell? ⟨g, 4, none⟩ = some (.int .u64 t.sum) := HB.box.cell 4 rfl
  cases hf : fitsB t.sum x with
  | false =>
    rw [hf] at hF
    rw [addS_over c1 c2 hf]
    clear HB hG c1 c2
    go_enter Tryz.func21, Tryz.ntmps21
    go_wp2_with fail
    refine hF.mono ?_
    rintro e w1 ⟨rfl, hw⟩
    subst hw
    go_wp2
    go_ret
    exact ⟨rfl, HD0.out⟩
  | true =>
    rw [hf] at hF
    have hfl := fits_le hf
    have hGA := hG.addS s hx.1
    have hsw : IntKind.u64.wrap (t.sum + x) = t.sum + x := IntWalk.u64_in _ ⟨by omega, by omega⟩
    obtain ⟨y, hy⟩ : ∃ y, t.sum + x = y := ⟨_, rfl⟩
    rw [hy] at hsw
    have f4 := HB.box.free 4
    obtain ⟨H1, S1⟩ := HB.setSum ht y
    have T1 := S1.tidy
    obtain ⟨n, hn⟩ : ∃ n, t.l.length = n := ⟨_, rfl⟩
    have hn6 : n ≤ 64 := by have := hG.len; have := hG.m1; omega
    have y2 : (w.setCell ⟨g, 4, none⟩ (.int .u64 y)).cell? ⟨g, 2, none⟩ = some (.slice A n c) := by rw [← hn]; exact H1.box.cell 2 rfl
    have hRow : RdG kEn (w.setCell ⟨g, 4, none⟩ (.int .u64 y)) A n c t.l := by rw [← hn]; exact H1.row.own.reads
    have hPl := place_any hRow (by omega) s
    unfold placeI at hPl
    cases hp : placeE t.l s with
    | some i =>
      rw [hp] at hPl
      obtain ⟨e0, he0, hes, hil⟩ := placeE_some hp
      rw [addS_own c1 c2 hf hp he0 hes] at hGA ⊢
      obtain ⟨b0, b1, b2, b3⟩ := hG.bd (List.mem_of_getElem? he0)
      have how : IntKind.u64.wrap (e0.2.1 + x) = e0.2.1 + x := IntWalk.u64_in _ ⟨by omega, by omega⟩
      obtain ⟨v, hv⟩ : ∃ v, e0.2.1 + x = v := ⟨_, rfl⟩
      rw [hv] at how
      rw [hy, hv] at hGA ⊢
      go_enter Tryz.func21, Tryz.ntmps21
      go_wp2_with fail
      refine hF.mono ?_
      rintro e w1 ⟨rfl, hw⟩
      subst hw
      clear hF
      go_wp2_with fail
      generalize w.setCell ⟨g, 4, none⟩ (.int .u64 y) = W1 at *
      refine hPl.mono ?_
      rintro e w2 ⟨rfl, bp⟩
      have H2 := H1.below T1 bp
      have T2 := T1.size bp.size
      have S2 := S1.trans (StepC.below T1 bp)
      have z2 : w2.cell? ⟨g, 2, none⟩ = some (.slice A n c) := (cellB y2 bp).1
      have hR2 := hRow.below bp
      obtain ⟨b, rfl, _⟩ : ∃ b, A = some ⟨b, 0, none⟩ ∧ b < w2.heap.size := by have := H2.row.own.head (Nat.lt_of_le_of_lt (Nat.zero_le i) hil); exact this
      obtain ⟨b', o', e', hb', he', q0, q1, q2⟩ := hR2.atEn (j := i) (by omega)
      injection hb' with hb'; injection hb' with h1 h2; subst h1 h2
      rw [he0] at he'; injection he' with he'; subst he'
      have hin : (i : Int) < (n : Int) := by omega
      have hcap := hR2.cap
      have hmax := hR2.max
      simp only [Nat.zero_add] at q0 q1 q2
      clear hPl bp y2 hes hp H1 hRow T1 S1
      go_upto_region 12 with fail
      obtain ⟨G, hG⟩ : ∃ G, w2.heap.size = G := ⟨_, rfl⟩
      have b4 : Below w2.heap.size w2 (w2.alloc (.cells #[.string e0.1, .int .u64 v, .int .u64 e0.2.2] 32)) := (Below.refl _ _).alloc (Nat.le_refl _) _
      have XG : BoxC col (w2.alloc (.cells #[.string e0.1, .int .u64 v, .int .u64 e0.2.2] 32)) G 0 (VE (e0.1, v, e0.2.2)) 32 := by rw [← hG]; exact ⟨heap_alloc_new w2 _, T2 _ (Nat.le_refl _)⟩
      try rw [hG]
      generalize hW4 : w2.alloc (.cells #[.string e0.1, .int .u64 v, .int .u64 e0.2.2] 32) = W4 at *
      have y1 : W4.cell? ⟨g, 2, none⟩ = some (.slice (some ⟨b, 0, none⟩) n c) := (cellB z2 b4).1
      have g0 : W4.cell? ⟨G, 0, none⟩ = some (.string e0.1) := XG.cell 0 rfl
      have g1 : W4.cell? ⟨G, 1, none⟩ = some (.int .u64 v) := XG.cell 1 rfl
      have g2 : W4.cell? ⟨G, 2, none⟩ = some (.int .u64 e0.2.2) := XG.cell 2 rfl
      have HB := Lib.hid (H2.below T2 b4)
      have HS := Lib.hid (S2.trans (StepC.below (P := Rng k) T2 b4))
      have T1 := T2.size b4.size
      have hWo := fun (W : World) (hb : Below W4.heap.size W4 W) => without_any ((hR2.below b4).below hb) (by omega) (i := i) (by omega)
      have hlw : (withoutE t.l i).length = n - 1 := by have := (without_at he0).1; omega
      have hly : (withoutE t.l i ++ [(e0.1, v, e0.2.2)]).length = n - 1 + 1 := by rw [List.length_append, hlw]; rfl
      have hby : (withoutE t.l i).length + 1 ≤ 1000000000 := by omega
      have HG := Lib.hid hGA
      clear hGA H2 S2 z2 hR2 XG hW4 b4 T2 hG q0 q1 q2 hlw he0
      have hSP : ∀ W, Below W4.heap.size W4 W → (fun w' => w'.cell? ⟨g, 2, none⟩ = some (.slice (some ⟨b, 0, none⟩) n c) ∧ w'.cell? ⟨G, 0, none⟩ = some (.string e0.1) ∧ w'.cell? ⟨G, 1, none⟩ = some (.int .u64 v) ∧ w'.cell? ⟨G, 2, none⟩ = some (.int .u64 e0.2.2)) W := fun W B => ⟨(cellB y1 B).1, (cellB g0 B).1, (cellB g1 B).1, (cellB g2 B).1⟩
      refine wp_region_noPanic ?_
      refine wp_region_late (fun w' => w'.cell? ⟨g, 2, none⟩ = some (.slice (some ⟨b, 0, none⟩) n c) ∧ w'.cell? ⟨G, 0, none⟩ = some (.string e0.1) ∧ w'.cell? ⟨G, 1, none⟩ = some (.int .u64 v) ∧ w'.cell? ⟨G, 2, none⟩ = some (.int .u64 e0.2.2)) (fun j => [0, 1, 2, 3, 5, 10, 11, 12].contains j) (by kernel_rfl) ?_
      intro u0 hu0
      have B0 : Below W4.heap.size W4 u0 := by rw [← hu0]; exact bdM _
      have hS : (fun w' => w'.cell? ⟨g, 2, none⟩ = some (.slice (some ⟨b, 0, none⟩) n c) ∧ w'.cell? ⟨G, 0, none⟩ = some (.string e0.1) ∧ w'.cell? ⟨G, 1, none⟩ = some (.int .u64 v) ∧ w'.cell? ⟨G, 2, none⟩ = some (.int .u64 e0.2.2)) u0 := hSP _ B0
      clear hu0
      refine wpAnyL_takeY 0 _ (.pointer (some ⟨g, 0, none⟩)) rfl (by kernel_rfl) (by kernel_rfl) (by kernel_rfl) (by kernel_rfl) (fun _ _ _ h => h) (Or.inl ⟨by rfl, ?_⟩) ?_
      · intro w'; go_simp
      simp only [Act.put, List.setIfInBounds_toArray, List.set_cons_zero, List.set_cons_succ]
      refine wpAnyL_takeY 1 _ (.pointer (some ⟨g, 0, none⟩)) rfl (by kernel_rfl) (by kernel_rfl) (by kernel_rfl) (by kernel_rfl) (fun _ _ _ h => h) (Or.inl ⟨by rfl, ?_⟩) ?_
      · intro w'; go_simp
      simp only [Act.put, List.setIfInBounds_toArray, List.set_cons_zero, List.set_cons_succ]
      refine wpAnyL_takeY 2 _ (.pointer (some ⟨g, 0, none⟩)) rfl (by kernel_rfl) (by kernel_rfl) (by kernel_rfl) (by kernel_rfl) (fun _ _ _ h => h) (Or.inl ⟨by rfl, ?_⟩) ?_
      · intro w'; go_simp
      simp only [Act.put, List.setIfInBounds_toArray, List.set_cons_zero, List.set_cons_succ]
      refine wpAnyL_takeY 3 _ (.pointer (some ⟨g, 2, none⟩)) rfl (by kernel_rfl) (by kernel_rfl) (by kernel_rfl) (by kernel_rfl) (fun _ _ _ h => h) (Or.inl ⟨by rfl, ?_⟩) ?_
      · intro w'; go_simp
      simp only [Act.put, List.setIfInBounds_toArray, List.set_cons_zero, List.set_cons_succ]
      refine wpAnyL_takeY 5 _ (.int .i64 (i : Int)) rfl (by kernel_rfl) (by kernel_rfl) (by kernel_rfl) (by kernel_rfl) (fun _ _ _ h => h) (Or.inl ⟨by rfl, ?_⟩) ?_
      · intro w'; go_simp
      simp only [Act.put, List.setIfInBounds_toArray, List.set_cons_zero, List.set_cons_succ]
      refine wpAnyL_take 4 _ (.slice (some ⟨b, 0, none⟩) n c) rfl (by kernel_rfl) (by kernel_rfl) (by kernel_rfl) (by kernel_rfl) (fun _ _ _ h => h) (Or.inl ⟨by rfl, ?_⟩) hS ?_
      · rintro w' ⟨hS0, hS1, hS2, hS3⟩; go_simp
      simp only [Act.put, List.setIfInBounds_toArray, List.set_cons_zero, List.set_cons_succ]
      refine wpAnyL_take 7 _ (.agg #[.string e0.1, .int .u64 v, .int .u64 e0.2.2]) rfl (by kernel_rfl) (by kernel_rfl) (by kernel_rfl) (by kernel_rfl) (fun _ _ _ h => h) (Or.inl ⟨by rfl, ?_⟩) hS ?_
      · rintro w' ⟨hS0, hS1, hS2, hS3⟩; go_simp
      simp only [Act.put, List.setIfInBounds_toArray, List.set_cons_zero, List.set_cons_succ]
      clear hS
      refine wpAnyL_all [6, 8] (by kernel_rfl) (by simp) ?_
      refine (lateCons ?_ (lateCons ?_ lateNil))
      · refine wpOpL_step _ rfl (fun K' hK => ?_)
        go_simp
        refine (hWo _ B0).mono ?_
        rintro e u1 ⟨A2, c2, rfl, O2, N2, bw⟩
        have B1 := below_then B0 bw
        have R1 : MidR kEn W4 u1 (.slice A2 (n - 1) c2) (withoutE t.l i) := ⟨O2, (fun q hq => Nat.le_trans B0.size (N2 q hq)), B1⟩
        refine hK.out _ _ (fun _ => hSP _ B1) ?_
        clear hK K' bw O2 N2 B0
        try simp only [Act.put, List.setIfInBounds_toArray, List.set_cons_zero, List.set_cons_succ]
        refine wpAnyL_all [8] (by kernel_rfl) (by simp) ?_
        refine (lateCons ?_ lateNil)
        · refine wpOpL_step _ rfl (fun K' hK => ?_)
          refine litThen kEn (e0.1, v, e0.2.2) (cs := #[.string e0.1, .int .u64 v, .int .u64 e0.2.2]) rfl (t := 32) rfl B1 ?_
          intro u2 pL e1 e2 B2 L k2
          have R2 := (k2 _ _ R1).1
          clear R1
          go_simp
          try rw [e1]
          try rw [e2]
          clear k2
          refine hK.out _ _ (fun _ => hSP _ B2) ?_
          clear hK K' B1
          try simp only [Act.put, List.setIfInBounds_toArray, List.set_cons_zero, List.set_cons_succ]
          refine wpAnyL_all [9] (by kernel_rfl) (by simp) ?_
          refine (lateCons ?_ lateNil)
          · refine wpOpL_step _ rfl (fun K' hK => ?_)
            refine R2.step rfl (.tmp 57) (.tmp 59) rfl rfl _ _ _ _ rfl L hby hly ?_
            intro A3 d3 u3 R3 k3
            have B3 := R3.bel
            clear R2 L k3
            refine hK.out _ _ (fun _ => hSP _ B3) ?_
            clear hK K' B2
            try simp only [Act.put, List.setIfInBounds_toArray, List.set_cons_zero, List.set_cons_succ]
            have f0 := (HB.out.below T1 B3).box.free 2
            have c0 := (cellB y1 B3).1
            have HR := Lib.hid R3
            clear R3
            refine wpAnyL_takeY 10 _ (.pointer (some ⟨g, 0, none⟩)) rfl (by kernel_rfl) (by kernel_rfl) (by kernel_rfl) (by kernel_rfl) (fun _ _ _ h => h) (Or.inl ⟨by rfl, ?_⟩) ?_
            · intro w'; go_simp
            simp only [Act.put, List.setIfInBounds_toArray, List.set_cons_zero, List.set_cons_succ]
            refine wpAnyL_takeY 11 _ (.pointer (some ⟨g, 2, none⟩)) rfl (by kernel_rfl) (by kernel_rfl) (by kernel_rfl) (by kernel_rfl) (fun _ _ _ h => h) (Or.inl ⟨by rfl, ?_⟩) ?_
            · intro w'; go_simp
            simp only [Act.put, List.setIfInBounds_toArray, List.set_cons_zero, List.set_cons_succ]
            refine wpAnyL_all [12] (by kernel_rfl) (by simp) ?_
            refine lateCons ?_ lateNil
            refine wpOpL_step _ rfl (fun K' hK => ?_)
            go_simp
            refine hK.out _ _ (fun h => absurd h (by decide)) ?_
            clear hK K'
            try simp only [Act.put, List.setIfInBounds_toArray, List.set_cons_zero, List.set_cons_succ]
            refine wpAnyL_done (by kernel_rfl) ?_ _
            dsimp only [NoPanic]
            obtain ⟨col5, M5, S5⟩ := HB.out.newRow T1 B3 hly HR.out.own HR.out.new
            have HD := Lib.hid (show DidRT col k w g _ _ from ⟨_, ⟨HG.out, _, _, M5⟩, HS.out.trans S5⟩)
            clear M5 S5 HR B3 hWo f0 c0 y1
            go_wp2
            go_ret
            exact ⟨rfl, HD.out⟩
      · refine wpOpL_step _ rfl (fun K' hK => ?_)
        refine litThen kEn (e0.1, v, e0.2.2) (cs := #[.string e0.1, .int .u64 v, .int .u64 e0.2.2]) rfl (t := 32) rfl B0 ?_
        intro u1 pL e1 e2 B1 L k1
        go_simp
        try rw [e1]
        try rw [e2]
        clear k1
        refine hK.out _ _ (fun _ => hSP _ B1) ?_
        clear hK K' B0
        try simp only [Act.put, List.setIfInBounds_toArray, List.set_cons_zero, List.set_cons_succ]
        refine wpAnyL_all [6] (by kernel_rfl) (by simp) ?_
        refine (lateCons ?_ lateNil)
        · refine wpOpL_step _ rfl (fun K' hK => ?_)
          go_simp
          refine (hWo _ B1).mono ?_
          rintro e u2 ⟨A2, c2, rfl, O2, N2, bw⟩
          have B2 := below_then B1 bw
          have R2 : MidR kEn W4 u2 (.slice A2 (n - 1) c2) (withoutE t.l i) := ⟨O2, (fun q hq => Nat.le_trans B1.size (N2 q hq)), B2⟩
          have L := L.below bw
          refine hK.out _ _ (fun _ => hSP _ B2) ?_
          clear hK K' bw O2 N2 B1
          try simp only [Act.put, List.setIfInBounds_toArray, List.set_cons_zero, List.set_cons_succ]
          refine wpAnyL_all [9] (by kernel_rfl) (by simp) ?_
          refine (lateCons ?_ lateNil)
          · refine wpOpL_step _ rfl (fun K' hK => ?_)
            refine R2.step rfl (.tmp 57) (.tmp 59) rfl rfl _ _ _ _ rfl L hby hly ?_
            intro A3 d3 u3 R3 k3
            have B3 := R3.bel
            clear R2 L k3
            refine hK.out _ _ (fun _ => hSP _ B3) ?_
            clear hK K' B2
            try simp only [Act.put, List.setIfInBounds_toArray, List.set_cons_zero, List.set_cons_succ]
            have f0 := (HB.out.below T1 B3).box.free 2
            have c0 := (cellB y1 B3).1
            have HR := Lib.hid R3
            clear R3
            refine wpAnyL_takeY 10 _ (.pointer (some ⟨g, 0, none⟩)) rfl (by kernel_rfl) (by kernel_rfl) (by kernel_rfl) (by kernel_rfl) (fun _ _ _ h => h) (Or.inl ⟨by rfl, ?_⟩) ?_
            · intro w'; go_simp
            simp only [Act.put, List.setIfInBounds_toArray, List.set_cons_zero, List.set_cons_succ]
            refine wpAnyL_takeY 11 _ (.pointer (some ⟨g, 2, none⟩)) rfl (by kernel_rfl) (by kernel_rfl) (by kernel_rfl) (by kernel_rfl) (fun _ _ _ h => h) (Or.inl ⟨by rfl, ?_⟩) ?_
            · intro w'; go_simp
            simp only [Act.put, List.setIfInBounds_toArray, List.set_cons_zero, List.set_cons_succ]
            refine wpAnyL_all [12] (by kernel_rfl) (by simp) ?_
            refine lateCons ?_ lateNil
            refine wpOpL_step _ rfl (fun K' hK => ?_)
            go_simp
            refine hK.out _ _ (fun h => absurd h (by decide)) ?_
            clear hK K'
            try simp only [Act.put, List.setIfInBounds_toArray, List.set_cons_zero, List.set_cons_succ]
            refine wpAnyL_done (by kernel_rfl) ?_ _
            dsimp only [NoPanic]
            obtain ⟨col5, M5, S5⟩ := HB.out.newRow T1 B3 hly HR.out.own HR.out.new
            have HD := Lib.hid (show DidRT col k w g _ _ from ⟨_, ⟨HG.out, _, _, M5⟩, HS.out.trans S5⟩)
            clear M5 S5 HR B3 hWo f0 c0 y1
            go_wp2
            go_ret
            exact ⟨rfl, HD.out⟩
    | none =>
      rw [hp] at hPl
      have hM : (w.setCell ⟨g, 4, none⟩ (.int .u64 y)).cell? ⟨g, 0, none⟩ = some (.int .i64 1) := H1.box.cell 0 rfl
      have hm1 : (w.setCell ⟨g, 4, none⟩ (.int .u64 y)).cell? ⟨g, 1, none⟩ = some (.int .i64 t.m) := H1.box.cell 1 rfl
      have hb0 : (w.setCell ⟨g, 4, none⟩ (.int .u64 y)).cell? ⟨g, 3, none⟩ = some (.int .u64 t.base) := H1.box.cell 3 rfl
      by_cases hfull : t.l.length = t.m
      · exact rtAddFull H0.out ht s x hx c1 c2 hf hp hfull
      · rw [addS_room c1 c2 hf hp hfull] at hGA ⊢
        rw [hy] at hGA ⊢
        have hnm : ¬ ((n : Int) = (t.m : Int)) := by omega
        have HG := Lib.hid hGA
        clear hGA
        go_enter Tryz.func21, Tryz.ntmps21
        go_wp2_with fail
        refine hF.mono ?_
        rintro e w1 ⟨rfl, hw⟩
        subst hw
        clear hF
        go_wp2_with fail
        generalize w.setCell ⟨g, 4, none⟩ (.int .u64 y) = W1 at *
        refine hPl.mono ?_
        rintro e w2 ⟨rfl, bp⟩
        have H2 := H1.below T1 bp
        have T2 := T1.size bp.size
        have S2 := S1.trans (StepC.below T1 bp)
        have z0 : w2.cell? ⟨g, 0, none⟩ = some (.int .i64 1) := (cellB hM bp).1
        have z1 : w2.cell? ⟨g, 1, none⟩ = some (.int .i64 t.m) := (cellB hm1 bp).1
        have z2 : w2.cell? ⟨g, 2, none⟩ = some (.slice A n c) := (cellB y2 bp).1
        have z3 : w2.cell? ⟨g, 3, none⟩ = some (.int .u64 t.base) := (cellB hb0 bp).1
        have HH2 := Lib.hid H2
        have HS2 := Lib.hid S2
        have HT2 := Lib.hid T2
        clear hPl bp y2 hp H1 hRow T1 S1 hM hm1 hb0 H2 S2 T2
        go_upto_region 17 with fail
        go_region
        go_upto_region 27 with fail
        have b5 := (Below.refl w2.heap.size w2).drew
        obtain ⟨t5, ht5⟩ : ∃ t5 : TSt, t5 = { t with sum := y } := ⟨_, rfl⟩
        have hB5 := HH2.out.below HT2.out b5
        rw [← ht5] at hB5
        obtain ⟨A5, c5, HB⟩ : ∃ A5 c5, Hid (RefTB col k w2.drew g t5 A5 c5) := ⟨_, _, Lib.hid hB5⟩
        have HS := Lib.hid (HS2.out.trans (StepC.below (P := Rng k) HT2.out b5))
        have T1 := HT2.out.size b5.size
        have HG5 : GoodT { t5 with l := t5.l ++ [(s, x, t5.base)] } := by rw [ht5]; exact HG.out
        have HE := Lib.hid (show { t5 with l := t5.l ++ [(s, x, t5.base)] } = ({ t with l := t.l ++ [(s, x, t.base)], sum := y } : TSt) by rw [ht5])
        have hly : (t5.l ++ [(s, x, t5.base)]).length = n + 1 := by rw [ht5]; simp [hn]
        have hby : t5.l.length + 1 ≤ 1000000000 := by rw [ht5]; show t.l.length + 1 ≤ _; omega
        clear z0 z1 z2 z3 HH2 HS2 HT2 ht5 hB5 HG
        have HG := Lib.hid HG5
        clear HG5
        generalize w2.drew = W5 at *
        have hSP : ∀ W, Below W5.heap.size W5 W → (fun w' => w'.cell? ⟨g, 2, none⟩ = some (.slice A5 t5.l.length c5) ∧ w'.cell? ⟨g, 3, none⟩ = some (.int .u64 t5.base)) W := fun W B => ⟨(HB.out.below T1 B).box.cell 2 rfl, (HB.out.below T1 B).box.cell 3 rfl⟩
        refine wp_region_noPanic ?_
        refine wp_region_late (fun w' => w'.cell? ⟨g, 2, none⟩ = some (.slice A5 t5.l.length c5) ∧ w'.cell? ⟨g, 3, none⟩ = some (.int .u64 t5.base)) (fun j => [0, 1, 2, 3, 5, 6, 7, 8, 9, 14, 15, 16].contains j) (by kernel_rfl) ?_
        intro u0 hu0
        have B0 : Below W5.heap.size W5 u0 := by rw [← hu0]; exact bdM _
        have hS : (fun w' => w'.cell? ⟨g, 2, none⟩ = some (.slice A5 t5.l.length c5) ∧ w'.cell? ⟨g, 3, none⟩ = some (.int .u64 t5.base)) u0 := hSP _ B0
        clear hu0
        refine wpAnyL_takeY 0 _ (.pointer (some ⟨g, 0, none⟩)) rfl (by kernel_rfl) (by kernel_rfl) (by kernel_rfl) (by kernel_rfl) (fun _ _ _ h => h) (Or.inl ⟨by rfl, ?_⟩) ?_
        · intro w'; go_simp
        simp only [Act.put, List.setIfInBounds_toArray, List.set_cons_zero, List.set_cons_succ]
        refine wpAnyL_takeY 1 _ (.pointer (some ⟨g, 0, none⟩)) rfl (by kernel_rfl) (by kernel_rfl) (by kernel_rfl) (by kernel_rfl) (fun _ _ _ h => h) (Or.inl ⟨by rfl, ?_⟩) ?_
        · intro w'; go_simp
        simp only [Act.put, List.setIfInBounds_toArray, List.set_cons_zero, List.set_cons_succ]
        refine wpAnyL_takeY 2 _ (.pointer (some ⟨g, 0, none⟩)) rfl (by kernel_rfl) (by kernel_rfl) (by kernel_rfl) (by kernel_rfl) (fun _ _ _ h => h) (Or.inl ⟨by rfl, ?_⟩) ?_
        · intro w'; go_simp
        simp only [Act.put, List.setIfInBounds_toArray, List.set_cons_zero, List.set_cons_succ]
        refine wpAnyL_takeY 3 _ (.pointer (some ⟨g, 2, none⟩)) rfl (by kernel_rfl) (by kernel_rfl) (by kernel_rfl) (by kernel_rfl) (fun _ _ _ h => h) (Or.inl ⟨by rfl, ?_⟩) ?_
        · intro w'; go_simp
        simp only [Act.put, List.setIfInBounds_toArray, List.set_cons_zero, List.set_cons_succ]
        refine wpAnyL_takeY 5 _ (.string s) rfl (by kernel_rfl) (by kernel_rfl) (by kernel_rfl) (by kernel_rfl) (fun _ _ _ h => h) (Or.inl ⟨by rfl, ?_⟩) ?_
        · intro w'; go_simp
        simp only [Act.put, List.setIfInBounds_toArray, List.set_cons_zero, List.set_cons_succ]
        refine wpAnyL_takeY 6 _ (.int .u64 x) rfl (by kernel_rfl) (by kernel_rfl) (by kernel_rfl) (by kernel_rfl) (fun _ _ _ h => h) (Or.inl ⟨by rfl, ?_⟩) ?_
        · intro w'; go_simp
        simp only [Act.put, List.setIfInBounds_toArray, List.set_cons_zero, List.set_cons_succ]
        refine wpAnyL_takeY 7 _ (.pointer (some ⟨g, 0, none⟩)) rfl (by kernel_rfl) (by kernel_rfl) (by kernel_rfl) (by kernel_rfl) (fun _ _ _ h => h) (Or.inl ⟨by rfl, ?_⟩) ?_
        · intro w'; go_simp
        simp only [Act.put, List.setIfInBounds_toArray, List.set_cons_zero, List.set_cons_succ]
        refine wpAnyL_takeY 8 _ (.pointer (some ⟨g, 0, none⟩)) rfl (by kernel_rfl) (by kernel_rfl) (by kernel_rfl) (by kernel_rfl) (fun _ _ _ h => h) (Or.inl ⟨by rfl, ?_⟩) ?_
        · intro w'; go_simp
        simp only [Act.put, List.setIfInBounds_toArray, List.set_cons_zero, List.set_cons_succ]
        refine wpAnyL_takeY 9 _ (.pointer (some ⟨g, 3, none⟩)) rfl (by kernel_rfl) (by kernel_rfl) (by kernel_rfl) (by kernel_rfl) (fun _ _ _ h => h) (Or.inl ⟨by rfl, ?_⟩) ?_
        · intro w'; go_simp
        simp only [Act.put, List.setIfInBounds_toArray, List.set_cons_zero, List.set_cons_succ]
        refine wpAnyL_take 4 _ (.slice A5 t5.l.length c5) rfl (by kernel_rfl) (by kernel_rfl) (by kernel_rfl) (by kernel_rfl) (fun _ _ _ h => h) (Or.inl ⟨by rfl, ?_⟩) hS ?_
        · rintro w' ⟨hS0, hS1⟩; go_simp
        simp only [Act.put, List.setIfInBounds_toArray, List.set_cons_zero, List.set_cons_succ]
        refine wpAnyL_take 10 _ (.int .u64 t5.base) rfl (by kernel_rfl) (by kernel_rfl) (by kernel_rfl) (by kernel_rfl) (fun _ _ _ h => h) (Or.inl ⟨by rfl, ?_⟩) hS ?_
        · rintro w' ⟨hS0, hS1⟩; go_simp
        simp only [Act.put, List.setIfInBounds_toArray, List.set_cons_zero, List.set_cons_succ]
        refine wpAnyL_take 11 _ (.agg #[.string s, .int .u64 x, .int .u64 t5.base]) rfl (by kernel_rfl) (by kernel_rfl) (by kernel_rfl) (by kernel_rfl) (fun _ _ _ h => h) (Or.inl ⟨by rfl, ?_⟩) hS ?_
        · rintro w' ⟨hS0, hS1⟩; go_simp
        simp only [Act.put, List.setIfInBounds_toArray, List.set_cons_zero, List.set_cons_succ]
        clear hS
        refine wpAnyL_all [12] (by kernel_rfl) (by simp) ?_
        refine lateCons ?_ lateNil
        refine wpOpL_step _ rfl (fun K' hK => ?_)
        refine litThen kEn (s, x, t5.base) (cs := #[.string s, .int .u64 x, .int .u64 t5.base]) rfl (t := 32) rfl B0 ?_
        intro u1 pL e1 e2 B1 L k1
        go_simp
        try rw [e1]
        try rw [e2]
        clear k1
        refine hK.out _ _ (fun _ => hSP _ B1) ?_
        clear hK K' B0
        try simp only [Act.put, List.setIfInBounds_toArray, List.set_cons_zero, List.set_cons_succ]
        refine wpAnyL_all [13] (by kernel_rfl) (by simp) ?_
        refine lateCons ?_ lateNil
        refine wpOpL_step _ rfl (fun K' hK => ?_)
        have H7 := HB.out.below T1 B1
        have T7 := T1.size B1.size
        have HH7 := Lib.hid H7
        refine step_appG kEn rfl (.tmp 150) (.tmp 158) rfl _ t5.l rfl _ 1 1 [(s, x, t5.base)] rfl H7.row.own L hby ?_
        intro v2 u2 O2 G2 hat2
        obtain ⟨A2, c2, rfl, _⟩ := O2.form hly
        have s7 := StepC.grownBy (P := fun d => d = k + 1) T7 G2 fun q hq => HH7.out.row.col q hq
        have b7 := HH7.out.box.keep s7 (by omega)
        have c0 := b7.cell 2 rfl
        have f0 := b7.free 2
        obtain ⟨col8, M8, S8⟩ := HH7.out.grown T7 hly O2 G2 hat2
        refine hK.out _ _ (fun _ => ⟨b7.cell 2 rfl, b7.cell 3 rfl⟩) ?_
        clear hK K' L e1 e2 H7 O2 G2 hat2 s7 b7
        try simp only [Act.put, List.setIfInBounds_toArray, List.set_cons_zero, List.set_cons_succ]
        refine wpAnyL_takeY 14 _ (.pointer (some ⟨g, 0, none⟩)) rfl (by kernel_rfl) (by kernel_rfl) (by kernel_rfl) (by kernel_rfl) (fun _ _ _ h => h) (Or.inl ⟨by rfl, ?_⟩) ?_
        · intro w'; go_simp
        simp only [Act.put, List.setIfInBounds_toArray, List.set_cons_zero, List.set_cons_succ]
        refine wpAnyL_takeY 15 _ (.pointer (some ⟨g, 2, none⟩)) rfl (by kernel_rfl) (by kernel_rfl) (by kernel_rfl) (by kernel_rfl) (fun _ _ _ h => h) (Or.inl ⟨by rfl, ?_⟩) ?_
        · intro w'; go_simp
        simp only [Act.put, List.setIfInBounds_toArray, List.set_cons_zero, List.set_cons_succ]
        refine wpAnyL_all [16] (by kernel_rfl) (by simp) ?_
        refine lateCons ?_ lateNil
        refine wpOpL_step _ rfl (fun K' hK => ?_)
        go_simp
        refine hK.out _ _ (fun h => absurd h (by decide)) ?_
        clear hK K'
        try simp only [Act.put, List.setIfInBounds_toArray, List.set_cons_zero, List.set_cons_succ]
        refine wpAnyL_done (by kernel_rfl) ?_ _
        dsimp only [NoPanic]
        have HD := Lib.hid (show DidRT col k w g _ _ from ⟨_, ⟨HG.out, _, _, M8⟩, (HS.out.trans (StepC.below (P := Rng k) T1 B1)).trans S8⟩)
        clear M8 S8 HH7 T7 B1 f0 c0
        go_wp2
        go_ret
        have hD := HD.out
        rw [HE.out] at hD
        exact ⟨rfl, hD⟩
end
end Go.Proofs.YtlfhkhnhcckajaaGreatDoor

/- The specified table in memory: New. Conditions: none beyond those typed. -/
namespace Go.Proofs.YtlfhkhnhcckajaaGreatDoor
open Go.ChangeShapes Go.WideShapes Go.ChangeAt Go.RowKit
set_option linter.unusedVariables false
set_option linter.unusedSimpArgs false
set_option maxRecDepth 100000

def svE (m : Int) : Int := if m < 1 ∨ 64 < m then 1 else 0
def NewRT (col : Col) (k : Nat) (m : Int) (w : World) (e : Ending) (w' : World) : Prop :=
  (svE m = 0 ∧ ∃ g, e = .returned (.tuple #[.pointer (some ⟨g, 0, none⟩), .int .i64 0]) ∧ DidRT col k w g (newT m.toNat) w') ∨ (svE m = 1 ∧ e = .returned (.tuple #[.pointer none, .int .i64 1]) ∧ Below w.heap.size w w')
section
variable {col : Col} {w : World} {k : Nat}
theorem new_rt (ht : Tidy col w) (hk : 1 ≤ k) {n : Nat} (hG : GoodT (newT n)) :
    DidRT col k w w.heap.size (newT n) (w.alloc (.cells #[.int .i64 1, .int .i64 n, .slice none 0 0, .int .u64 0, .int .u64 0] 52)) :=
  ⟨dye col (some w.heap.size) k, ⟨hG, _, _, ⟨heap_alloc_new w _, dye_of⟩, OwnKc.nil kEn _ _ _, hk⟩, StepC.newRow ht ((Below.refl _ _).alloc (Nat.le_refl _) _) fun b e => by injection e with e; subst e; exact ⟨Nat.le_refl _, by simp⟩⟩
set_option maxHeartbeats 1000000 in
theorem rtNew (ht : Tidy col w) (hk : 1 ≤ k) (m : Int) (hn : -9223372036854775808 ≤ m ∧ m ≤ 9223372036854775807) :
    Calls Tryz.prog 8 #[.int .i64 1, .int .i64 m] w (NewRT col k m w) := by
  obtain ⟨i1, i2⟩ := hn
  by_cases h1 : m < 1
  · have HE := Lib.hid (show svE m = 1 from if_pos (.inl h1))
    go_enter Tryz.func8, Tryz.ntmps8
    go_wp2
    go_ret2
    exact .inr ⟨HE.out, rfl, Below.refl _ _⟩
  by_cases h2 : 64 < m
  · have HE := Lib.hid (show svE m = 1 from if_pos (.inr h2))
    go_enter Tryz.func8, Tryz.ntmps8
    go_wp2
    go_ret2
    exact .inr ⟨HE.out, rfl, Below.refl _ _⟩
  obtain ⟨q, hq⟩ : ∃ q : Nat, m = q := ⟨m.toNat, by omega⟩
  subst hq
  have HE := Lib.hid (show svE q = 0 from if_neg (by omega))
  have HG := Lib.hid (newT_good (m := q) ⟨by omega, by omega⟩)
  have HM := Lib.hid (new_rt (n := q) ht hk HG.out)
  go_enter Tryz.func8, Tryz.ntmps8
  go_wp2
  go_ret2
  exact .inl ⟨HE.out, _, rfl, HM.out⟩
end
end Go.Proofs.YtlfhkhnhcckajaaGreatDoor

/- The specified table in memory: Swap, what it refuses. Conditions: none beyond those typed. -/
namespace Go.Proofs.YtlfhkhnhcckajaaGreatDoor
open Go.ChangeShapes Go.WideShapes Go.ChangeAt Go.RowKit
set_option linter.unusedVariables false
set_option linter.unusedSimpArgs false
set_option maxRecDepth 100000

section
variable {P : Nat → Prop} {col col' : Col} {w w' : World} {k g : Nat} {t : TSt}
set_option maxHeartbeats 4000000 in
theorem rtSwapNone (H : RefT col k w g t) (ht : Tidy col w) (s : ByteArray) (e : En) (hp : placeE t.l s = none) :
    Calls Tryz.prog 24 #[.pointer (some ⟨g, 0, none⟩), .string s, .agg #[.string e.1, .int .u64 e.2.1, .int .u64 e.2.2]] w fun r w' => r = .returned (.tuple #[.agg (VE zeroE), .int .i64 8]) ∧ DidRT col k w g t w' := by
  have b0 : Below w.heap.size w (w.alloc (.cells #[.string e.1, .int .u64 e.2.1, .int .u64 e.2.2] 32)) := (Below.refl _ _).alloc (Nat.le_refl _) _
  have b1 : Below w.heap.size w ((w.alloc (.cells #[.string e.1, .int .u64 e.2.1, .int .u64 e.2.2] 32)).alloc (.cells #[.string ⟨#[]⟩, .int .u64 0, .int .u64 0] 32)) := b0.alloc b0.size _
  have T0 := ht.size b0.size
  have H1 := H.below ht b1
  have ht1 := ht.size b1.size
  have X1 : BoxC col ((w.alloc (.cells #[.string e.1, .int .u64 e.2.1, .int .u64 e.2.2] 32)).alloc (.cells #[.string ⟨#[]⟩, .int .u64 0, .int .u64 0] 32)) (w.alloc (.cells #[.string e.1, .int .u64 e.2.1, .int .u64 e.2.2] 32)).heap.size 0 (VE zeroE) 32 := ⟨heap_alloc_new _ _, T0 _ (Nat.le_refl _)⟩
  rw [show (w.alloc (.cells #[.string e.1, .int .u64 e.2.1, .int .u64 e.2.2] 32)).heap.size = w.heap.size + 1 by simp] at X1
  obtain ⟨W1, hW1⟩ : ∃ W1, W1 = ((w.alloc (.cells #[.string e.1, .int .u64 e.2.1, .int .u64 e.2.2] 32)).alloc (.cells #[.string ⟨#[]⟩, .int .u64 0, .int .u64 0] 32)) := ⟨_, rfl⟩
  rw [← hW1] at H1 X1 ht1 b1
  have hGt := rtGet H1 ht1 s
  rw [show t.get s = (zeroE, false) by unfold TSt.get; rw [hp]] at hGt
  replace hGt : Calls Tryz.prog 25 #[.pointer (some ⟨g, 0, none⟩), .string s] W1 (fun e w' => e = .returned (.tuple #[.agg #[.string ⟨#[]⟩, .int .u64 0, .int .u64 0], .bool false]) ∧ Below W1.heap.size W1 w') := hGt
  obtain ⟨G, hG⟩ : ∃ G, w.heap.size + 1 = G := ⟨_, rfl⟩
  rw [hG] at X1
  have hGW : w.heap.size ≤ G := by omega
  go_enter Tryz.func24, Tryz.ntmps24
  go_wp2_with fail
  rw [← hW1]
  clear hW1
  refine hGt.mono ?_
  rintro e w2 ⟨rfl, b2⟩
  have b3 : Below W1.heap.size W1 (w2.alloc (.cells #[.string ⟨#[]⟩, .int .u64 0, .int .u64 0] 32)) := b2.alloc b2.size _
  have X3 : BoxC col (w2.alloc (.cells #[.string ⟨#[]⟩, .int .u64 0, .int .u64 0] 32)) G 0 (VE zeroE) 32 := X1.keep (P := fun _ => False) (StepC.below ht1 b3) (fun h => h)
  have y0 : (w2.alloc (.cells #[.string ⟨#[]⟩, .int .u64 0, .int .u64 0] 32)).cell? ⟨G, 0, none⟩ = some (.string ⟨#[]⟩) := X3.cell 0 rfl
  have y1 : (w2.alloc (.cells #[.string ⟨#[]⟩, .int .u64 0, .int .u64 0] 32)).cell? ⟨G, 1, none⟩ = some (.int .u64 0) := X3.cell 1 rfl
  have y3 : (w2.alloc (.cells #[.string ⟨#[]⟩, .int .u64 0, .int .u64 0] 32)).cell? ⟨G, 2, none⟩ = some (.int .u64 0) := X3.cell 2 rfl
  have f0 := X3.free 0
  have f1 := X3.free 1
  have f2 := X3.free 2
  have HX := Lib.hid (vbox_en X3 (a := zeroE) zeroE).heap
  have HB := (((below_then b1 b3).setCell (p := ⟨G, 0, none⟩) hGW (.string ⟨#[]⟩)).setCell (p := ⟨G, 1, none⟩) hGW (.int .u64 0)).setCell (p := ⟨G, 2, none⟩) hGW (.int .u64 0)
  have HD := Lib.hid (show DidRT col k w g t _ from ⟨col, H.below ht HB, StepC.below ht HB⟩)
  clear X1 X3 HB b3 b2 b1 b0 hGt hG hGW H1 H
  go_wp2
  refine bodyPost_ret (results_cell_row2 rfl _ _ G _ _ (0, 0) _ rfl HX.out Tryz.underlying32 rfl (by kernel_rfl)) rfl ?_
  exact ⟨rfl, HD.out⟩
set_option maxHeartbeats 4000000 in
theorem rtSwapForm (H : RefT col k w g t) (ht : Tidy col w) (s : ByteArray) (e : En) {i : Nat} (hp : placeE t.l s = some i) (hz : e.1.size = 0) :
    Calls Tryz.prog 24 #[.pointer (some ⟨g, 0, none⟩), .string s, .agg #[.string e.1, .int .u64 e.2.1, .int .u64 e.2.2]] w fun r w' => r = .returned (.tuple #[.agg (VE zeroE), .int .i64 3]) ∧ DidRT col k w g t w' := by
  have b0 : Below w.heap.size w (w.alloc (.cells #[.string e.1, .int .u64 e.2.1, .int .u64 e.2.2] 32)) := (Below.refl _ _).alloc (Nat.le_refl _) _
  have b1 : Below w.heap.size w ((w.alloc (.cells #[.string e.1, .int .u64 e.2.1, .int .u64 e.2.2] 32)).alloc (.cells #[.string ⟨#[]⟩, .int .u64 0, .int .u64 0] 32)) := b0.alloc b0.size _
  have T0 := ht.size b0.size
  have H1 := H.below ht b1
  have ht1 := ht.size b1.size
  have X1 : BoxC col ((w.alloc (.cells #[.string e.1, .int .u64 e.2.1, .int .u64 e.2.2] 32)).alloc (.cells #[.string ⟨#[]⟩, .int .u64 0, .int .u64 0] 32)) (w.alloc (.cells #[.string e.1, .int .u64 e.2.1, .int .u64 e.2.2] 32)).heap.size 0 (VE zeroE) 32 := ⟨heap_alloc_new _ _, T0 _ (Nat.le_refl _)⟩
  rw [show (w.alloc (.cells #[.string e.1, .int .u64 e.2.1, .int .u64 e.2.2] 32)).heap.size = w.heap.size + 1 by simp] at X1
  obtain ⟨W1, hW1⟩ : ∃ W1, W1 = ((w.alloc (.cells #[.string e.1, .int .u64 e.2.1, .int .u64 e.2.2] 32)).alloc (.cells #[.string ⟨#[]⟩, .int .u64 0, .int .u64 0] 32)) := ⟨_, rfl⟩
  rw [← hW1] at H1 X1 ht1 b1
  have X5 : BoxC col W1 w.heap.size 0 (VE e) 32 := by
    rw [hW1]
    exact BoxC.keep (P := fun _ => False) ⟨heap_alloc_new _ _, ht _ (Nat.le_refl _)⟩ (StepC.alloc T0 _) (fun h => h)
  obtain ⟨e0, he0, -, hil⟩ := placeE_some hp
  have hb : e.1.toList.isEmpty = true := (ba_empty hz).1
  have hGt := rtGet H1 ht1 s
  rw [show t.get s = (e0, true) by unfold TSt.get; rw [hp]; show ((t.l[i]?).getD zeroE, true) = _; rw [he0]; rfl] at hGt
  replace hGt : Calls Tryz.prog 25 #[.pointer (some ⟨g, 0, none⟩), .string s] W1 (fun e w' => e = .returned (.tuple #[.agg #[.string e0.1, .int .u64 e0.2.1, .int .u64 e0.2.2], .bool true]) ∧ Below W1.heap.size W1 w') := hGt
  obtain ⟨G5, hG5⟩ : ∃ G5, w.heap.size = G5 := ⟨_, rfl⟩
  obtain ⟨G, hG⟩ : ∃ G, G5 + 1 = G := ⟨_, rfl⟩
  rw [hG5, hG] at X1
  rw [hG5] at X5
  have hGW : w.heap.size ≤ G := by omega
  go_enter Tryz.func24, Tryz.ntmps24
  go_wp2_with fail
  rw [← hW1]
  clear hW1
  refine hGt.mono ?_
  rintro eR w2 ⟨rfl, b2⟩
  have b3 : Below W1.heap.size W1 (w2.alloc (.cells #[.string e0.1, .int .u64 e0.2.1, .int .u64 e0.2.2] 32)) := b2.alloc b2.size _
  have X3 : BoxC col (w2.alloc (.cells #[.string e0.1, .int .u64 e0.2.1, .int .u64 e0.2.2] 32)) G 0 (VE zeroE) 32 := X1.keep (P := fun _ => False) (StepC.below ht1 b3) (fun h => h)
  have X6 := X5.keep (P := fun _ => False) (StepC.below ht1 b3) (fun h => h)
  have v0 : (w2.alloc (.cells #[.string e0.1, .int .u64 e0.2.1, .int .u64 e0.2.2] 32)).cell? ⟨G5, 0, none⟩ = some (.string e.1) := X6.cell 0 rfl
  have y0 : (w2.alloc (.cells #[.string e0.1, .int .u64 e0.2.1, .int .u64 e0.2.2] 32)).cell? ⟨G, 0, none⟩ = some (.string ⟨#[]⟩) := X3.cell 0 rfl
  have y1 : (w2.alloc (.cells #[.string e0.1, .int .u64 e0.2.1, .int .u64 e0.2.2] 32)).cell? ⟨G, 1, none⟩ = some (.int .u64 0) := X3.cell 1 rfl
  have y3 : (w2.alloc (.cells #[.string e0.1, .int .u64 e0.2.1, .int .u64 e0.2.2] 32)).cell? ⟨G, 2, none⟩ = some (.int .u64 0) := X3.cell 2 rfl
  have f0 := X3.free 0
  have f1 := X3.free 1
  have f2 := X3.free 2
  have HX := Lib.hid (vbox_en X3 (a := zeroE) zeroE).heap
  have HB := (((below_then b1 b3).setCell (p := ⟨G, 0, none⟩) hGW (.string ⟨#[]⟩)).setCell (p := ⟨G, 1, none⟩) hGW (.int .u64 0)).setCell (p := ⟨G, 2, none⟩) hGW (.int .u64 0)
  have HD := Lib.hid (show DidRT col k w g t _ from ⟨col, H.below ht HB, StepC.below ht HB⟩)
  clear X5 X6 hG5 hz hp he0 X1 X3 HB b3 b2 b1 b0 hGt hG hGW H1 H
  go_wp2
  refine bodyPost_ret (results_cell_row2 rfl _ _ G _ _ (0, 0) _ rfl HX.out Tryz.underlying32 rfl (by kernel_rfl)) rfl ?_
  exact ⟨rfl, HD.out⟩
end
end Go.Proofs.YtlfhkhnhcckajaaGreatDoor
