/- The specified order (heavykeysref08.Ranks) in memory: Remove. Conditions: none beyond those typed. -/
import Derived.Test.YtopjnalehllgcaaDoorRref2
namespace Go.Proofs.YtopjnalehllgcaaDoor
open Go.ChangeShapes Go.WideShapes Go.ChangeAt Go.RowKit
set_option linter.unusedVariables false
set_option linter.unusedSimpArgs false
set_option maxRecDepth 100000

section
variable {P : Nat → Prop} {col col' : Col} {w w' : World} {k g n : Nat} {m : CSt Int} {vN vV v' : Value} {i : Nat} {p : Nat × Int}
theorem remR_ns (l : List (Nat × Int)) (i : Nat) : (remC l i).map (fun p => (p.1 : Int)) = (l.map fun p => (p.1 : Int)).take i ++ (l.map fun p => (p.1 : Int)).drop (i + 1) := by unfold remC; simp [List.map_take, List.map_drop]
theorem remR_vs (l : List (Nat × Int)) (i : Nat) : (remC l i).map Prod.snd = (l.map Prod.snd).take i ++ (l.map Prod.snd).drop (i + 1) := by unfold remC; simp [List.map_take, List.map_drop]
set_option maxHeartbeats 4000000 in
theorem rrRemove (H : RefR col k w g m) (ht : Tidy col w) (z : Int) (hz : -9223372036854775808 ≤ z ∧ z ≤ 9223372036854775807) :
    Calls Tryd.prog 21 #[.pointer (some ⟨g, 0, none⟩), .int .i64 z] w fun e w' => e = .returned (.tuple #[.int .u64 (m.value 0 z).1, .int .i64 (m.value 0 z).2]) ∧ DidRR col k w g (m.rem z) w' := by
  have hGF := H.1.rem z
  have hPl := rrPlace H z hz
  have HR0 := H
  obtain ⟨hG, vN, vV, H1⟩ := H
  have hlen := hG.c.len
  have hn8 := hG.c.n8
  cases hp : placeC m.l z with
  | none =>
    have E0 := Lib.hid (show m.value 0 z = (0, 8) by unfold CSt.value; rw [hp])
    have E1 := Lib.hid (show m.rem z = m by unfold CSt.rem; rw [hp])
    have HP := Lib.hid (plR_none hp)
    have HR := Lib.hid HR0
    clear H1 hG hGF hp HR0
    go_enter Tryd.func21, Tryd.ntmps21
    go_wp2_with fail
    refine hPl.mono ?_
    rintro e w1 ⟨rfl, rfl⟩
    rw [HP.out]
    clear hPl
    go_wp2
    go_ret2
    rw [E0.out, E1.out]
    exact ⟨rfl, col, HR.out, StepC.below ht (Below.refl _ _)⟩
  | some i =>
    obtain ⟨q, hq, hq1, hlt⟩ := place_some hp
    have E0 := Lib.hid (show m.value 0 z = (q.2, 0) by unfold CSt.value; rw [hp]; simp [hq])
    have E1 := Lib.hid (show m.rem z = { m with l := remC m.l i } by unfold CSt.rem; rw [hp])
    have HP := Lib.hid (plR_some hp)
    obtain ⟨b, cV, rfl, y2, q1, q2⟩ := H1.atV hq
    obtain ⟨A, c, rfl, R1, _⟩ := H1.ns.own.form (ns_len m)
    have HF := Lib.hid (show GoodR { m with l := remC m.l i } by have := hGF; rw [E1.out] at this; exact this)
    have HK := Lib.hid (remR_ns m.l i)
    have HV := Lib.hid (remR_vs m.l i)
    have hkl := ns_len m
    have hj2 : (i : Int) < (m.l.length : Int) := by omega
    have hple : i ≤ m.l.length := by omega
    have hw : IntKind.i64.wrap ((i : Int) + 1) = (i : Int) + 1 := by rw [IntKind.wrap_i64]; omega
    have hi0 : ¬ (i : Int) < 0 := by omega
    have hcap := R1.cap
    have hmax := R1.max
    have hjc : (i : Int) ≤ (c : Int) := by omega
    have hjc2 : i ≤ c := by omega
    have hjc3 : (i : Int) + 1 ≤ (c : Int) := by omega
    have hj3 : (i : Int) + 1 ≤ (m.l.length : Int) := by omega
    have hjn : ¬ (i : Int) + 1 < 0 := by omega
    clear hG hGF hp hq hq1 HR0
    go_enter Tryd.func21, Tryd.ntmps21
    go_wp2_with fail
    refine hPl.mono ?_
    rintro e w1 ⟨rfl, rfl⟩
    rw [HP.out]
    clear hPl
    have T1 : Tidy col w1 := ht
    have y1 : w1.cell? ⟨g, 1, none⟩ = some (.slice A m.l.length c) := H1.box.cell 1 rfl
    have x2 : w1.cell? ⟨g, 2, none⟩ = some (.slice (some ⟨b, 0, none⟩) m.l.length cV) := H1.box.cell 2 rfl
    have Rh := R1.head hple
    have Rd := R1.dropM (by simp [kI]) (i := i + 1) (by omega)
    have HB := Lib.hid H1
    clear H1 ht R1
    have hb1 : ([] : List Int).length + i ≤ 1000000000 := by simp; omega
    have hl1 : (([] : List Int) ++ m.ns.take i).length = i := by simp [ns_len]; omega
    have hb3 : (([] : List Int) ++ m.ns.take i).length + (m.l.length - (i + 1)) ≤ 1000000000 := by simp; omega
    have hl3 : ((([] : List Int) ++ m.ns.take i) ++ m.ns.drop (i + 1)).length = m.l.length - 1 := by simp [ns_len]; omega
    obtain ⟨A9, hA9⟩ : ∃ A9, A9 = (if c = (i + 1) then A else A.map fun x => x.add (i + 1)) := ⟨_, rfl⟩
    rw [← hA9] at Rd
    have HA9 := Lib.hid hA9
    clear hA9
    go_upto_region 5 with fail
    go_cut [] from 20 to 38 (fun wx => ∃ col5 vN5, RefRB col5 k wx g m.n ((([] : List Int) ++ m.ns.take i) ++ m.ns.drop (i + 1)) m.vals vN5 (.slice (some ⟨b, 0, none⟩) m.l.length cV) ∧ StepC (Rng k) col w1 col5 wx)
    case first =>
      refine wp_region_noPanic ?_
      refine wp_region_late (fun w' => w'.cell? ⟨g, 1, none⟩ = some (.slice A m.l.length c)) (fun j => [0, 2, 3, 4, 6, 9, 10, 11, 13, 14, 17, 18, 19].contains j) (by kernel_rfl) ?_
      intro u0 hu0
      have B0 : Below w1.heap.size w1 u0 := by rw [← hu0]; exact bdM _
      have hS : (fun w' => w'.cell? ⟨g, 1, none⟩ = some (.slice A m.l.length c)) u0 := (cellB y1 B0).1
      clear hu0
      refine wpAnyL_takeY 0 _ (.pointer (some ⟨g, 0, none⟩)) rfl (by kernel_rfl) (by kernel_rfl) (by kernel_rfl) (by kernel_rfl) (fun _ _ _ h => h) (Or.inl ⟨by rfl, ?_⟩) ?_
      · intro w'; go_simp
      simp only [Act.put, List.setIfInBounds_toArray, List.set_cons_zero, List.set_cons_succ]
      refine wpAnyL_takeY 2 _ (.pointer (some ⟨g, 0, none⟩)) rfl (by kernel_rfl) (by kernel_rfl) (by kernel_rfl) (by kernel_rfl) (fun _ _ _ h => h) (Or.inl ⟨by rfl, ?_⟩) ?_
      · intro w'; go_simp
      simp only [Act.put, List.setIfInBounds_toArray, List.set_cons_zero, List.set_cons_succ]
      refine wpAnyL_takeY 3 _ (.pointer (some ⟨g, 0, none⟩)) rfl (by kernel_rfl) (by kernel_rfl) (by kernel_rfl) (by kernel_rfl) (fun _ _ _ h => h) (Or.inl ⟨by rfl, ?_⟩) ?_
      · intro w'; go_simp
      simp only [Act.put, List.setIfInBounds_toArray, List.set_cons_zero, List.set_cons_succ]
      refine wpAnyL_takeY 4 _ (.pointer (some ⟨g, 1, none⟩)) rfl (by kernel_rfl) (by kernel_rfl) (by kernel_rfl) (by kernel_rfl) (fun _ _ _ h => h) (Or.inl ⟨by rfl, ?_⟩) ?_
      · intro w'; go_simp
      simp only [Act.put, List.setIfInBounds_toArray, List.set_cons_zero, List.set_cons_succ]
      refine wpAnyL_takeY 6 _ (.int .i64 (i : Int)) rfl (by kernel_rfl) (by kernel_rfl) (by kernel_rfl) (by kernel_rfl) (fun _ _ _ h => h) (Or.inl ⟨by rfl, ?_⟩) ?_
      · intro w'; go_simp
      simp only [Act.put, List.setIfInBounds_toArray, List.set_cons_zero, List.set_cons_succ]
      refine wpAnyL_takeY 9 _ (.pointer (some ⟨g, 0, none⟩)) rfl (by kernel_rfl) (by kernel_rfl) (by kernel_rfl) (by kernel_rfl) (fun _ _ _ h => h) (Or.inl ⟨by rfl, ?_⟩) ?_
      · intro w'; go_simp
      simp only [Act.put, List.setIfInBounds_toArray, List.set_cons_zero, List.set_cons_succ]
      refine wpAnyL_takeY 10 _ (.pointer (some ⟨g, 0, none⟩)) rfl (by kernel_rfl) (by kernel_rfl) (by kernel_rfl) (by kernel_rfl) (fun _ _ _ h => h) (Or.inl ⟨by rfl, ?_⟩) ?_
      · intro w'; go_simp
      simp only [Act.put, List.setIfInBounds_toArray, List.set_cons_zero, List.set_cons_succ]
      refine wpAnyL_takeY 11 _ (.pointer (some ⟨g, 1, none⟩)) rfl (by kernel_rfl) (by kernel_rfl) (by kernel_rfl) (by kernel_rfl) (fun _ _ _ h => h) (Or.inl ⟨by rfl, ?_⟩) ?_
      · intro w'; go_simp
      simp only [Act.put, List.setIfInBounds_toArray, List.set_cons_zero, List.set_cons_succ]
      refine wpAnyL_takeY 13 _ (.int .i64 (i : Int)) rfl (by kernel_rfl) (by kernel_rfl) (by kernel_rfl) (by kernel_rfl) (fun _ _ _ h => h) (Or.inl ⟨by rfl, ?_⟩) ?_
      · intro w'; go_simp
      simp only [Act.put, List.setIfInBounds_toArray, List.set_cons_zero, List.set_cons_succ]
      refine wpAnyL_takeY 14 _ (.int .i64 ((i : Int) + 1)) rfl (by kernel_rfl) (by kernel_rfl) (by kernel_rfl) (by kernel_rfl) (fun _ _ _ h => h) (Or.inl ⟨by rfl, ?_⟩) ?_
      · intro w'; go_simp
      simp only [Act.put, List.setIfInBounds_toArray, List.set_cons_zero, List.set_cons_succ]
      refine wpAnyL_take 5 _ (.slice A m.l.length c) rfl (by kernel_rfl) (by kernel_rfl) (by kernel_rfl) (by kernel_rfl) (fun _ _ _ h => h) (Or.inl ⟨by rfl, ?_⟩) hS ?_
      · intro w' hSw; go_simp
      simp only [Act.put, List.setIfInBounds_toArray, List.set_cons_zero, List.set_cons_succ]
      refine wpAnyL_take 12 _ (.slice A m.l.length c) rfl (by kernel_rfl) (by kernel_rfl) (by kernel_rfl) (by kernel_rfl) (fun _ _ _ h => h) (Or.inl ⟨by rfl, ?_⟩) hS ?_
      · intro w' hSw; go_simp
      simp only [Act.put, List.setIfInBounds_toArray, List.set_cons_zero, List.set_cons_succ]
      refine wpAnyL_take 7 _ (.slice A i c) rfl (by kernel_rfl) (by kernel_rfl) (by kernel_rfl) (by kernel_rfl) (fun _ _ _ h => h) (Or.inl ⟨by rfl, ?_⟩) hS ?_
      · intro w' hSw; go_simp
      simp only [Act.put, List.setIfInBounds_toArray, List.set_cons_zero, List.set_cons_succ]
      refine wpAnyL_take 15 _ (.slice A9 (m.l.length - (i + 1)) (c - (i + 1))) rfl (by kernel_rfl) (by kernel_rfl) (by kernel_rfl) (by kernel_rfl) (fun _ _ _ h => h) (Or.inl ⟨by rfl, ?_⟩) hS ?_
      · intro w' hSw; rw [HA9.out]; go_simp
      simp only [Act.put, List.setIfInBounds_toArray, List.set_cons_zero, List.set_cons_succ]
      clear hS
      refine wpAnyL_all [1] (by kernel_rfl) (by simp) ?_
      refine (lateCons ?_ lateNil)
      · refine wpOpL_step _ rfl (fun K' hK => ?_)
        refine emptyThen kI (t := 3) rfl B0 ?_
        intro u1 pE e1 e2 R1 k1
        have B1 := R1.bel
        go_simp
        try rw [e1]
        try rw [e2]
        refine hK.out _ _ (fun _ => (cellB y1 B1).1) ?_
        clear hK K' k1 B0
        try simp only [Act.put, List.setIfInBounds_toArray, List.set_cons_zero, List.set_cons_succ]
        refine wpAnyL_all [8] (by kernel_rfl) (by simp) ?_
        refine (lateCons ?_ lateNil)
        · refine wpOpL_step _ rfl (fun K' hK => ?_)
          refine R1.step rfl (.tmp 21) (.tmp 27) rfl rfl _ _ _ _ rfl (Rh.below R1.bel) hb1 hl1 ?_
          intro A2 d2 u2 R2 k2
          have B2 := R2.bel
          clear R1
          refine hK.out _ _ (fun _ => (cellB y1 B2).1) ?_
          clear hK K' k2 B1
          try simp only [Act.put, List.setIfInBounds_toArray, List.set_cons_zero, List.set_cons_succ]
          refine wpAnyL_all [16] (by kernel_rfl) (by simp) ?_
          refine (lateCons ?_ lateNil)
          · refine wpOpL_step _ rfl (fun K' hK => ?_)
            refine R2.step rfl (.tmp 28) (.tmp 35) rfl rfl _ _ _ _ rfl (Rd.below R2.bel) hb3 hl3 ?_
            intro A3 d3 u3 R3 k3
            have B3 := R3.bel
            clear R2
            refine hK.out _ _ (fun _ => (cellB y1 B3).1) ?_
            clear hK K' k3 B2
            try simp only [Act.put, List.setIfInBounds_toArray, List.set_cons_zero, List.set_cons_succ]
            have f0 := (HB.out.below T1 R3.bel).box.free 1
            have c0 := (cellB y1 R3.bel).1
            have HR3 := Lib.hid R3
            clear R3
            refine wpAnyL_takeY 17 _ (.pointer (some ⟨g, 0, none⟩)) rfl (by kernel_rfl) (by kernel_rfl) (by kernel_rfl) (by kernel_rfl) (fun _ _ _ h => h) (Or.inl ⟨by rfl, ?_⟩) ?_
            · intro w'; go_simp
            simp only [Act.put, List.setIfInBounds_toArray, List.set_cons_zero, List.set_cons_succ]
            refine wpAnyL_takeY 18 _ (.pointer (some ⟨g, 1, none⟩)) rfl (by kernel_rfl) (by kernel_rfl) (by kernel_rfl) (by kernel_rfl) (fun _ _ _ h => h) (Or.inl ⟨by rfl, ?_⟩) ?_
            · intro w'; go_simp
            simp only [Act.put, List.setIfInBounds_toArray, List.set_cons_zero, List.set_cons_succ]
            refine wpAnyL_all [19] (by kernel_rfl) (by simp) ?_
            refine lateCons ?_ lateNil
            refine wpOpL_step _ rfl (fun K' hK => ?_)
            go_simp
            refine hK.out _ _ (fun h => absurd h (by decide)) ?_
            clear hK K'
            try simp only [Act.put, List.setIfInBounds_toArray, List.set_cons_zero, List.set_cons_succ]
            refine wpAnyL_done (by kernel_rfl) ?_ _
            dsimp only [NoPanic]
            refine (HB.out.newN T1 HR3.out.bel HR3.out.own HR3.out.new).elim ?_
            intro col5 h5
            go_wp2_with fail
            go_meet
            exact ⟨col5, _, h5.1, h5.2⟩
    case rest =>
      obtain ⟨col5, vN5, H5, S5⟩ := hcut
      have T1 := S5.tidy
      have y1 : wc.cell? ⟨g, 2, none⟩ = some (.slice (some ⟨b, 0, none⟩) m.l.length cV) := H5.box.cell 2 rfl
      have R5 := H5.vs.own.reads
      have hjc5 : (i : Int) ≤ (cV : Int) := by omega
      have hjc6 : (i : Int) + 1 ≤ (cV : Int) := by omega
      have Rh := R5.head hple
      have Rd := R5.dropM (by simp [kU]) (i := i + 1) (by omega)
      have HB := Lib.hid H5
      have HS5 := Lib.hid S5
      clear H5 S5 R5 hb1 hb3 hl1 hl3 HA9 x2 y2
      have hb1 : ([] : List Int).length + i ≤ 1000000000 := by simp; omega
      have hl1 : (([] : List Int) ++ m.vals.take i).length = i := by simp [vs_len]; omega
      have hb3 : (([] : List Int) ++ m.vals.take i).length + (m.l.length - (i + 1)) ≤ 1000000000 := by simp; omega
      have hl3 : ((([] : List Int) ++ m.vals.take i) ++ m.vals.drop (i + 1)).length = m.l.length - 1 := by simp [vs_len]; omega
      obtain ⟨A9, hA9⟩ : ∃ A9, A9 = (if cV = (i + 1) then (some (⟨b, 0, none⟩ : Addr)) else (some (⟨b, 0, none⟩ : Addr)).map fun x => x.add (i + 1)) := ⟨_, rfl⟩
      rw [← hA9] at Rd
      have HA9 := Lib.hid hA9
      clear hA9
      go_upto_region 6 with fail
      go_cut [] from 39 to 57 (fun wx => ∃ col6 vV6, RefRB col6 k wx g m.n ((([] : List Int) ++ m.ns.take i) ++ m.ns.drop (i + 1)) ((([] : List Int) ++ m.vals.take i) ++ m.vals.drop (i + 1)) vN5 vV6 ∧ StepC (Rng k) col5 wc col6 wx)
      case first =>
        refine wp_region_noPanic ?_
        refine wp_region_late (fun w' => w'.cell? ⟨g, 2, none⟩ = some (.slice (some ⟨b, 0, none⟩) m.l.length cV)) (fun j => [0, 2, 3, 4, 6, 9, 10, 11, 13, 14, 17, 18, 19].contains j) (by kernel_rfl) ?_
        intro u0 hu0
        have B0 : Below wc.heap.size wc u0 := by rw [← hu0]; exact bdM _
        have hS : (fun w' => w'.cell? ⟨g, 2, none⟩ = some (.slice (some ⟨b, 0, none⟩) m.l.length cV)) u0 := (cellB y1 B0).1
        clear hu0
        refine wpAnyL_takeY 0 _ (.pointer (some ⟨g, 0, none⟩)) rfl (by kernel_rfl) (by kernel_rfl) (by kernel_rfl) (by kernel_rfl) (fun _ _ _ h => h) (Or.inl ⟨by rfl, ?_⟩) ?_
        · intro w'; go_simp
        simp only [Act.put, List.setIfInBounds_toArray, List.set_cons_zero, List.set_cons_succ]
        refine wpAnyL_takeY 2 _ (.pointer (some ⟨g, 0, none⟩)) rfl (by kernel_rfl) (by kernel_rfl) (by kernel_rfl) (by kernel_rfl) (fun _ _ _ h => h) (Or.inl ⟨by rfl, ?_⟩) ?_
        · intro w'; go_simp
        simp only [Act.put, List.setIfInBounds_toArray, List.set_cons_zero, List.set_cons_succ]
        refine wpAnyL_takeY 3 _ (.pointer (some ⟨g, 0, none⟩)) rfl (by kernel_rfl) (by kernel_rfl) (by kernel_rfl) (by kernel_rfl) (fun _ _ _ h => h) (Or.inl ⟨by rfl, ?_⟩) ?_
        · intro w'; go_simp
        simp only [Act.put, List.setIfInBounds_toArray, List.set_cons_zero, List.set_cons_succ]
        refine wpAnyL_takeY 4 _ (.pointer (some ⟨g, 2, none⟩)) rfl (by kernel_rfl) (by kernel_rfl) (by kernel_rfl) (by kernel_rfl) (fun _ _ _ h => h) (Or.inl ⟨by rfl, ?_⟩) ?_
        · intro w'; go_simp
        simp only [Act.put, List.setIfInBounds_toArray, List.set_cons_zero, List.set_cons_succ]
        refine wpAnyL_takeY 6 _ (.int .i64 (i : Int)) rfl (by kernel_rfl) (by kernel_rfl) (by kernel_rfl) (by kernel_rfl) (fun _ _ _ h => h) (Or.inl ⟨by rfl, ?_⟩) ?_
        · intro w'; go_simp
        simp only [Act.put, List.setIfInBounds_toArray, List.set_cons_zero, List.set_cons_succ]
        refine wpAnyL_takeY 9 _ (.pointer (some ⟨g, 0, none⟩)) rfl (by kernel_rfl) (by kernel_rfl) (by kernel_rfl) (by kernel_rfl) (fun _ _ _ h => h) (Or.inl ⟨by rfl, ?_⟩) ?_
        · intro w'; go_simp
        simp only [Act.put, List.setIfInBounds_toArray, List.set_cons_zero, List.set_cons_succ]
        refine wpAnyL_takeY 10 _ (.pointer (some ⟨g, 0, none⟩)) rfl (by kernel_rfl) (by kernel_rfl) (by kernel_rfl) (by kernel_rfl) (fun _ _ _ h => h) (Or.inl ⟨by rfl, ?_⟩) ?_
        · intro w'; go_simp
        simp only [Act.put, List.setIfInBounds_toArray, List.set_cons_zero, List.set_cons_succ]
        refine wpAnyL_takeY 11 _ (.pointer (some ⟨g, 2, none⟩)) rfl (by kernel_rfl) (by kernel_rfl) (by kernel_rfl) (by kernel_rfl) (fun _ _ _ h => h) (Or.inl ⟨by rfl, ?_⟩) ?_
        · intro w'; go_simp
        simp only [Act.put, List.setIfInBounds_toArray, List.set_cons_zero, List.set_cons_succ]
        refine wpAnyL_takeY 13 _ (.int .i64 (i : Int)) rfl (by kernel_rfl) (by kernel_rfl) (by kernel_rfl) (by kernel_rfl) (fun _ _ _ h => h) (Or.inl ⟨by rfl, ?_⟩) ?_
        · intro w'; go_simp
        simp only [Act.put, List.setIfInBounds_toArray, List.set_cons_zero, List.set_cons_succ]
        refine wpAnyL_takeY 14 _ (.int .i64 ((i : Int) + 1)) rfl (by kernel_rfl) (by kernel_rfl) (by kernel_rfl) (by kernel_rfl) (fun _ _ _ h => h) (Or.inl ⟨by rfl, ?_⟩) ?_
        · intro w'; go_simp
        simp only [Act.put, List.setIfInBounds_toArray, List.set_cons_zero, List.set_cons_succ]
        refine wpAnyL_take 5 _ (.slice (some ⟨b, 0, none⟩) m.l.length cV) rfl (by kernel_rfl) (by kernel_rfl) (by kernel_rfl) (by kernel_rfl) (fun _ _ _ h => h) (Or.inl ⟨by rfl, ?_⟩) hS ?_
        · intro w' hSw; go_simp
        simp only [Act.put, List.setIfInBounds_toArray, List.set_cons_zero, List.set_cons_succ]
        refine wpAnyL_take 12 _ (.slice (some ⟨b, 0, none⟩) m.l.length cV) rfl (by kernel_rfl) (by kernel_rfl) (by kernel_rfl) (by kernel_rfl) (fun _ _ _ h => h) (Or.inl ⟨by rfl, ?_⟩) hS ?_
        · intro w' hSw; go_simp
        simp only [Act.put, List.setIfInBounds_toArray, List.set_cons_zero, List.set_cons_succ]
        refine wpAnyL_take 7 _ (.slice (some ⟨b, 0, none⟩) i cV) rfl (by kernel_rfl) (by kernel_rfl) (by kernel_rfl) (by kernel_rfl) (fun _ _ _ h => h) (Or.inl ⟨by rfl, ?_⟩) hS ?_
        · intro w' hSw; go_simp
        simp only [Act.put, List.setIfInBounds_toArray, List.set_cons_zero, List.set_cons_succ]
        refine wpAnyL_take 15 _ (.slice A9 (m.l.length - (i + 1)) (cV - (i + 1))) rfl (by kernel_rfl) (by kernel_rfl) (by kernel_rfl) (by kernel_rfl) (fun _ _ _ h => h) (Or.inl ⟨by rfl, ?_⟩) hS ?_
        · intro w' hSw; rw [HA9.out]; go_simp
        simp only [Act.put, List.setIfInBounds_toArray, List.set_cons_zero, List.set_cons_succ]
        clear hS
        refine wpAnyL_all [1] (by kernel_rfl) (by simp) ?_
        refine (lateCons ?_ lateNil)
        · refine wpOpL_step _ rfl (fun K' hK => ?_)
          refine emptyThen kU (t := 30) rfl B0 ?_
          intro u1 pE e1 e2 R1 k1
          have B1 := R1.bel
          go_simp
          try rw [e1]
          try rw [e2]
          refine hK.out _ _ (fun _ => (cellB y1 B1).1) ?_
          clear hK K' k1 B0
          try simp only [Act.put, List.setIfInBounds_toArray, List.set_cons_zero, List.set_cons_succ]
          refine wpAnyL_all [8] (by kernel_rfl) (by simp) ?_
          refine (lateCons ?_ lateNil)
          · refine wpOpL_step _ rfl (fun K' hK => ?_)
            refine R1.step rfl (.tmp 40) (.tmp 46) rfl rfl _ _ _ _ rfl (Rh.below R1.bel) hb1 hl1 ?_
            intro A2 d2 u2 R2 k2
            have B2 := R2.bel
            clear R1
            refine hK.out _ _ (fun _ => (cellB y1 B2).1) ?_
            clear hK K' k2 B1
            try simp only [Act.put, List.setIfInBounds_toArray, List.set_cons_zero, List.set_cons_succ]
            refine wpAnyL_all [16] (by kernel_rfl) (by simp) ?_
            refine (lateCons ?_ lateNil)
            · refine wpOpL_step _ rfl (fun K' hK => ?_)
              refine R2.step rfl (.tmp 47) (.tmp 54) rfl rfl _ _ _ _ rfl (Rd.below R2.bel) hb3 hl3 ?_
              intro A3 d3 u3 R3 k3
              have B3 := R3.bel
              clear R2
              refine hK.out _ _ (fun _ => (cellB y1 B3).1) ?_
              clear hK K' k3 B2
              try simp only [Act.put, List.setIfInBounds_toArray, List.set_cons_zero, List.set_cons_succ]
              have f0 := (HB.out.below T1 R3.bel).box.free 2
              have c0 := (cellB y1 R3.bel).1
              have HR3 := Lib.hid R3
              clear R3
              refine wpAnyL_takeY 17 _ (.pointer (some ⟨g, 0, none⟩)) rfl (by kernel_rfl) (by kernel_rfl) (by kernel_rfl) (by kernel_rfl) (fun _ _ _ h => h) (Or.inl ⟨by rfl, ?_⟩) ?_
              · intro w'; go_simp
              simp only [Act.put, List.setIfInBounds_toArray, List.set_cons_zero, List.set_cons_succ]
              refine wpAnyL_takeY 18 _ (.pointer (some ⟨g, 2, none⟩)) rfl (by kernel_rfl) (by kernel_rfl) (by kernel_rfl) (by kernel_rfl) (fun _ _ _ h => h) (Or.inl ⟨by rfl, ?_⟩) ?_
              · intro w'; go_simp
              simp only [Act.put, List.setIfInBounds_toArray, List.set_cons_zero, List.set_cons_succ]
              refine wpAnyL_all [19] (by kernel_rfl) (by simp) ?_
              refine lateCons ?_ lateNil
              refine wpOpL_step _ rfl (fun K' hK => ?_)
              go_simp
              refine hK.out _ _ (fun h => absurd h (by decide)) ?_
              clear hK K'
              try simp only [Act.put, List.setIfInBounds_toArray, List.set_cons_zero, List.set_cons_succ]
              refine wpAnyL_done (by kernel_rfl) ?_ _
              dsimp only [NoPanic]
              refine (HB.out.newV T1 HR3.out.bel HR3.out.own HR3.out.new).elim ?_
              intro col6 h6
              go_wp2_with fail
              go_meet
              exact ⟨col6, _, h6.1, h6.2⟩
      case rest =>
        obtain ⟨col6, vV6, H6, S6⟩ := hcut
        have HR := Lib.hid (RefR.tuck (m := { m with l := remC m.l i }) HF.out H6 HK.out.symm HV.out.symm)
        have SS := Lib.hid (HS5.out.trans S6)
        clear H6 S6 HB y1 Rh Rd hb1 hb3 hl1 hl3
        go_wp2
        go_ret2
        rw [E0.out, E1.out]
        exact ⟨rfl, col6, HR.out, SS.out⟩
end
end Go.Proofs.YtopjnalehllgcaaDoor
