/- The specified table (heavykeysref08.Map) in memory: Delete. Conditions: none beyond those typed. -/
import Derived.Test.YtdifkcjciblkpaaMref2
namespace Go.Proofs.Ytdifkcjciblkpaa
open Go.ChangeShapes Go.WideShapes Go.ChangeAt Go.RowKit
set_option linter.unusedVariables false
set_option linter.unusedSimpArgs false
set_option maxRecDepth 100000

section
variable {P : Nat → Prop} {col col' : Col} {w w' : World} {k g n : Nat} {m : MSt Int} {vK vV v' : Value} {s : ByteArray} {i : Nat} {p : ByteArray × Int}
theorem del_none (h : m.look s = none) : m.del s = m := by unfold MSt.del; rw [h]
theorem del_some {u : Int} (h : m.look s = some u) : m.del s = { m with l := delM m.l s } := by unfold MSt.del; rw [h]
theorem del_keys (l : List (ByteArray × Int)) (s : ByteArray) : (delM l s).map Prod.fst = (l.map Prod.fst).take (placeM l s) ++ (l.map Prod.fst).drop (placeM l s + 1) := by unfold delM; simp [List.map_take, List.map_drop]
theorem del_vals (l : List (ByteArray × Int)) (s : ByteArray) : (delM l s).map Prod.snd = (l.map Prod.snd).take (placeM l s) ++ (l.map Prod.snd).drop (placeM l s + 1) := by unfold delM; simp [List.map_take, List.map_drop]
set_option maxHeartbeats 4000000 in
theorem rmDel (H : RefM col k w g m) (ht : Tidy col w) (s : ByteArray) :
    Calls Try.prog 21 #[.pointer (some ⟨g, 0, none⟩), .string s] w fun e w' => e = .returned (.tuple #[.int .i64 (getV m s).1, .bool (getV m s).2]) ∧ DidRM col k w g (m.del s) w' := by
  have hGF := H.1.del s
  go_enter Try.func21, Try.ntmps21
  go_wp2_with fail
  refine (rmAt H s).mono ?_
  rintro e w1 ⟨rfl, hb1⟩
  obtain ⟨hG, vK, vV, H1⟩ := H.below ht hb1
  have ht1 := ht.size hb1.size
  have S1 := StepC.below (P := Rng k) ht hb1
  have hlen := hG.len
  have hn8 := hG.n8
  clear H hb1 ht
  cases hl : m.look s with
  | none =>
    have E0 := Lib.hid (show getV m s = (0, false) by unfold getV; rw [hl]; rfl)
    have E1 := Lib.hid (del_none hl)
    have HR := Lib.hid (show RefM col k w1 g m from ⟨hG, _, _, H1⟩)
    clear H1 hG hGF hl
    go_wp2
    go_ret2
    rw [E0.out, E1.out]
    exact ⟨rfl, col, HR.out, S1⟩
  | some u =>
    have E0 := Lib.hid (show getV m s = (u, true) by unfold getV; rw [hl]; rfl)
    have E1 := Lib.hid (del_some hl)
    have hp := look_some hG.srt hl
    obtain ⟨b, cV, rfl, y2, ⟨q1, q2⟩, _⟩ := H1.at_ hp
    have hlt := (List.getElem?_eq_some_iff.1 hp).1
    obtain ⟨A, c, rfl, R1, _⟩ := H1.ks.own.form (keys_len m)
    have HF := Lib.hid (show GoodM { m with l := delM m.l s } by have := hGF; rw [E1.out] at this; exact this)
    have HK := Lib.hid (del_keys m.l s)
    have HV := Lib.hid (del_vals m.l s)
    have x2 : w1.cell? ⟨g, 2, none⟩ = some (.slice (some ⟨b, 0, none⟩) m.l.length cV) := H1.box.cell 2 rfl
    obtain ⟨W1, hW1⟩ : ∃ W1, W1 = w1 := ⟨_, rfl⟩
    subst hW1
    have T1 : Tidy col W1 := ht1
    have y1 : W1.cell? ⟨g, 1, none⟩ = some (.slice A m.l.length c) := H1.box.cell 1 rfl
    generalize hj : placeM m.l s = j at *
    have hkl := keys_len m
    have hj2 : (j : Int) < (m.l.length : Int) := by omega
    have hple : j ≤ m.l.length := by omega
    have hw : IntKind.i64.wrap ((j : Int) + 1) = (j : Int) + 1 := by rw [IntKind.wrap_i64]; omega
    have hcap := R1.cap
    have hmax := R1.max
    have hjc : (j : Int) ≤ (c : Int) := by omega
    have hjc2 : j ≤ c := by omega
    have hjc3 : (j : Int) + 1 ≤ (c : Int) := by omega
    have hj3 : (j : Int) + 1 ≤ (m.l.length : Int) := by omega
    have hjn : ¬ (j : Int) + 1 < 0 := by omega
    have Rh := R1.head hple
    have Rd := R1.dropM (by simp [kT]) (i := j + 1) (by omega)
    have HB := Lib.hid H1
    have S2 := Lib.hid S1
    clear H1 hj hl hG hGF hp S1 ht1
    have hb1 : ([] : List ByteArray).length + j ≤ 1000000000 := by simp; omega
    have hl1 : (([] : List ByteArray) ++ m.keys.take j).length = j := by simp [keys_len]; omega
    have hb3 : (([] : List ByteArray) ++ m.keys.take j).length + (m.l.length - (j + 1)) ≤ 1000000000 := by simp; omega
    have hl3 : ((([] : List ByteArray) ++ m.keys.take j) ++ m.keys.drop (j + 1)).length = m.l.length - 1 := by simp [keys_len]; omega
    obtain ⟨A9, hA9⟩ : ∃ A9, A9 = (if c = (j + 1) then A else A.map fun x => x.add (j + 1)) := ⟨_, rfl⟩
    rw [← hA9] at Rd
    have HA9 := Lib.hid hA9
    clear hA9
    go_upto_region 5 with fail
    go_cut [] from 24 to 42 (fun wx => ∃ col5 vK5, RefMB col5 k wx g m.n ((([] : List ByteArray) ++ m.keys.take j) ++ m.keys.drop (j + 1)) m.vals vK5 (.slice (some ⟨b, 0, none⟩) m.l.length cV) ∧ StepC (Rng k) col W1 col5 wx)
    case first =>
      refine wp_region_noPanic ?_
      refine wp_region_late (fun w' => w'.cell? ⟨g, 1, none⟩ = some (.slice A m.l.length c)) (fun j => [0, 2, 3, 4, 6, 9, 10, 11, 13, 14, 17, 18, 19].contains j) (by kernel_rfl) ?_
      intro u0 hu0
      have B0 : Below W1.heap.size W1 u0 := by rw [← hu0]; exact bdM _
      have hS : (fun w' => w'.cell? ⟨g, 1, none⟩ = some (.slice A m.l.length c)) u0 := (cellB y1 B0).1
      clear hu0
      refine wpAnyL_takeY 0 _ (.pointer (some ⟨g, 0, none⟩)) rfl (by kernel_rfl) (by kernel_rfl) (by kernel_rfl) (by kernel_rfl) (fun _ _ _ h => h) (Or.inl ⟨by rfl, ?_⟩) ?_
      · intro w'; go_simp
      simp only [Act.put, List.setIfInBounds_toArray, List.set_cons_zero, List.set_cons_succ]
      refine wpAnyL_takeY 2 _ (.pointer (some ⟨g, 0, none⟩)) rfl (by kernel_rfl) (by kernel_rfl) (by kernel_rfl) (by kernel_rfl) (fun _ _ _ h => h) (Or.inl ⟨by rfl, ?_⟩) ?_
      · intro w'; go_simp
      simp only [Act.put, List.setIfInBounds_toArray, List.set_cons_zero, List.set_cons_succ]
      refine wpAnyL_takeY 3 _ (.pointer (some ⟨g, 0, none⟩)) rfl (by kernel_rfl) (by kernel_rfl) (by kernel_rfl) (by kernel_rfl) (fun _ _ _ h => h) (Or.inl ⟨by rfl, ?_⟩) ?_
      · intro w'; go_simp
      simp only [Act.put, List.setIfInBounds_toArray, List.set_cons_zero, List.set_cons_succ]
      refine wpAnyL_takeY 4 _ (.pointer (some ⟨g, 1, none⟩)) rfl (by kernel_rfl) (by kernel_rfl) (by kernel_rfl) (by kernel_rfl) (fun _ _ _ h => h) (Or.inl ⟨by rfl, ?_⟩) ?_
      · intro w'; go_simp
      simp only [Act.put, List.setIfInBounds_toArray, List.set_cons_zero, List.set_cons_succ]
      refine wpAnyL_takeY 6 _ (.int .i64 (j : Int)) rfl (by kernel_rfl) (by kernel_rfl) (by kernel_rfl) (by kernel_rfl) (fun _ _ _ h => h) (Or.inl ⟨by rfl, ?_⟩) ?_
      · intro w'; go_simp
      simp only [Act.put, List.setIfInBounds_toArray, List.set_cons_zero, List.set_cons_succ]
      refine wpAnyL_takeY 9 _ (.pointer (some ⟨g, 0, none⟩)) rfl (by kernel_rfl) (by kernel_rfl) (by kernel_rfl) (by kernel_rfl) (fun _ _ _ h => h) (Or.inl ⟨by rfl, ?_⟩) ?_
      · intro w'; go_simp
      simp only [Act.put, List.setIfInBounds_toArray, List.set_cons_zero, List.set_cons_succ]
      refine wpAnyL_takeY 10 _ (.pointer (some ⟨g, 0, none⟩)) rfl (by kernel_rfl) (by kernel_rfl) (by kernel_rfl) (by kernel_rfl) (fun _ _ _ h => h) (Or.inl ⟨by rfl, ?_⟩) ?_
      · intro w'; go_simp
      simp only [Act.put, List.setIfInBounds_toArray, List.set_cons_zero, List.set_cons_succ]
      refine wpAnyL_takeY 11 _ (.pointer (some ⟨g, 1, none⟩)) rfl (by kernel_rfl) (by kernel_rfl) (by kernel_rfl) (by kernel_rfl) (fun _ _ _ h => h) (Or.inl ⟨by rfl, ?_⟩) ?_
      · intro w'; go_simp
      simp only [Act.put, List.setIfInBounds_toArray, List.set_cons_zero, List.set_cons_succ]
      refine wpAnyL_takeY 13 _ (.int .i64 (j : Int)) rfl (by kernel_rfl) (by kernel_rfl) (by kernel_rfl) (by kernel_rfl) (fun _ _ _ h => h) (Or.inl ⟨by rfl, ?_⟩) ?_
      · intro w'; go_simp
      simp only [Act.put, List.setIfInBounds_toArray, List.set_cons_zero, List.set_cons_succ]
      refine wpAnyL_takeY 14 _ (.int .i64 ((j : Int) + 1)) rfl (by kernel_rfl) (by kernel_rfl) (by kernel_rfl) (by kernel_rfl) (fun _ _ _ h => h) (Or.inl ⟨by rfl, ?_⟩) ?_
      · intro w'; go_simp
      simp only [Act.put, List.setIfInBounds_toArray, List.set_cons_zero, List.set_cons_succ]
      refine wpAnyL_take 5 _ (.slice A m.l.length c) rfl (by kernel_rfl) (by kernel_rfl) (by kernel_rfl) (by kernel_rfl) (fun _ _ _ h => h) (Or.inl ⟨by rfl, ?_⟩) hS ?_
      · intro w' hSw; go_simp
      simp only [Act.put, List.setIfInBounds_toArray, List.set_cons_zero, List.set_cons_succ]
      refine wpAnyL_take 12 _ (.slice A m.l.length c) rfl (by kernel_rfl) (by kernel_rfl) (by kernel_rfl) (by kernel_rfl) (fun _ _ _ h => h) (Or.inl ⟨by rfl, ?_⟩) hS ?_
      · intro w' hSw; go_simp
      simp only [Act.put, List.setIfInBounds_toArray, List.set_cons_zero, List.set_cons_succ]
      refine wpAnyL_take 7 _ (.slice A j c) rfl (by kernel_rfl) (by kernel_rfl) (by kernel_rfl) (by kernel_rfl) (fun _ _ _ h => h) (Or.inl ⟨by rfl, ?_⟩) hS ?_
      · intro w' hSw; go_simp
      simp only [Act.put, List.setIfInBounds_toArray, List.set_cons_zero, List.set_cons_succ]
      refine wpAnyL_take 15 _ (.slice A9 (m.l.length - (j + 1)) (c - (j + 1))) rfl (by kernel_rfl) (by kernel_rfl) (by kernel_rfl) (by kernel_rfl) (fun _ _ _ h => h) (Or.inl ⟨by rfl, ?_⟩) hS ?_
      · intro w' hSw; rw [HA9.out]; go_simp
      simp only [Act.put, List.setIfInBounds_toArray, List.set_cons_zero, List.set_cons_succ]
      clear hS
      refine wpAnyL_all [1] (by kernel_rfl) (by simp) ?_
      refine (lateCons ?_ lateNil)
      · refine wpOpL_step _ rfl (fun K' hK => ?_)
        refine emptyThen kT (t := 9) rfl B0 ?_
        intro u1 pE e1 e2 R1 k1
        have B1 := R1.bel
        go_simp
        try rw [e1]
        try rw [e2]
        refine hK.out _ _ (fun _ => (cellB y1 B1).1) ?_
        clear hK K' k1 B0
        try simp only [Act.put, List.setIfInBounds_toArray, List.set_cons_zero, List.set_cons_succ]
        refine wpAnyL_all [8] (by kernel_rfl) (by simp) ?_
        refine (lateCons ?_ lateNil)
        · refine wpOpL_step _ rfl (fun K' hK => ?_)
          refine R1.step rfl (.tmp 25) (.tmp 31) rfl rfl _ _ _ _ rfl (Rh.below R1.bel) hb1 hl1 ?_
          intro A2 d2 u2 R2 k2
          have B2 := R2.bel
          clear R1
          refine hK.out _ _ (fun _ => (cellB y1 B2).1) ?_
          clear hK K' k2 B1
          try simp only [Act.put, List.setIfInBounds_toArray, List.set_cons_zero, List.set_cons_succ]
          refine wpAnyL_all [16] (by kernel_rfl) (by simp) ?_
          refine (lateCons ?_ lateNil)
          · refine wpOpL_step _ rfl (fun K' hK => ?_)
            refine R2.step rfl (.tmp 32) (.tmp 39) rfl rfl _ _ _ _ rfl (Rd.below R2.bel) hb3 hl3 ?_
            intro A3 d3 u3 R3 k3
            have B3 := R3.bel
            clear R2
            refine hK.out _ _ (fun _ => (cellB y1 B3).1) ?_
            clear hK K' k3 B2
            try simp only [Act.put, List.setIfInBounds_toArray, List.set_cons_zero, List.set_cons_succ]
            have f0 := (HB.out.below T1 R3.bel).box.free 1
            have c0 := (cellB y1 R3.bel).1
            have HR3 := Lib.hid R3
            clear R3
            refine wpAnyL_takeY 17 _ (.pointer (some ⟨g, 0, none⟩)) rfl (by kernel_rfl) (by kernel_rfl) (by kernel_rfl) (by kernel_rfl) (fun _ _ _ h => h) (Or.inl ⟨by rfl, ?_⟩) ?_
            · intro w'; go_simp
            simp only [Act.put, List.setIfInBounds_toArray, List.set_cons_zero, List.set_cons_succ]
            refine wpAnyL_takeY 18 _ (.pointer (some ⟨g, 1, none⟩)) rfl (by kernel_rfl) (by kernel_rfl) (by kernel_rfl) (by kernel_rfl) (fun _ _ _ h => h) (Or.inl ⟨by rfl, ?_⟩) ?_
            · intro w'; go_simp
            simp only [Act.put, List.setIfInBounds_toArray, List.set_cons_zero, List.set_cons_succ]
            refine wpAnyL_all [19] (by kernel_rfl) (by simp) ?_
            refine lateCons ?_ lateNil
            refine wpOpL_step _ rfl (fun K' hK => ?_)
            go_simp
            refine hK.out _ _ (fun h => absurd h (by decide)) ?_
            clear hK K'
            try simp only [Act.put, List.setIfInBounds_toArray, List.set_cons_zero, List.set_cons_succ]
            refine wpAnyL_done (by kernel_rfl) ?_ _
            dsimp only [NoPanic]
            refine (HB.out.newK T1 HR3.out.bel HR3.out.own HR3.out.new).elim ?_
            intro col5 h5
            go_wp2_with fail
            go_meet
            exact ⟨col5, _, h5.1, h5.2⟩
    case rest =>
      obtain ⟨col5, vK5, H5, S5⟩ := hcut
      have T1 := S5.tidy
      have y1 : wc.cell? ⟨g, 2, none⟩ = some (.slice (some ⟨b, 0, none⟩) m.l.length cV) := H5.box.cell 2 rfl
      have R5 := H5.vs.own.reads
      have hjc5 : (j : Int) ≤ (cV : Int) := by omega
      have hjc6 : (j : Int) + 1 ≤ (cV : Int) := by omega
      have Rh := R5.head hple
      have Rd := R5.dropM (by simp [kI]) (i := j + 1) (by omega)
      have HB := Lib.hid H5
      have HS5 := Lib.hid S5
      clear H5 S5 R5 hb1 hb3 hl1 hl3 HA9 x2 y2
      have hb1 : ([] : List Int).length + j ≤ 1000000000 := by simp; omega
      have hl1 : (([] : List Int) ++ m.vals.take j).length = j := by simp [vals_len]; omega
      have hb3 : (([] : List Int) ++ m.vals.take j).length + (m.l.length - (j + 1)) ≤ 1000000000 := by simp; omega
      have hl3 : ((([] : List Int) ++ m.vals.take j) ++ m.vals.drop (j + 1)).length = m.l.length - 1 := by simp [vals_len]; omega
      obtain ⟨A9, hA9⟩ : ∃ A9, A9 = (if cV = (j + 1) then (some (⟨b, 0, none⟩ : Addr)) else (some (⟨b, 0, none⟩ : Addr)).map fun x => x.add (j + 1)) := ⟨_, rfl⟩
      rw [← hA9] at Rd
      have HA9 := Lib.hid hA9
      clear hA9
      go_upto_region 6 with fail
      go_cut [] from 43 to 61 (fun wx => ∃ col6 vV6, RefMB col6 k wx g m.n ((([] : List ByteArray) ++ m.keys.take j) ++ m.keys.drop (j + 1)) ((([] : List Int) ++ m.vals.take j) ++ m.vals.drop (j + 1)) vK5 vV6 ∧ StepC (Rng k) col5 wc col6 wx)
      case first =>
        refine wp_region_noPanic ?_
        refine wp_region_late (fun w' => w'.cell? ⟨g, 2, none⟩ = some (.slice (some ⟨b, 0, none⟩) m.l.length cV)) (fun j => [0, 2, 3, 4, 6, 9, 10, 11, 13, 14, 17, 18, 19].contains j) (by kernel_rfl) ?_
        intro u0 hu0
        have B0 : Below wc.heap.size wc u0 := by rw [← hu0]; exact bdM _
        have hS : (fun w' => w'.cell? ⟨g, 2, none⟩ = some (.slice (some ⟨b, 0, none⟩) m.l.length cV)) u0 := (cellB y1 B0).1
        clear hu0
        refine wpAnyL_takeY 0 _ (.pointer (some ⟨g, 0, none⟩)) rfl (by kernel_rfl) (by kernel_rfl) (by kernel_rfl) (by kernel_rfl) (fun _ _ _ h => h) (Or.inl ⟨by rfl, ?_⟩) ?_
        · intro w'; go_simp
        simp only [Act.put, List.setIfInBounds_toArray, List.set_cons_zero, List.set_cons_succ]
        refine wpAnyL_takeY 2 _ (.pointer (some ⟨g, 0, none⟩)) rfl (by kernel_rfl) (by kernel_rfl) (by kernel_rfl) (by kernel_rfl) (fun _ _ _ h => h) (Or.inl ⟨by rfl, ?_⟩) ?_
        · intro w'; go_simp
        simp only [Act.put, List.setIfInBounds_toArray, List.set_cons_zero, List.set_cons_succ]
        refine wpAnyL_takeY 3 _ (.pointer (some ⟨g, 0, none⟩)) rfl (by kernel_rfl) (by kernel_rfl) (by kernel_rfl) (by kernel_rfl) (fun _ _ _ h => h) (Or.inl ⟨by rfl, ?_⟩) ?_
        · intro w'; go_simp
        simp only [Act.put, List.setIfInBounds_toArray, List.set_cons_zero, List.set_cons_succ]
        refine wpAnyL_takeY 4 _ (.pointer (some ⟨g, 2, none⟩)) rfl (by kernel_rfl) (by kernel_rfl) (by kernel_rfl) (by kernel_rfl) (fun _ _ _ h => h) (Or.inl ⟨by rfl, ?_⟩) ?_
        · intro w'; go_simp
        simp only [Act.put, List.setIfInBounds_toArray, List.set_cons_zero, List.set_cons_succ]
        refine wpAnyL_takeY 6 _ (.int .i64 (j : Int)) rfl (by kernel_rfl) (by kernel_rfl) (by kernel_rfl) (by kernel_rfl) (fun _ _ _ h => h) (Or.inl ⟨by rfl, ?_⟩) ?_
        · intro w'; go_simp
        simp only [Act.put, List.setIfInBounds_toArray, List.set_cons_zero, List.set_cons_succ]
        refine wpAnyL_takeY 9 _ (.pointer (some ⟨g, 0, none⟩)) rfl (by kernel_rfl) (by kernel_rfl) (by kernel_rfl) (by kernel_rfl) (fun _ _ _ h => h) (Or.inl ⟨by rfl, ?_⟩) ?_
        · intro w'; go_simp
        simp only [Act.put, List.setIfInBounds_toArray, List.set_cons_zero, List.set_cons_succ]
        refine wpAnyL_takeY 10 _ (.pointer (some ⟨g, 0, none⟩)) rfl (by kernel_rfl) (by kernel_rfl) (by kernel_rfl) (by kernel_rfl) (fun _ _ _ h => h) (Or.inl ⟨by rfl, ?_⟩) ?_
        · intro w'; go_simp
        simp only [Act.put, List.setIfInBounds_toArray, List.set_cons_zero, List.set_cons_succ]
        refine wpAnyL_takeY 11 _ (.pointer (some ⟨g, 2, none⟩)) rfl (by kernel_rfl) (by kernel_rfl) (by kernel_rfl) (by kernel_rfl) (fun _ _ _ h => h) (Or.inl ⟨by rfl, ?_⟩) ?_
        · intro w'; go_simp
        simp only [Act.put, List.setIfInBounds_toArray, List.set_cons_zero, List.set_cons_succ]
        refine wpAnyL_takeY 13 _ (.int .i64 (j : Int)) rfl (by kernel_rfl) (by kernel_rfl) (by kernel_rfl) (by kernel_rfl) (fun _ _ _ h => h) (Or.inl ⟨by rfl, ?_⟩) ?_
        · intro w'; go_simp
        simp only [Act.put, List.setIfInBounds_toArray, List.set_cons_zero, List.set_cons_succ]
        refine wpAnyL_takeY 14 _ (.int .i64 ((j : Int) + 1)) rfl (by kernel_rfl) (by kernel_rfl) (by kernel_rfl) (by kernel_rfl) (fun _ _ _ h => h) (Or.inl ⟨by rfl, ?_⟩) ?_
        · intro w'; go_simp
        simp only [Act.put, List.setIfInBounds_toArray, List.set_cons_zero, List.set_cons_succ]
        refine wpAnyL_take 5 _ (.slice (some ⟨b, 0, none⟩) m.l.length cV) rfl (by kernel_rfl) (by kernel_rfl) (by kernel_rfl) (by kernel_rfl) (fun _ _ _ h => h) (Or.inl ⟨by rfl, ?_⟩) hS ?_
        · intro w' hSw; go_simp
        simp only [Act.put, List.setIfInBounds_toArray, List.set_cons_zero, List.set_cons_succ]
        refine wpAnyL_take 12 _ (.slice (some ⟨b, 0, none⟩) m.l.length cV) rfl (by kernel_rfl) (by kernel_rfl) (by kernel_rfl) (by kernel_rfl) (fun _ _ _ h => h) (Or.inl ⟨by rfl, ?_⟩) hS ?_
        · intro w' hSw; go_simp
        simp only [Act.put, List.setIfInBounds_toArray, List.set_cons_zero, List.set_cons_succ]
        refine wpAnyL_take 7 _ (.slice (some ⟨b, 0, none⟩) j cV) rfl (by kernel_rfl) (by kernel_rfl) (by kernel_rfl) (by kernel_rfl) (fun _ _ _ h => h) (Or.inl ⟨by rfl, ?_⟩) hS ?_
        · intro w' hSw; go_simp
        simp only [Act.put, List.setIfInBounds_toArray, List.set_cons_zero, List.set_cons_succ]
        refine wpAnyL_take 15 _ (.slice A9 (m.l.length - (j + 1)) (cV - (j + 1))) rfl (by kernel_rfl) (by kernel_rfl) (by kernel_rfl) (by kernel_rfl) (fun _ _ _ h => h) (Or.inl ⟨by rfl, ?_⟩) hS ?_
        · intro w' hSw; rw [HA9.out]; go_simp
        simp only [Act.put, List.setIfInBounds_toArray, List.set_cons_zero, List.set_cons_succ]
        clear hS
        refine wpAnyL_all [1] (by kernel_rfl) (by simp) ?_
        refine (lateCons ?_ lateNil)
        · refine wpOpL_step _ rfl (fun K' hK => ?_)
          refine emptyThen kI (t := 3) rfl B0 ?_
          intro u1 pE e1 e2 R1 k1
          have B1 := R1.bel
          go_simp
          try rw [e1]
          try rw [e2]
          refine hK.out _ _ (fun _ => (cellB y1 B1).1) ?_
          clear hK K' k1 B0
          try simp only [Act.put, List.setIfInBounds_toArray, List.set_cons_zero, List.set_cons_succ]
          refine wpAnyL_all [8] (by kernel_rfl) (by simp) ?_
          refine (lateCons ?_ lateNil)
          · refine wpOpL_step _ rfl (fun K' hK => ?_)
            refine R1.step rfl (.tmp 44) (.tmp 50) rfl rfl _ _ _ _ rfl (Rh.below R1.bel) hb1 hl1 ?_
            intro A2 d2 u2 R2 k2
            have B2 := R2.bel
            clear R1
            refine hK.out _ _ (fun _ => (cellB y1 B2).1) ?_
            clear hK K' k2 B1
            try simp only [Act.put, List.setIfInBounds_toArray, List.set_cons_zero, List.set_cons_succ]
            refine wpAnyL_all [16] (by kernel_rfl) (by simp) ?_
            refine (lateCons ?_ lateNil)
            · refine wpOpL_step _ rfl (fun K' hK => ?_)
              refine R2.step rfl (.tmp 51) (.tmp 58) rfl rfl _ _ _ _ rfl (Rd.below R2.bel) hb3 hl3 ?_
              intro A3 d3 u3 R3 k3
              have B3 := R3.bel
              clear R2
              refine hK.out _ _ (fun _ => (cellB y1 B3).1) ?_
              clear hK K' k3 B2
              try simp only [Act.put, List.setIfInBounds_toArray, List.set_cons_zero, List.set_cons_succ]
              have f0 := (HB.out.below T1 R3.bel).box.free 2
              have c0 := (cellB y1 R3.bel).1
              have HR3 := Lib.hid R3
              clear R3
              refine wpAnyL_takeY 17 _ (.pointer (some ⟨g, 0, none⟩)) rfl (by kernel_rfl) (by kernel_rfl) (by kernel_rfl) (by kernel_rfl) (fun _ _ _ h => h) (Or.inl ⟨by rfl, ?_⟩) ?_
              · intro w'; go_simp
              simp only [Act.put, List.setIfInBounds_toArray, List.set_cons_zero, List.set_cons_succ]
              refine wpAnyL_takeY 18 _ (.pointer (some ⟨g, 2, none⟩)) rfl (by kernel_rfl) (by kernel_rfl) (by kernel_rfl) (by kernel_rfl) (fun _ _ _ h => h) (Or.inl ⟨by rfl, ?_⟩) ?_
              · intro w'; go_simp
              simp only [Act.put, List.setIfInBounds_toArray, List.set_cons_zero, List.set_cons_succ]
              refine wpAnyL_all [19] (by kernel_rfl) (by simp) ?_
              refine lateCons ?_ lateNil
              refine wpOpL_step _ rfl (fun K' hK => ?_)
              go_simp
              refine hK.out _ _ (fun h => absurd h (by decide)) ?_
              clear hK K'
              try simp only [Act.put, List.setIfInBounds_toArray, List.set_cons_zero, List.set_cons_succ]
              refine wpAnyL_done (by kernel_rfl) ?_ _
              dsimp only [NoPanic]
              refine (HB.out.newV T1 HR3.out.bel HR3.out.own HR3.out.new).elim ?_
              intro col6 h6
              go_wp2_with fail
              go_meet
              exact ⟨col6, _, h6.1, h6.2⟩
      case rest =>
        obtain ⟨col6, vV6, H6, S6⟩ := hcut
        have HR := Lib.hid (RefM.tuck (m := { m with l := delM m.l s }) HF.out H6 HK.out.symm HV.out.symm)
        have SS := Lib.hid ((S2.out.trans HS5.out).trans S6)
        clear H6 S6 HB y1 Rh Rd hb1 hb3 hl1 hl3
        go_wp2
        go_ret2
        rw [E0.out, E1.out]
        exact ⟨rfl, col6, HR.out, SS.out⟩
end
end Go.Proofs.Ytdifkcjciblkpaa
