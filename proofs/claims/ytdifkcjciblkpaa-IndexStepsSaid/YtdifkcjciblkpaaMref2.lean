/- The specified table (heavykeysref08.Map) in memory: Put. Conditions: none beyond those typed. -/
import Derived.Test.YtdifkcjciblkpaaMref
import Derived.Test.YtdifkcjciblkpaaKgrow
import Derived.Deep.RegionHeld3
import Derived.Deep.CutRange
namespace Go.Proofs.Ytdifkcjciblkpaa
open Go.ChangeShapes Go.WideShapes Go.ChangeAt Go.RowKit
set_option linter.unusedVariables false
set_option linter.unusedSimpArgs false
set_option maxRecDepth 100000

section
variable {P : Nat → Prop} {col col' : Col} {w w' : World} {k g n : Nat} {m : MSt Int} {vK vV v' : Value} {s : ByteArray} {i : Nat} {p : ByteArray × Int}
theorem put_set {u : Int} (h : m.look s = some u) (v : Int) : m.put s v = (0, { m with l := setM m.l s v }) := by unfold MSt.put; rw [h]
theorem put_full (h : m.look s = none) (hn : m.l.length = m.n) (v : Int) : m.put s v = (7, m) := by unfold MSt.put; rw [h]; exact if_pos hn
theorem put_add (h : m.look s = none) (hn : m.l.length ≠ m.n) (v : Int) : m.put s v = (0, { m with l := addM m.l s v }) := by unfold MSt.put; rw [h]; exact if_neg hn
theorem set_vals (l : List (ByteArray × Int)) (s : ByteArray) (v : Int) : (setM l s v).map Prod.snd = (l.map Prod.snd).set (placeM l s) v := by unfold setM; rw [List.map_set]
theorem add_keys (l : List (ByteArray × Int)) (s : ByteArray) (v : Int) : (addM l s v).map Prod.fst = ((l.map Prod.fst).take (placeM l s) ++ [s]) ++ (l.map Prod.fst).drop (placeM l s) := by unfold addM; simp [List.map_take, List.map_drop]
theorem add_vals (l : List (ByteArray × Int)) (s : ByteArray) (v : Int) : (addM l s v).map Prod.snd = ((l.map Prod.snd).take (placeM l s) ++ [v]) ++ (l.map Prod.snd).drop (placeM l s) := by unfold addM; simp [List.map_take, List.map_drop]
theorem RefM.tuck (hG : GoodM m) {K : List ByteArray} {V : List Int} (h : RefMB col k w g m.n K V vK vV) (hK : K = m.keys) (hV : V = m.vals) : RefM col k w g m := by subst hK hV; exact ⟨hG, _, _, h⟩
set_option maxHeartbeats 4000000 in
theorem rmPut (H : RefM col k w g m) (ht : Tidy col w) (s : ByteArray) (v : Int) (hv : -9223372036854775808 ≤ v ∧ v ≤ 9223372036854775807) :
    Calls Try.prog 20 #[.pointer (some ⟨g, 0, none⟩), .string s, .int .i64 v] w fun e w' => e = .returned (.int .i64 (m.put s v).1) ∧ DidRM col k w g (m.put s v).2 w' := by
  have hGF := H.1.put s v
  go_enter Try.func20, Try.ntmps20
  go_wp2_with fail
  refine (rmAt H s).mono ?_
  rintro e w1 ⟨rfl, hb1⟩
  obtain ⟨hG, vK, vV, H1⟩ := H.below ht hb1
  have ht1 := ht.size hb1.size
  have S1 := StepC.below (P := Rng k) ht hb1
  have hlen := hG.len
  have hn8 := hG.n8
  clear H hb1 ht
  cases hl : m.look s with
  | some u =>
    have E1 := Lib.hid (put_set hl v)
    have hp := look_some hG.srt hl
    obtain ⟨b, c, rfl, y1, ⟨q1, q2⟩, f1⟩ := H1.at_ hp
    have hlt := (List.getElem?_eq_some_iff.1 hp).1
    have x2 : w1.cell? ⟨g, 2, none⟩ = some (.slice (some ⟨b, 0, none⟩) m.l.length c) := H1.box.cell 2 rfl
    obtain ⟨H2, S2⟩ := H1.setV (i := placeM m.l s) (z := v) ht1 (by rw [vals_len]; exact hlt)
    have hK : m.keys = (setM m.l s v).map Prod.fst := (set_keys hG.srt hl).symm
    have hV : m.vals.set (placeM m.l s) v = (setM m.l s v).map Prod.snd := (set_vals m.l s v).symm
    have HF := Lib.hid (show GoodM { m with l := setM m.l s v } by have := hGF; rw [E1.out] at this; exact this)
    have HR := Lib.hid (RefM.tuck (m := { m with l := setM m.l s v }) HF.out H2 hK hV)
    generalize hj : placeM m.l s = j at *
    have hj2 : (j : Int) < (m.l.length : Int) := by omega
    clear H1 H2 hp hl hG hGF hK hV hj hlt hlen
    go_wp2
    go_ret
    rw [E1.out]
    exact ⟨rfl, _, HR.out, S1.trans S2⟩
  | none =>
    obtain ⟨A, c, rfl, hR, _⟩ := H1.ks.own.form (keys_len m)
    have x0 : w1.cell? ⟨g, 0, none⟩ = some (.int .i64 m.n) := H1.box.cell 0 rfl
    have x1 : w1.cell? ⟨g, 1, none⟩ = some (.slice A m.l.length c) := H1.box.cell 1 rfl
    have hple := place_le m.l s
    by_cases hn : m.l.length = m.n
    · have E1 := Lib.hid (put_full hl hn v)
      have he : ((m.l.length : Int) == (m.n : Int)) = true := by rw [beq_iff_eq]; omega
      have HR := Lib.hid (show RefM col k w1 g m from ⟨hG, _, _, H1⟩)
      clear H1 hG hGF hl hR hn hple hlen
      go_wp2
      go_quiet (fail)
      go_wp2
      go_ret
      rw [E1.out]
      exact ⟨rfl, col, HR.out.below ht1 (below_drewN (Below.refl _ _) _), S1.trans (StepC.below ht1 (below_drewN (Below.refl _ _) _))⟩
    · have E1 := Lib.hid (put_add hl hn v)
      have he : ((m.l.length : Int) == (m.n : Int)) = false := by rw [beq_eq_false_iff_ne]; omega
      have HF := Lib.hid (show GoodM { m with l := addM m.l s v } by have := hGF; rw [E1.out] at this; exact this)
      have HK := Lib.hid (add_keys m.l s v)
      have HV := Lib.hid (add_vals m.l s v)
      have HH1 := Lib.hid H1
      have HN := Lib.hid hn
      clear H1 hG hGF hl hn hR
      go_wp2
      go_quiet (fail)
      obtain ⟨W1, hW1⟩ : ∃ W1, W1 = w1.drewN nq := ⟨_, rfl⟩
      have hb1 := below_drewN (Below.refl w1.heap.size w1) nq
      rw [← hW1] at hb1 ⊢
      have H1 := HH1.out.below ht1 hb1
      have T1 : Tidy col W1 := ht1.size hb1.size
      have S2 := Lib.hid (S1.trans (StepC.below (P := Rng k) ht1 hb1))
      have y1 : W1.cell? ⟨g, 1, none⟩ = some (.slice A m.l.length c) := H1.box.cell 1 rfl
      have R1 := H1.ks.own.reads
      clear hW1 hb1 HH1 ht1 S1 x0 x1 he
      generalize hj : placeM m.l s = j at *
      have hkl := keys_len m
      have hj2 : (j : Int) ≤ (m.l.length : Int) := by omega
      have hcap := R1.cap
      have hmax := R1.max
      have hjc : (j : Int) ≤ (c : Int) := by omega
      have hjc2 : j ≤ c := by omega
      have f1 := H1.box.free 1
      have Rh := R1.head hple
      have Rd := R1.dropM (by simp [kT]) hple
      have hHH := Lib.hid H1
      have hb1 : ([] : List ByteArray).length + j ≤ 1000000000 := by simp; omega
      have hl1 : (([] : List ByteArray) ++ m.keys.take j).length = j := by simp [keys_len]; omega
      have hb2 : (([] : List ByteArray) ++ m.keys.take j).length + 1 ≤ 1000000000 := by simp; omega
      have hl2 : ((([] : List ByteArray) ++ m.keys.take j) ++ [s]).length = j + 1 := by simp [keys_len]; omega
      have hb3 : ((([] : List ByteArray) ++ m.keys.take j) ++ [s]).length + (m.l.length - j) ≤ 1000000000 := by simp; omega
      have hl3 : (((([] : List ByteArray) ++ m.keys.take j) ++ [s]) ++ m.keys.drop j).length = m.l.length + 1 := by simp [keys_len]; omega
      obtain ⟨A9, hA9⟩ : ∃ A9, A9 = (if c = j then A else A.map fun x => x.add j) := ⟨_, rfl⟩
      rw [← hA9] at Rd
      have HA9 := Lib.hid hA9
      clear hA9
      have HB := hHH
      have HKK := HK
      clear H1 hj hHH
      go_upto_region 7 with fail
      go_cut [] from 33 to 53 (fun wx => ∃ col5 vK5, RefMB col5 k wx g m.n (((([] : List ByteArray) ++ m.keys.take j) ++ [s]) ++ m.keys.drop j) m.vals vK5 vV ∧ StepC (Rng k) col W1 col5 wx)
      case first =>
        refine wp_region_noPanic ?_
        refine wp_region_late (fun w' => w'.cell? ⟨g, 1, none⟩ = some (.slice A m.l.length c)) (fun j => [0, 2, 3, 4, 6, 9, 12, 13, 14, 16, 19, 20, 21].contains j) (by kernel_rfl) ?_
        intro u0 hu0
        have B0 : Below W1.heap.size W1 u0 := by rw [← hu0]; exact bdM _
        have hS : (fun w' => w'.cell? ⟨g, 1, none⟩ = some (.slice A m.l.length c)) u0 := (cellB y1 B0).1
        clear hu0
        refine wpAnyL_takeY 0 _ (.pointer (some ⟨g, 0, none⟩)) rfl (by kernel_rfl) (by kernel_rfl) (by kernel_rfl) (by kernel_rfl) (fun _ _ _ h => h) (Or.inl ⟨by rfl, ?_⟩) ?_
        · intro w'; go_simp
        simp only [Act.put, List.setIfInBounds_toArray, List.set_cons_zero, List.set_cons_succ]
        refine wpAnyL_takeY 2 _ (.pointer (some ⟨g, 0, none⟩)) rfl (by kernel_rfl) (by kernel_rfl) (by kernel_rfl) (by kernel_rfl) (fun _ _ _ h => h) (Or.inl ⟨by rfl, ?_⟩) ?_
        · intro w'; go_simp
        simp only [Act.put, List.setIfInBounds_toArray, List.set_cons_zero, List.set_cons_succ]
        refine wpAnyL_takeY 3 _ (.pointer (some ⟨g, 0, none⟩)) rfl (by kernel_rfl) (by kernel_rfl) (by kernel_rfl) (by kernel_rfl) (fun _ _ _ h => h) (Or.inl ⟨by rfl, ?_⟩) ?_
        · intro w'; go_simp
        simp only [Act.put, List.setIfInBounds_toArray, List.set_cons_zero, List.set_cons_succ]
        refine wpAnyL_takeY 4 _ (.pointer (some ⟨g, 1, none⟩)) rfl (by kernel_rfl) (by kernel_rfl) (by kernel_rfl) (by kernel_rfl) (fun _ _ _ h => h) (Or.inl ⟨by rfl, ?_⟩) ?_
        · intro w'; go_simp
        simp only [Act.put, List.setIfInBounds_toArray, List.set_cons_zero, List.set_cons_succ]
        refine wpAnyL_takeY 6 _ (.int .i64 (j : Int)) rfl (by kernel_rfl) (by kernel_rfl) (by kernel_rfl) (by kernel_rfl) (fun _ _ _ h => h) (Or.inl ⟨by rfl, ?_⟩) ?_
        · intro w'; go_simp
        simp only [Act.put, List.setIfInBounds_toArray, List.set_cons_zero, List.set_cons_succ]
        refine wpAnyL_takeY 9 _ (.string s) rfl (by kernel_rfl) (by kernel_rfl) (by kernel_rfl) (by kernel_rfl) (fun _ _ _ h => h) (Or.inl ⟨by rfl, ?_⟩) ?_
        · intro w'; go_simp
        simp only [Act.put, List.setIfInBounds_toArray, List.set_cons_zero, List.set_cons_succ]
        refine wpAnyL_takeY 12 _ (.pointer (some ⟨g, 0, none⟩)) rfl (by kernel_rfl) (by kernel_rfl) (by kernel_rfl) (by kernel_rfl) (fun _ _ _ h => h) (Or.inl ⟨by rfl, ?_⟩) ?_
        · intro w'; go_simp
        simp only [Act.put, List.setIfInBounds_toArray, List.set_cons_zero, List.set_cons_succ]
        refine wpAnyL_takeY 13 _ (.pointer (some ⟨g, 0, none⟩)) rfl (by kernel_rfl) (by kernel_rfl) (by kernel_rfl) (by kernel_rfl) (fun _ _ _ h => h) (Or.inl ⟨by rfl, ?_⟩) ?_
        · intro w'; go_simp
        simp only [Act.put, List.setIfInBounds_toArray, List.set_cons_zero, List.set_cons_succ]
        refine wpAnyL_takeY 14 _ (.pointer (some ⟨g, 1, none⟩)) rfl (by kernel_rfl) (by kernel_rfl) (by kernel_rfl) (by kernel_rfl) (fun _ _ _ h => h) (Or.inl ⟨by rfl, ?_⟩) ?_
        · intro w'; go_simp
        simp only [Act.put, List.setIfInBounds_toArray, List.set_cons_zero, List.set_cons_succ]
        refine wpAnyL_takeY 16 _ (.int .i64 (j : Int)) rfl (by kernel_rfl) (by kernel_rfl) (by kernel_rfl) (by kernel_rfl) (fun _ _ _ h => h) (Or.inl ⟨by rfl, ?_⟩) ?_
        · intro w'; go_simp
        simp only [Act.put, List.setIfInBounds_toArray, List.set_cons_zero, List.set_cons_succ]
        refine wpAnyL_take 5 _ (.slice A m.l.length c) rfl (by kernel_rfl) (by kernel_rfl) (by kernel_rfl) (by kernel_rfl) (fun _ _ _ h => h) (Or.inl ⟨by rfl, ?_⟩) hS ?_
        · intro w' hSw; go_simp
        simp only [Act.put, List.setIfInBounds_toArray, List.set_cons_zero, List.set_cons_succ]
        refine wpAnyL_take 15 _ (.slice A m.l.length c) rfl (by kernel_rfl) (by kernel_rfl) (by kernel_rfl) (by kernel_rfl) (fun _ _ _ h => h) (Or.inl ⟨by rfl, ?_⟩) hS ?_
        · intro w' hSw; go_simp
        simp only [Act.put, List.setIfInBounds_toArray, List.set_cons_zero, List.set_cons_succ]
        refine wpAnyL_take 7 _ (.slice A j c) rfl (by kernel_rfl) (by kernel_rfl) (by kernel_rfl) (by kernel_rfl) (fun _ _ _ h => h) (Or.inl ⟨by rfl, ?_⟩) hS ?_
        · intro w' hSw; go_simp
        simp only [Act.put, List.setIfInBounds_toArray, List.set_cons_zero, List.set_cons_succ]
        refine wpAnyL_take 17 _ (.slice A9 (m.l.length - j) (c - j)) rfl (by kernel_rfl) (by kernel_rfl) (by kernel_rfl) (by kernel_rfl) (fun _ _ _ h => h) (Or.inl ⟨by rfl, ?_⟩) hS ?_
        · intro w' hSw; rw [HA9.out]; go_simp
        simp only [Act.put, List.setIfInBounds_toArray, List.set_cons_zero, List.set_cons_succ]
        clear hS
        refine wpAnyL_all [1, 10] (by kernel_rfl) (by simp) ?_
        refine (lateCons ?_ (lateCons ?_ lateNil))
        · refine wpOpL_step _ rfl (fun K' hK => ?_)
          refine emptyThen kT (t := 9) rfl B0 ?_
          intro u1 pE e1 e2 R1 k1
          have B1 := R1.bel
          go_simp
          try rw [e1]
          try rw [e2]
          refine hK.out _ _ (fun _ => (cellB y1 B1).1) ?_
          clear hK K' k1 B0
          try simp only [Act.put, List.setIfInBounds_toArray, List.set_cons_zero, List.set_cons_succ]
          refine wpAnyL_all [8, 10] (by kernel_rfl) (by simp) ?_
          refine (lateCons ?_ (lateCons ?_ lateNil))
          · refine wpOpL_step _ rfl (fun K' hK => ?_)
            refine R1.step rfl (.tmp 34) (.tmp 40) rfl rfl _ _ _ _ rfl (Rh.below R1.bel) hb1 hl1 ?_
            intro A2 d2 u2 R2 k2
            have B2 := R2.bel
            clear R1
            refine hK.out _ _ (fun _ => (cellB y1 B2).1) ?_
            clear hK K' k2 B1
            try simp only [Act.put, List.setIfInBounds_toArray, List.set_cons_zero, List.set_cons_succ]
            refine wpAnyL_all [10] (by kernel_rfl) (by simp) ?_
            refine (lateCons ?_ lateNil)
            · refine wpOpL_step _ rfl (fun K' hK => ?_)
              refine litThen kT s (cs := #[.string s]) rfl (t := 9) rfl B2 ?_
              intro u3 pL e1 e2 B3 L k3
              refine (k3 _ _ R2).elim ?_
              intro R3 Ln
              clear R2
              go_simp
              try rw [e1]
              try rw [e2]
              refine hK.out _ _ (fun _ => (cellB y1 B3).1) ?_
              clear hK K' k3 B2
              try simp only [Act.put, List.setIfInBounds_toArray, List.set_cons_zero, List.set_cons_succ]
              refine wpAnyL_all [11] (by kernel_rfl) (by simp) ?_
              refine (lateCons ?_ lateNil)
              · refine wpOpL_step _ rfl (fun K' hK => ?_)
                refine R3.step rfl (.tmp 41) (.tmp 43) rfl rfl _ _ _ _ rfl L hb2 hl2 ?_
                intro A4 d4 u4 R4 k4
                have B4 := R4.bel
                clear L
                clear R3
                refine hK.out _ _ (fun _ => (cellB y1 B4).1) ?_
                clear hK K' k4 B3
                try simp only [Act.put, List.setIfInBounds_toArray, List.set_cons_zero, List.set_cons_succ]
                refine wpAnyL_all [18] (by kernel_rfl) (by simp) ?_
                refine (lateCons ?_ lateNil)
                · refine wpOpL_step _ rfl (fun K' hK => ?_)
                  refine R4.step rfl (.tmp 44) (.tmp 50) rfl rfl _ _ _ _ rfl (Rd.below R4.bel) hb3 hl3 ?_
                  intro A5 d5 u5 R5 k5
                  have B5 := R5.bel
                  clear R4
                  refine hK.out _ _ (fun _ => (cellB y1 B5).1) ?_
                  clear hK K' k5 B4
                  try simp only [Act.put, List.setIfInBounds_toArray, List.set_cons_zero, List.set_cons_succ]
                  have f0 := (HB.out.below T1 R5.bel).box.free 1
                  have c0 := (cellB y1 R5.bel).1
                  have HR5 := Lib.hid R5
                  clear R5
                  refine wpAnyL_takeY 19 _ (.pointer (some ⟨g, 0, none⟩)) rfl (by kernel_rfl) (by kernel_rfl) (by kernel_rfl) (by kernel_rfl) (fun _ _ _ h => h) (Or.inl ⟨by rfl, ?_⟩) ?_
                  · intro w'; go_simp
                  simp only [Act.put, List.setIfInBounds_toArray, List.set_cons_zero, List.set_cons_succ]
                  refine wpAnyL_takeY 20 _ (.pointer (some ⟨g, 1, none⟩)) rfl (by kernel_rfl) (by kernel_rfl) (by kernel_rfl) (by kernel_rfl) (fun _ _ _ h => h) (Or.inl ⟨by rfl, ?_⟩) ?_
                  · intro w'; go_simp
                  simp only [Act.put, List.setIfInBounds_toArray, List.set_cons_zero, List.set_cons_succ]
                  refine wpAnyL_all [21] (by kernel_rfl) (by simp) ?_
                  refine lateCons ?_ lateNil
                  refine wpOpL_step _ rfl (fun K' hK => ?_)
                  go_simp
                  refine hK.out _ _ (fun h => absurd h (by decide)) ?_
                  clear hK K'
                  try simp only [Act.put, List.setIfInBounds_toArray, List.set_cons_zero, List.set_cons_succ]
                  refine wpAnyL_done (by kernel_rfl) ?_ _
                  dsimp only [NoPanic]
                  refine (HB.out.newK T1 HR5.out.bel HR5.out.own HR5.out.new).elim ?_
                  intro col5 h5
                  go_wp2_with fail
                  go_meet
                  exact ⟨col5, _, h5.1, h5.2⟩
          · refine wpOpL_step _ rfl (fun K' hK => ?_)
            refine litThen kT s (cs := #[.string s]) rfl (t := 9) rfl B1 ?_
            intro u2 pL e1 e2 B2 L k2
            refine (k2 _ _ R1).elim ?_
            intro R2 Ln
            clear R1
            go_simp
            try rw [e1]
            try rw [e2]
            refine hK.out _ _ (fun _ => (cellB y1 B2).1) ?_
            clear hK K' k2 B1
            try simp only [Act.put, List.setIfInBounds_toArray, List.set_cons_zero, List.set_cons_succ]
            refine wpAnyL_all [8] (by kernel_rfl) (by simp) ?_
            refine (lateCons ?_ lateNil)
            · refine wpOpL_step _ rfl (fun K' hK => ?_)
              refine R2.step rfl (.tmp 34) (.tmp 40) rfl rfl _ _ _ _ rfl (Rh.below R2.bel) hb1 hl1 ?_
              intro A3 d3 u3 R3 k3
              have B3 := R3.bel
              have L := k3 _ _ _ _ L Ln
              clear Ln
              clear R2
              refine hK.out _ _ (fun _ => (cellB y1 B3).1) ?_
              clear hK K' k3 B2
              try simp only [Act.put, List.setIfInBounds_toArray, List.set_cons_zero, List.set_cons_succ]
              refine wpAnyL_all [11] (by kernel_rfl) (by simp) ?_
              refine (lateCons ?_ lateNil)
              · refine wpOpL_step _ rfl (fun K' hK => ?_)
                refine R3.step rfl (.tmp 41) (.tmp 43) rfl rfl _ _ _ _ rfl L hb2 hl2 ?_
                intro A4 d4 u4 R4 k4
                have B4 := R4.bel
                clear L
                clear R3
                refine hK.out _ _ (fun _ => (cellB y1 B4).1) ?_
                clear hK K' k4 B3
                try simp only [Act.put, List.setIfInBounds_toArray, List.set_cons_zero, List.set_cons_succ]
                refine wpAnyL_all [18] (by kernel_rfl) (by simp) ?_
                refine (lateCons ?_ lateNil)
                · refine wpOpL_step _ rfl (fun K' hK => ?_)
                  refine R4.step rfl (.tmp 44) (.tmp 50) rfl rfl _ _ _ _ rfl (Rd.below R4.bel) hb3 hl3 ?_
                  intro A5 d5 u5 R5 k5
                  have B5 := R5.bel
                  clear R4
                  refine hK.out _ _ (fun _ => (cellB y1 B5).1) ?_
                  clear hK K' k5 B4
                  try simp only [Act.put, List.setIfInBounds_toArray, List.set_cons_zero, List.set_cons_succ]
                  have f0 := (HB.out.below T1 R5.bel).box.free 1
                  have c0 := (cellB y1 R5.bel).1
                  have HR5 := Lib.hid R5
                  clear R5
                  refine wpAnyL_takeY 19 _ (.pointer (some ⟨g, 0, none⟩)) rfl (by kernel_rfl) (by kernel_rfl) (by kernel_rfl) (by kernel_rfl) (fun _ _ _ h => h) (Or.inl ⟨by rfl, ?_⟩) ?_
                  · intro w'; go_simp
                  simp only [Act.put, List.setIfInBounds_toArray, List.set_cons_zero, List.set_cons_succ]
                  refine wpAnyL_takeY 20 _ (.pointer (some ⟨g, 1, none⟩)) rfl (by kernel_rfl) (by kernel_rfl) (by kernel_rfl) (by kernel_rfl) (fun _ _ _ h => h) (Or.inl ⟨by rfl, ?_⟩) ?_
                  · intro w'; go_simp
                  simp only [Act.put, List.setIfInBounds_toArray, List.set_cons_zero, List.set_cons_succ]
                  refine wpAnyL_all [21] (by kernel_rfl) (by simp) ?_
                  refine lateCons ?_ lateNil
                  refine wpOpL_step _ rfl (fun K' hK => ?_)
                  go_simp
                  refine hK.out _ _ (fun h => absurd h (by decide)) ?_
                  clear hK K'
                  try simp only [Act.put, List.setIfInBounds_toArray, List.set_cons_zero, List.set_cons_succ]
                  refine wpAnyL_done (by kernel_rfl) ?_ _
                  dsimp only [NoPanic]
                  refine (HB.out.newK T1 HR5.out.bel HR5.out.own HR5.out.new).elim ?_
                  intro col5 h5
                  go_wp2_with fail
                  go_meet
                  exact ⟨col5, _, h5.1, h5.2⟩
        · refine wpOpL_step _ rfl (fun K' hK => ?_)
          refine litThen kT s (cs := #[.string s]) rfl (t := 9) rfl B0 ?_
          intro u1 pL e1 e2 B1 L k1
          go_simp
          try rw [e1]
          try rw [e2]
          refine hK.out _ _ (fun _ => (cellB y1 B1).1) ?_
          clear hK K' k1 B0
          try simp only [Act.put, List.setIfInBounds_toArray, List.set_cons_zero, List.set_cons_succ]
          refine wpAnyL_all [1] (by kernel_rfl) (by simp) ?_
          refine (lateCons ?_ lateNil)
          · refine wpOpL_step _ rfl (fun K' hK => ?_)
            refine emptyThen kT (t := 9) rfl B1 ?_
            intro u2 pE e1 e2 R2 k2
            have B2 := R2.bel
            have Lb := RdG.inB L
            have Ln : (Value.slice (some ⟨pE, 0, none⟩) 0 0).ownBlock ≠ some pL := by rw [← e2]; exact lit_ne (by omega)
            have L := k2 _ _ _ _ L
            clear Lb
            go_simp
            try rw [e1]
            try rw [e2]
            refine hK.out _ _ (fun _ => (cellB y1 B2).1) ?_
            clear hK K' k2 B1
            try simp only [Act.put, List.setIfInBounds_toArray, List.set_cons_zero, List.set_cons_succ]
            refine wpAnyL_all [8] (by kernel_rfl) (by simp) ?_
            refine (lateCons ?_ lateNil)
            · refine wpOpL_step _ rfl (fun K' hK => ?_)
              refine R2.step rfl (.tmp 34) (.tmp 40) rfl rfl _ _ _ _ rfl (Rh.below R2.bel) hb1 hl1 ?_
              intro A3 d3 u3 R3 k3
              have B3 := R3.bel
              have L := k3 _ _ _ _ L Ln
              clear Ln
              clear R2
              refine hK.out _ _ (fun _ => (cellB y1 B3).1) ?_
              clear hK K' k3 B2
              try simp only [Act.put, List.setIfInBounds_toArray, List.set_cons_zero, List.set_cons_succ]
              refine wpAnyL_all [11] (by kernel_rfl) (by simp) ?_
              refine (lateCons ?_ lateNil)
              · refine wpOpL_step _ rfl (fun K' hK => ?_)
                refine R3.step rfl (.tmp 41) (.tmp 43) rfl rfl _ _ _ _ rfl L hb2 hl2 ?_
                intro A4 d4 u4 R4 k4
                have B4 := R4.bel
                clear L
                clear R3
                refine hK.out _ _ (fun _ => (cellB y1 B4).1) ?_
                clear hK K' k4 B3
                try simp only [Act.put, List.setIfInBounds_toArray, List.set_cons_zero, List.set_cons_succ]
                refine wpAnyL_all [18] (by kernel_rfl) (by simp) ?_
                refine (lateCons ?_ lateNil)
                · refine wpOpL_step _ rfl (fun K' hK => ?_)
                  refine R4.step rfl (.tmp 44) (.tmp 50) rfl rfl _ _ _ _ rfl (Rd.below R4.bel) hb3 hl3 ?_
                  intro A5 d5 u5 R5 k5
                  have B5 := R5.bel
                  clear R4
                  refine hK.out _ _ (fun _ => (cellB y1 B5).1) ?_
                  clear hK K' k5 B4
                  try simp only [Act.put, List.setIfInBounds_toArray, List.set_cons_zero, List.set_cons_succ]
                  have f0 := (HB.out.below T1 R5.bel).box.free 1
                  have c0 := (cellB y1 R5.bel).1
                  have HR5 := Lib.hid R5
                  clear R5
                  refine wpAnyL_takeY 19 _ (.pointer (some ⟨g, 0, none⟩)) rfl (by kernel_rfl) (by kernel_rfl) (by kernel_rfl) (by kernel_rfl) (fun _ _ _ h => h) (Or.inl ⟨by rfl, ?_⟩) ?_
                  · intro w'; go_simp
                  simp only [Act.put, List.setIfInBounds_toArray, List.set_cons_zero, List.set_cons_succ]
                  refine wpAnyL_takeY 20 _ (.pointer (some ⟨g, 1, none⟩)) rfl (by kernel_rfl) (by kernel_rfl) (by kernel_rfl) (by kernel_rfl) (fun _ _ _ h => h) (Or.inl ⟨by rfl, ?_⟩) ?_
                  · intro w'; go_simp
                  simp only [Act.put, List.setIfInBounds_toArray, List.set_cons_zero, List.set_cons_succ]
                  refine wpAnyL_all [21] (by kernel_rfl) (by simp) ?_
                  refine lateCons ?_ lateNil
                  refine wpOpL_step _ rfl (fun K' hK => ?_)
                  go_simp
                  refine hK.out _ _ (fun h => absurd h (by decide)) ?_
                  clear hK K'
                  try simp only [Act.put, List.setIfInBounds_toArray, List.set_cons_zero, List.set_cons_succ]
                  refine wpAnyL_done (by kernel_rfl) ?_ _
                  dsimp only [NoPanic]
                  refine (HB.out.newK T1 HR5.out.bel HR5.out.own HR5.out.new).elim ?_
                  intro col5 h5
                  go_wp2_with fail
                  go_meet
                  exact ⟨col5, _, h5.1, h5.2⟩
      case rest =>
        obtain ⟨col5, vK5, H5, S5⟩ := hcut
        have T1 := S5.tidy
        obtain ⟨A5, c5, rfl, R5, _⟩ := H5.vs.own.form (vals_len m)
        have y1 : wc.cell? ⟨g, 2, none⟩ = some (.slice A5 m.l.length c5) := H5.box.cell 2 rfl
        have hcap5 := R5.cap
        have hmax5 := R5.max
        have hjc5 : (j : Int) ≤ (c5 : Int) := by omega
        have hjc6 : j ≤ c5 := by omega
        have Rh := R5.head hple
        have Rd := R5.dropM (by simp [kI]) hple
        have HB := Lib.hid H5
        have HS5 := Lib.hid S5
        clear H5 S5 R5 hb1 hb2 hb3 hl1 hl2 hl3 HA9
        have hb1 : ([] : List Int).length + j ≤ 1000000000 := by simp; omega
        have hl1 : (([] : List Int) ++ m.vals.take j).length = j := by simp [vals_len]; omega
        have hb2 : (([] : List Int) ++ m.vals.take j).length + 1 ≤ 1000000000 := by simp; omega
        have hl2 : ((([] : List Int) ++ m.vals.take j) ++ [v]).length = j + 1 := by simp [vals_len]; omega
        have hb3 : ((([] : List Int) ++ m.vals.take j) ++ [v]).length + (m.l.length - j) ≤ 1000000000 := by simp; omega
        have hl3 : (((([] : List Int) ++ m.vals.take j) ++ [v]) ++ m.vals.drop j).length = m.l.length + 1 := by simp [vals_len]; omega
        obtain ⟨A9, hA9⟩ : ∃ A9, A9 = (if c5 = j then A5 else A5.map fun x => x.add j) := ⟨_, rfl⟩
        rw [← hA9] at Rd
        have HA9 := Lib.hid hA9
        clear hA9
        go_upto_region 8 with fail
        go_cut [] from 54 to 74 (fun wx => ∃ col6 vV6, RefMB col6 k wx g m.n (((([] : List ByteArray) ++ m.keys.take j) ++ [s]) ++ m.keys.drop j) (((([] : List Int) ++ m.vals.take j) ++ [v]) ++ m.vals.drop j) vK5 vV6 ∧ StepC (Rng k) col5 wc col6 wx)
        case first =>
          refine wp_region_noPanic ?_
          refine wp_region_late (fun w' => w'.cell? ⟨g, 2, none⟩ = some (.slice A5 m.l.length c5)) (fun j => [0, 2, 3, 4, 6, 9, 12, 13, 14, 16, 19, 20, 21].contains j) (by kernel_rfl) ?_
          intro u0 hu0
          have B0 : Below wc.heap.size wc u0 := by rw [← hu0]; exact bdM _
          have hS : (fun w' => w'.cell? ⟨g, 2, none⟩ = some (.slice A5 m.l.length c5)) u0 := (cellB y1 B0).1
          clear hu0
          refine wpAnyL_takeY 0 _ (.pointer (some ⟨g, 0, none⟩)) rfl (by kernel_rfl) (by kernel_rfl) (by kernel_rfl) (by kernel_rfl) (fun _ _ _ h => h) (Or.inl ⟨by rfl, ?_⟩) ?_
          · intro w'; go_simp
          simp only [Act.put, List.setIfInBounds_toArray, List.set_cons_zero, List.set_cons_succ]
          refine wpAnyL_takeY 2 _ (.pointer (some ⟨g, 0, none⟩)) rfl (by kernel_rfl) (by kernel_rfl) (by kernel_rfl) (by kernel_rfl) (fun _ _ _ h => h) (Or.inl ⟨by rfl, ?_⟩) ?_
          · intro w'; go_simp
          simp only [Act.put, List.setIfInBounds_toArray, List.set_cons_zero, List.set_cons_succ]
          refine wpAnyL_takeY 3 _ (.pointer (some ⟨g, 0, none⟩)) rfl (by kernel_rfl) (by kernel_rfl) (by kernel_rfl) (by kernel_rfl) (fun _ _ _ h => h) (Or.inl ⟨by rfl, ?_⟩) ?_
          · intro w'; go_simp
          simp only [Act.put, List.setIfInBounds_toArray, List.set_cons_zero, List.set_cons_succ]
          refine wpAnyL_takeY 4 _ (.pointer (some ⟨g, 2, none⟩)) rfl (by kernel_rfl) (by kernel_rfl) (by kernel_rfl) (by kernel_rfl) (fun _ _ _ h => h) (Or.inl ⟨by rfl, ?_⟩) ?_
          · intro w'; go_simp
          simp only [Act.put, List.setIfInBounds_toArray, List.set_cons_zero, List.set_cons_succ]
          refine wpAnyL_takeY 6 _ (.int .i64 (j : Int)) rfl (by kernel_rfl) (by kernel_rfl) (by kernel_rfl) (by kernel_rfl) (fun _ _ _ h => h) (Or.inl ⟨by rfl, ?_⟩) ?_
          · intro w'; go_simp
          simp only [Act.put, List.setIfInBounds_toArray, List.set_cons_zero, List.set_cons_succ]
          refine wpAnyL_takeY 9 _ (.int .i64 v) rfl (by kernel_rfl) (by kernel_rfl) (by kernel_rfl) (by kernel_rfl) (fun _ _ _ h => h) (Or.inl ⟨by rfl, ?_⟩) ?_
          · intro w'; go_simp
          simp only [Act.put, List.setIfInBounds_toArray, List.set_cons_zero, List.set_cons_succ]
          refine wpAnyL_takeY 12 _ (.pointer (some ⟨g, 0, none⟩)) rfl (by kernel_rfl) (by kernel_rfl) (by kernel_rfl) (by kernel_rfl) (fun _ _ _ h => h) (Or.inl ⟨by rfl, ?_⟩) ?_
          · intro w'; go_simp
          simp only [Act.put, List.setIfInBounds_toArray, List.set_cons_zero, List.set_cons_succ]
          refine wpAnyL_takeY 13 _ (.pointer (some ⟨g, 0, none⟩)) rfl (by kernel_rfl) (by kernel_rfl) (by kernel_rfl) (by kernel_rfl) (fun _ _ _ h => h) (Or.inl ⟨by rfl, ?_⟩) ?_
          · intro w'; go_simp
          simp only [Act.put, List.setIfInBounds_toArray, List.set_cons_zero, List.set_cons_succ]
          refine wpAnyL_takeY 14 _ (.pointer (some ⟨g, 2, none⟩)) rfl (by kernel_rfl) (by kernel_rfl) (by kernel_rfl) (by kernel_rfl) (fun _ _ _ h => h) (Or.inl ⟨by rfl, ?_⟩) ?_
          · intro w'; go_simp
          simp only [Act.put, List.setIfInBounds_toArray, List.set_cons_zero, List.set_cons_succ]
          refine wpAnyL_takeY 16 _ (.int .i64 (j : Int)) rfl (by kernel_rfl) (by kernel_rfl) (by kernel_rfl) (by kernel_rfl) (fun _ _ _ h => h) (Or.inl ⟨by rfl, ?_⟩) ?_
          · intro w'; go_simp
          simp only [Act.put, List.setIfInBounds_toArray, List.set_cons_zero, List.set_cons_succ]
          refine wpAnyL_take 5 _ (.slice A5 m.l.length c5) rfl (by kernel_rfl) (by kernel_rfl) (by kernel_rfl) (by kernel_rfl) (fun _ _ _ h => h) (Or.inl ⟨by rfl, ?_⟩) hS ?_
          · intro w' hSw; go_simp
          simp only [Act.put, List.setIfInBounds_toArray, List.set_cons_zero, List.set_cons_succ]
          refine wpAnyL_take 15 _ (.slice A5 m.l.length c5) rfl (by kernel_rfl) (by kernel_rfl) (by kernel_rfl) (by kernel_rfl) (fun _ _ _ h => h) (Or.inl ⟨by rfl, ?_⟩) hS ?_
          · intro w' hSw; go_simp
          simp only [Act.put, List.setIfInBounds_toArray, List.set_cons_zero, List.set_cons_succ]
          refine wpAnyL_take 7 _ (.slice A5 j c5) rfl (by kernel_rfl) (by kernel_rfl) (by kernel_rfl) (by kernel_rfl) (fun _ _ _ h => h) (Or.inl ⟨by rfl, ?_⟩) hS ?_
          · intro w' hSw; go_simp
          simp only [Act.put, List.setIfInBounds_toArray, List.set_cons_zero, List.set_cons_succ]
          refine wpAnyL_take 17 _ (.slice A9 (m.l.length - j) (c5 - j)) rfl (by kernel_rfl) (by kernel_rfl) (by kernel_rfl) (by kernel_rfl) (fun _ _ _ h => h) (Or.inl ⟨by rfl, ?_⟩) hS ?_
          · intro w' hSw; rw [HA9.out]; go_simp
          simp only [Act.put, List.setIfInBounds_toArray, List.set_cons_zero, List.set_cons_succ]
          clear hS
          refine wpAnyL_all [1, 10] (by kernel_rfl) (by simp) ?_
          refine (lateCons ?_ (lateCons ?_ lateNil))
          · refine wpOpL_step _ rfl (fun K' hK => ?_)
            refine emptyThen kI (t := 3) rfl B0 ?_
            intro u1 pE e1 e2 R1 k1
            have B1 := R1.bel
            go_simp
            try rw [e1]
            try rw [e2]
            refine hK.out _ _ (fun _ => (cellB y1 B1).1) ?_
            clear hK K' k1 B0
            try simp only [Act.put, List.setIfInBounds_toArray, List.set_cons_zero, List.set_cons_succ]
            refine wpAnyL_all [8, 10] (by kernel_rfl) (by simp) ?_
            refine (lateCons ?_ (lateCons ?_ lateNil))
            · refine wpOpL_step _ rfl (fun K' hK => ?_)
              refine R1.step rfl (.tmp 55) (.tmp 61) rfl rfl _ _ _ _ rfl (Rh.below R1.bel) hb1 hl1 ?_
              intro A2 d2 u2 R2 k2
              have B2 := R2.bel
              clear R1
              refine hK.out _ _ (fun _ => (cellB y1 B2).1) ?_
              clear hK K' k2 B1
              try simp only [Act.put, List.setIfInBounds_toArray, List.set_cons_zero, List.set_cons_succ]
              refine wpAnyL_all [10] (by kernel_rfl) (by simp) ?_
              refine (lateCons ?_ lateNil)
              · refine wpOpL_step _ rfl (fun K' hK => ?_)
                refine litThen kI v (cs := #[.int .i64 v]) rfl (t := 3) rfl B2 ?_
                intro u3 pL e1 e2 B3 L k3
                refine (k3 _ _ R2).elim ?_
                intro R3 Ln
                clear R2
                go_simp
                try rw [e1]
                try rw [e2]
                refine hK.out _ _ (fun _ => (cellB y1 B3).1) ?_
                clear hK K' k3 B2
                try simp only [Act.put, List.setIfInBounds_toArray, List.set_cons_zero, List.set_cons_succ]
                refine wpAnyL_all [11] (by kernel_rfl) (by simp) ?_
                refine (lateCons ?_ lateNil)
                · refine wpOpL_step _ rfl (fun K' hK => ?_)
                  refine R3.step rfl (.tmp 62) (.tmp 64) rfl rfl _ _ _ _ rfl L hb2 hl2 ?_
                  intro A4 d4 u4 R4 k4
                  have B4 := R4.bel
                  clear L
                  clear R3
                  refine hK.out _ _ (fun _ => (cellB y1 B4).1) ?_
                  clear hK K' k4 B3
                  try simp only [Act.put, List.setIfInBounds_toArray, List.set_cons_zero, List.set_cons_succ]
                  refine wpAnyL_all [18] (by kernel_rfl) (by simp) ?_
                  refine (lateCons ?_ lateNil)
                  · refine wpOpL_step _ rfl (fun K' hK => ?_)
                    refine R4.step rfl (.tmp 65) (.tmp 71) rfl rfl _ _ _ _ rfl (Rd.below R4.bel) hb3 hl3 ?_
                    intro A5 d5 u5 R5 k5
                    have B5 := R5.bel
                    clear R4
                    refine hK.out _ _ (fun _ => (cellB y1 B5).1) ?_
                    clear hK K' k5 B4
                    try simp only [Act.put, List.setIfInBounds_toArray, List.set_cons_zero, List.set_cons_succ]
                    have f0 := (HB.out.below T1 R5.bel).box.free 2
                    have c0 := (cellB y1 R5.bel).1
                    have HR5 := Lib.hid R5
                    clear R5
                    refine wpAnyL_takeY 19 _ (.pointer (some ⟨g, 0, none⟩)) rfl (by kernel_rfl) (by kernel_rfl) (by kernel_rfl) (by kernel_rfl) (fun _ _ _ h => h) (Or.inl ⟨by rfl, ?_⟩) ?_
                    · intro w'; go_simp
                    simp only [Act.put, List.setIfInBounds_toArray, List.set_cons_zero, List.set_cons_succ]
                    refine wpAnyL_takeY 20 _ (.pointer (some ⟨g, 2, none⟩)) rfl (by kernel_rfl) (by kernel_rfl) (by kernel_rfl) (by kernel_rfl) (fun _ _ _ h => h) (Or.inl ⟨by rfl, ?_⟩) ?_
                    · intro w'; go_simp
                    simp only [Act.put, List.setIfInBounds_toArray, List.set_cons_zero, List.set_cons_succ]
                    refine wpAnyL_all [21] (by kernel_rfl) (by simp) ?_
                    refine lateCons ?_ lateNil
                    refine wpOpL_step _ rfl (fun K' hK => ?_)
                    go_simp
                    refine hK.out _ _ (fun h => absurd h (by decide)) ?_
                    clear hK K'
                    try simp only [Act.put, List.setIfInBounds_toArray, List.set_cons_zero, List.set_cons_succ]
                    refine wpAnyL_done (by kernel_rfl) ?_ _
                    dsimp only [NoPanic]
                    refine (HB.out.newV T1 HR5.out.bel HR5.out.own HR5.out.new).elim ?_
                    intro col6 h6
                    go_wp2_with fail
                    go_meet
                    exact ⟨col6, _, h6.1, h6.2⟩
            · refine wpOpL_step _ rfl (fun K' hK => ?_)
              refine litThen kI v (cs := #[.int .i64 v]) rfl (t := 3) rfl B1 ?_
              intro u2 pL e1 e2 B2 L k2
              refine (k2 _ _ R1).elim ?_
              intro R2 Ln
              clear R1
              go_simp
              try rw [e1]
              try rw [e2]
              refine hK.out _ _ (fun _ => (cellB y1 B2).1) ?_
              clear hK K' k2 B1
              try simp only [Act.put, List.setIfInBounds_toArray, List.set_cons_zero, List.set_cons_succ]
              refine wpAnyL_all [8] (by kernel_rfl) (by simp) ?_
              refine (lateCons ?_ lateNil)
              · refine wpOpL_step _ rfl (fun K' hK => ?_)
                refine R2.step rfl (.tmp 55) (.tmp 61) rfl rfl _ _ _ _ rfl (Rh.below R2.bel) hb1 hl1 ?_
                intro A3 d3 u3 R3 k3
                have B3 := R3.bel
                have L := k3 _ _ _ _ L Ln
                clear Ln
                clear R2
                refine hK.out _ _ (fun _ => (cellB y1 B3).1) ?_
                clear hK K' k3 B2
                try simp only [Act.put, List.setIfInBounds_toArray, List.set_cons_zero, List.set_cons_succ]
                refine wpAnyL_all [11] (by kernel_rfl) (by simp) ?_
                refine (lateCons ?_ lateNil)
                · refine wpOpL_step _ rfl (fun K' hK => ?_)
                  refine R3.step rfl (.tmp 62) (.tmp 64) rfl rfl _ _ _ _ rfl L hb2 hl2 ?_
                  intro A4 d4 u4 R4 k4
                  have B4 := R4.bel
                  clear L
                  clear R3
                  refine hK.out _ _ (fun _ => (cellB y1 B4).1) ?_
                  clear hK K' k4 B3
                  try simp only [Act.put, List.setIfInBounds_toArray, List.set_cons_zero, List.set_cons_succ]
                  refine wpAnyL_all [18] (by kernel_rfl) (by simp) ?_
                  refine (lateCons ?_ lateNil)
                  · refine wpOpL_step _ rfl (fun K' hK => ?_)
                    refine R4.step rfl (.tmp 65) (.tmp 71) rfl rfl _ _ _ _ rfl (Rd.below R4.bel) hb3 hl3 ?_
                    intro A5 d5 u5 R5 k5
                    have B5 := R5.bel
                    clear R4
                    refine hK.out _ _ (fun _ => (cellB y1 B5).1) ?_
                    clear hK K' k5 B4
                    try simp only [Act.put, List.setIfInBounds_toArray, List.set_cons_zero, List.set_cons_succ]
                    have f0 := (HB.out.below T1 R5.bel).box.free 2
                    have c0 := (cellB y1 R5.bel).1
                    have HR5 := Lib.hid R5
                    clear R5
                    refine wpAnyL_takeY 19 _ (.pointer (some ⟨g, 0, none⟩)) rfl (by kernel_rfl) (by kernel_rfl) (by kernel_rfl) (by kernel_rfl) (fun _ _ _ h => h) (Or.inl ⟨by rfl, ?_⟩) ?_
                    · intro w'; go_simp
                    simp only [Act.put, List.setIfInBounds_toArray, List.set_cons_zero, List.set_cons_succ]
                    refine wpAnyL_takeY 20 _ (.pointer (some ⟨g, 2, none⟩)) rfl (by kernel_rfl) (by kernel_rfl) (by kernel_rfl) (by kernel_rfl) (fun _ _ _ h => h) (Or.inl ⟨by rfl, ?_⟩) ?_
                    · intro w'; go_simp
                    simp only [Act.put, List.setIfInBounds_toArray, List.set_cons_zero, List.set_cons_succ]
                    refine wpAnyL_all [21] (by kernel_rfl) (by simp) ?_
                    refine lateCons ?_ lateNil
                    refine wpOpL_step _ rfl (fun K' hK => ?_)
                    go_simp
                    refine hK.out _ _ (fun h => absurd h (by decide)) ?_
                    clear hK K'
                    try simp only [Act.put, List.setIfInBounds_toArray, List.set_cons_zero, List.set_cons_succ]
                    refine wpAnyL_done (by kernel_rfl) ?_ _
                    dsimp only [NoPanic]
                    refine (HB.out.newV T1 HR5.out.bel HR5.out.own HR5.out.new).elim ?_
                    intro col6 h6
                    go_wp2_with fail
                    go_meet
                    exact ⟨col6, _, h6.1, h6.2⟩
          · refine wpOpL_step _ rfl (fun K' hK => ?_)
            refine litThen kI v (cs := #[.int .i64 v]) rfl (t := 3) rfl B0 ?_
            intro u1 pL e1 e2 B1 L k1
            go_simp
            try rw [e1]
            try rw [e2]
            refine hK.out _ _ (fun _ => (cellB y1 B1).1) ?_
            clear hK K' k1 B0
            try simp only [Act.put, List.setIfInBounds_toArray, List.set_cons_zero, List.set_cons_succ]
            refine wpAnyL_all [1] (by kernel_rfl) (by simp) ?_
            refine (lateCons ?_ lateNil)
            · refine wpOpL_step _ rfl (fun K' hK => ?_)
              refine emptyThen kI (t := 3) rfl B1 ?_
              intro u2 pE e1 e2 R2 k2
              have B2 := R2.bel
              have Lb := RdG.inB L
              have Ln : (Value.slice (some ⟨pE, 0, none⟩) 0 0).ownBlock ≠ some pL := by rw [← e2]; exact lit_ne (by omega)
              have L := k2 _ _ _ _ L
              clear Lb
              go_simp
              try rw [e1]
              try rw [e2]
              refine hK.out _ _ (fun _ => (cellB y1 B2).1) ?_
              clear hK K' k2 B1
              try simp only [Act.put, List.setIfInBounds_toArray, List.set_cons_zero, List.set_cons_succ]
              refine wpAnyL_all [8] (by kernel_rfl) (by simp) ?_
              refine (lateCons ?_ lateNil)
              · refine wpOpL_step _ rfl (fun K' hK => ?_)
                refine R2.step rfl (.tmp 55) (.tmp 61) rfl rfl _ _ _ _ rfl (Rh.below R2.bel) hb1 hl1 ?_
                intro A3 d3 u3 R3 k3
                have B3 := R3.bel
                have L := k3 _ _ _ _ L Ln
                clear Ln
                clear R2
                refine hK.out _ _ (fun _ => (cellB y1 B3).1) ?_
                clear hK K' k3 B2
                try simp only [Act.put, List.setIfInBounds_toArray, List.set_cons_zero, List.set_cons_succ]
                refine wpAnyL_all [11] (by kernel_rfl) (by simp) ?_
                refine (lateCons ?_ lateNil)
                · refine wpOpL_step _ rfl (fun K' hK => ?_)
                  refine R3.step rfl (.tmp 62) (.tmp 64) rfl rfl _ _ _ _ rfl L hb2 hl2 ?_
                  intro A4 d4 u4 R4 k4
                  have B4 := R4.bel
                  clear L
                  clear R3
                  refine hK.out _ _ (fun _ => (cellB y1 B4).1) ?_
                  clear hK K' k4 B3
                  try simp only [Act.put, List.setIfInBounds_toArray, List.set_cons_zero, List.set_cons_succ]
                  refine wpAnyL_all [18] (by kernel_rfl) (by simp) ?_
                  refine (lateCons ?_ lateNil)
                  · refine wpOpL_step _ rfl (fun K' hK => ?_)
                    refine R4.step rfl (.tmp 65) (.tmp 71) rfl rfl _ _ _ _ rfl (Rd.below R4.bel) hb3 hl3 ?_
                    intro A5 d5 u5 R5 k5
                    have B5 := R5.bel
                    clear R4
                    refine hK.out _ _ (fun _ => (cellB y1 B5).1) ?_
                    clear hK K' k5 B4
                    try simp only [Act.put, List.setIfInBounds_toArray, List.set_cons_zero, List.set_cons_succ]
                    have f0 := (HB.out.below T1 R5.bel).box.free 2
                    have c0 := (cellB y1 R5.bel).1
                    have HR5 := Lib.hid R5
                    clear R5
                    refine wpAnyL_takeY 19 _ (.pointer (some ⟨g, 0, none⟩)) rfl (by kernel_rfl) (by kernel_rfl) (by kernel_rfl) (by kernel_rfl) (fun _ _ _ h => h) (Or.inl ⟨by rfl, ?_⟩) ?_
                    · intro w'; go_simp
                    simp only [Act.put, List.setIfInBounds_toArray, List.set_cons_zero, List.set_cons_succ]
                    refine wpAnyL_takeY 20 _ (.pointer (some ⟨g, 2, none⟩)) rfl (by kernel_rfl) (by kernel_rfl) (by kernel_rfl) (by kernel_rfl) (fun _ _ _ h => h) (Or.inl ⟨by rfl, ?_⟩) ?_
                    · intro w'; go_simp
                    simp only [Act.put, List.setIfInBounds_toArray, List.set_cons_zero, List.set_cons_succ]
                    refine wpAnyL_all [21] (by kernel_rfl) (by simp) ?_
                    refine lateCons ?_ lateNil
                    refine wpOpL_step _ rfl (fun K' hK => ?_)
                    go_simp
                    refine hK.out _ _ (fun h => absurd h (by decide)) ?_
                    clear hK K'
                    try simp only [Act.put, List.setIfInBounds_toArray, List.set_cons_zero, List.set_cons_succ]
                    refine wpAnyL_done (by kernel_rfl) ?_ _
                    dsimp only [NoPanic]
                    refine (HB.out.newV T1 HR5.out.bel HR5.out.own HR5.out.new).elim ?_
                    intro col6 h6
                    go_wp2_with fail
                    go_meet
                    exact ⟨col6, _, h6.1, h6.2⟩
        case rest =>
          obtain ⟨col6, vV6, H6, S6⟩ := hcut
          have HR := Lib.hid (RefM.tuck (m := { m with l := addM m.l s v }) HF.out H6 HK.out.symm HV.out.symm)
          have SS := Lib.hid ((S2.out.trans HS5.out).trans S6)
          clear H6 S6 HB y1 Rh Rd hb1 hb2 hb3 hl1 hl2 hl3
          go_wp2
          go_ret
          rw [E1.out]
          exact ⟨rfl, col6, HR.out, SS.out⟩
end
end Go.Proofs.Ytdifkcjciblkpaa
