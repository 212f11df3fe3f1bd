/- The specified list (heavykeysref08.List) in memory: NewList, Value, By, Insert, InsertAfter. Conditions: none beyond those typed. -/
import Derived.Test.YtfbddcbbkfklnaaDoorDref
import Derived.Deep.RegionHeld3
import Derived.Deep.CutRange
namespace Go.Proofs.YtfbddcbbkfklnaaDoor
open Go.ChangeShapes Go.WideShapes Go.ChangeAt Go.RowKit
set_option linter.unusedVariables false
set_option linter.unusedSimpArgs false
set_option maxRecDepth 100000

section
variable {P : Nat → Prop} {col col' : Col} {w w' : World} {k g n : Nat} {m : CSt Int} {vN vV v' : Value} {i : Nat} {p : Nat × Int}
def lstE (n : Int) : Int := if n < 1 ∨ 8192 < n then 1 else 0
def NewRD (col : Col) (k : Nat) (n : Int) (w : World) (e : Ending) (w' : World) : Prop :=
  (lstE n = 0 ∧ ∃ g, e = .returned (.tuple #[.pointer (some ⟨g, 0, none⟩), .int .i64 0]) ∧ ∃ col', RefD col' k w' g (newC Int n.toNat) ∧ StepC (Rng k) col w col' w') ∨ (lstE n = 1 ∧ e = .returned (.tuple #[.pointer none, .int .i64 1]) ∧ Below w.heap.size w w')
theorem new_rd (ht : Tidy col w) (hk : 1 ≤ k) {n : Nat} (hG : GoodC (newC Int n)) :
    ∃ col', RefD col' k (w.alloc (.cells #[.int .i64 n, .slice none 0 0, .slice none 0 0] 46)) w.heap.size (newC Int n) ∧ StepC (Rng k) col w col' (w.alloc (.cells #[.int .i64 n, .slice none 0 0, .slice none 0 0] 46)) :=
  ⟨dye col (some w.heap.size) k, ⟨hG, _, _, ⟨heap_alloc_new w _, dye_of⟩, OwnKc.nil kI _ _ _, OwnKc.nil kI _ _ _, hk⟩, StepC.newRow ht ((Below.refl _ _).alloc (Nat.le_refl _) _) fun b e => by injection e with e; subst e; exact ⟨Nat.le_refl _, by simp⟩⟩
set_option maxHeartbeats 1000000 in
theorem rdNew (ht : Tidy col w) (hk : 1 ≤ k) (n : Int) (hn : -9223372036854775808 ≤ n ∧ n ≤ 9223372036854775807) :
    Calls Tryd.prog 8 #[.int .i64 n] w (NewRD col k n w) := by
  obtain ⟨i1, i2⟩ := hn
  by_cases h1 : n < 1
  · have HE := Lib.hid (show lstE n = 1 from if_pos (.inl h1))
    go_enter Tryd.func8, Tryd.ntmps8
    go_wp2
    go_ret2
    exact .inr ⟨HE.out, rfl, Below.refl _ _⟩
  by_cases h2 : 8192 < n
  · have HE := Lib.hid (show lstE n = 1 from if_pos (.inr h2))
    go_enter Tryd.func8, Tryd.ntmps8
    go_wp2
    go_ret2
    exact .inr ⟨HE.out, rfl, Below.refl _ _⟩
  have HE := Lib.hid (show lstE n = 0 from if_neg (by omega))
  obtain ⟨q, hq⟩ : ∃ q : Nat, n = q := ⟨n.toNat, by omega⟩
  subst hq
  have HG := Lib.hid (newC_good (α := Int) (n := q) (by omega) (by omega))
  have HM := Lib.hid (new_rd (n := q) ht hk HG.out)
  go_enter Tryd.func8, Tryd.ntmps8
  go_wp2
  go_ret2
  obtain ⟨col', hM, hS⟩ := HM.out
  exact .inl ⟨HE.out, _, rfl, col', hM, hS⟩
theorem plC_none {l : List (Nat × Int)} {z : Int} (h : placeC l z = none) : plC l z = -1 := by unfold plC; rw [h]
theorem plC_some {l : List (Nat × Int)} {z : Int} {i : Nat} (h : placeC l z = some i) : plC l z = (i : Int) := by unfold plC; rw [h]
set_option maxHeartbeats 1000000 in
theorem rdValue (H : RefD col k w g m) (z : Int) (hz : -9223372036854775808 ≤ z ∧ z ≤ 9223372036854775807) :
    Calls Tryd.prog 29 #[.pointer (some ⟨g, 0, none⟩), .int .i64 z] w fun e w' => e = .returned (.tuple #[.int .i64 (m.value 0 z).1, .int .i64 (m.value 0 z).2]) ∧ w' = w := by
  have hPl := rdPlace H z hz
  obtain ⟨hG, vN, vV, H⟩ := H
  have hlen := hG.len
  have hn8 := hG.n8
  cases hp : placeC m.l z with
  | none =>
    have E1 := Lib.hid (show m.value 0 z = (0, 8) by unfold CSt.value; rw [hp])
    have HP := Lib.hid (plC_none hp)
    clear H hG hp
    go_enter Tryd.func29, Tryd.ntmps29
    go_wp2_with fail
    refine hPl.mono ?_
    rintro e w1 ⟨rfl, rfl⟩
    rw [HP.out]
    go_wp2
    go_ret2
    rw [E1.out]
    exact ⟨rfl, rfl⟩
  | some i =>
    obtain ⟨q, hq, hq1, hi⟩ := place_some hp
    have E1 := Lib.hid (show m.value 0 z = (q.2, 0) by unfold CSt.value; rw [hp]; simp [hq])
    have HP := Lib.hid (plC_some hp)
    obtain ⟨b, c, rfl, y1, q1, q2⟩ := H.atV hq
    have x2 : w.cell? ⟨g, 2, none⟩ = some (.slice (some ⟨b, 0, none⟩) m.l.length c) := H.box.cell 2 rfl
    have hi2 : (i : Int) < (m.l.length : Int) := by omega
    clear H hG hp hq hq1
    go_enter Tryd.func29, Tryd.ntmps29
    go_wp2_with fail
    refine hPl.mono ?_
    rintro e w1 ⟨rfl, rfl⟩
    rw [HP.out]
    go_wp2
    go_ret2
    rw [E1.out]
    exact ⟨rfl, rfl⟩
set_option maxHeartbeats 1000000 in
theorem rdBy (H : RefD col k w g m) (z d : Int) (hz : -9223372036854775808 ≤ z ∧ z ≤ 9223372036854775807) (hd : -1 ≤ d ∧ d ≤ 1) :
    Calls Tryd.prog 34 #[.pointer (some ⟨g, 0, none⟩), .int .i64 z, .int .i64 d] w fun e w' => e = .returned (.int .i64 (m.by_ z d)) ∧ w' = w := by
  have hPl := rdPlace H z hz
  obtain ⟨hG, vN, vV, H⟩ := H
  have hlen := hG.len
  have hn8 := hG.n8
  cases hp : placeC m.l z with
  | none =>
    have E1 := Lib.hid (show m.by_ z d = -1 by unfold CSt.by_; rw [hp])
    have HP := Lib.hid (plC_none hp)
    clear H hG hp
    go_enter Tryd.func34, Tryd.ntmps34
    go_wp2_with fail
    refine hPl.mono ?_
    rintro e w1 ⟨rfl, rfl⟩
    rw [HP.out]
    go_wp2
    go_ret
    exact ⟨ret_i64 E1.out.symm, rfl⟩
  | some i =>
    obtain ⟨q, hq, hq1, hi⟩ := place_some hp
    have HP := Lib.hid (plC_some hp)
    have hw : IntKind.i64.wrap ((i : Int) + d) = (i : Int) + d := by rw [IntKind.wrap_i64]; omega
    have hi0 : ¬ (i : Int) < 0 := by omega
    by_cases h1 : (i : Int) + d < 0
    · have E1 := Lib.hid (show m.by_ z d = -1 by unfold CSt.by_; rw [hp]; exact if_pos (.inl h1))
      clear H hG hp hq hq1
      go_enter Tryd.func34, Tryd.ntmps34
      go_wp2_with fail
      refine hPl.mono ?_
      rintro e w1 ⟨rfl, rfl⟩
      rw [HP.out]
      go_wp2
      go_ret
      exact ⟨ret_i64 E1.out.symm, rfl⟩
    · obtain ⟨b, c, rfl, _, q1, q2⟩ := H.atN hq
      have x1 : w.cell? ⟨g, 1, none⟩ = some (.slice (some ⟨b, 0, none⟩) m.l.length c) := H.box.cell 1 rfl
      obtain ⟨j, hj⟩ : ∃ j : Nat, (i : Int) + d = (j : Int) := ⟨((i : Int) + d).toNat, by omega⟩
      by_cases h2 : (m.l.length : Int) ≤ (i : Int) + d
      · have E1 := Lib.hid (show m.by_ z d = -1 by unfold CSt.by_; rw [hp]; exact if_pos (.inr h2))
        have h3 : ¬ (i : Int) + d < (m.l.length : Int) := by omega
        clear H hG hp hq hq1 hj
        go_enter Tryd.func34, Tryd.ntmps34
        go_wp2_with fail
        refine hPl.mono ?_
        rintro e w1 ⟨rfl, rfl⟩
        rw [HP.out]
        go_wp2
        go_ret
        exact ⟨ret_i64 E1.out.symm, rfl⟩
      · obtain ⟨r, hr⟩ : ∃ r, m.l[j]? = some r := ⟨_, List.getElem?_eq_getElem (by omega)⟩
        obtain ⟨b', c', he, y1, _⟩ := H.atN hr
        injection he with he _ _
        injection he with he
        injection he with he _ _
        subst he
        have E1 := Lib.hid (show m.by_ z d = (r.1 : Int) by
          unfold CSt.by_; rw [hp]
          show (if (i : Int) + d < 0 ∨ (m.l.length : Int) ≤ (i : Int) + d then (-1 : Int) else _) = _
          rw [if_neg (by omega), hj]
          simp [CSt.nodes, hr])
        have hw2 : IntKind.i64.wrap ((i : Int) + d) = (j : Int) := by rw [hw, hj]
        have h3 : (j : Int) < (m.l.length : Int) := by omega
        have h4 : ¬ (m.l.length : Int) ≤ (j : Int) := by omega
        have h5 : ¬ (j : Int) < 0 := by omega
        clear H hG hp hq hq1 hw h1 h2 hj hr
        go_enter Tryd.func34, Tryd.ntmps34
        go_wp2_with fail
        refine hPl.mono ?_
        rintro e w1 ⟨rfl, rfl⟩
        rw [HP.out]
        go_wp2
        go_ret
        exact ⟨ret_i64 E1.out.symm, rfl⟩
theorem ins_ns (l : List (Nat × Int)) (i : Nat) (v : Int) : (insC l i v).map (fun p => (p.1 : Int)) = ((l.map fun p => (p.1 : Int)).take i ++ [(freeN (l.map Prod.fst) : Int)]) ++ (l.map fun p => (p.1 : Int)).drop i := by unfold insC; simp [List.map_take, List.map_drop]
theorem ins_vs (l : List (Nat × Int)) (i : Nat) (v : Int) : (insC l i v).map Prod.snd = ((l.map Prod.snd).take i ++ [v]) ++ (l.map Prod.snd).drop i := by unfold insC; simp [List.map_take, List.map_drop]
set_option maxHeartbeats 4000000 in
theorem rdInsert (H : RefD col k w g m) (ht : Tidy col w) (i : Nat) (hi : i ≤ m.l.length) (v : Int) (hv : -9223372036854775808 ≤ v ∧ v ≤ 9223372036854775807) :
    Calls Tryd.prog 22 #[.pointer (some ⟨g, 0, none⟩), .int .i64 (i : Int), .int .i64 v] w fun e w' => e = .returned (.tuple #[.int .i64 (m.ins i v).1.1, .int .i64 (m.ins i v).1.2]) ∧ DidRD col k w g (m.ins i v).2 w' := by
  have hGF := H.1.ins i v
  have HR0 := H
  obtain ⟨hG, vN, vV, H1⟩ := H
  have hlen := hG.len
  have hn8 := hG.n8
  obtain ⟨A, c, rfl, hR, _⟩ := H1.ns.own.form (ns_len m)
  have x0 : w.cell? ⟨g, 0, none⟩ = some (.int .i64 m.n) := H1.box.cell 0 rfl
  have x1 : w.cell? ⟨g, 1, none⟩ = some (.slice A m.l.length c) := H1.box.cell 1 rfl
  by_cases hn : m.l.length = m.n
  · have E1 := Lib.hid (show m.ins i v = ((0, 7), m) from if_pos hn)
    have he : ((m.l.length : Int) == (m.n : Int)) = true := by rw [beq_iff_eq]; omega
    have HR := Lib.hid (show RefD col k w g m from ⟨hG, _, _, H1⟩)
    clear H1 hG hGF hR hn hlen HR0
    go_enter Tryd.func22, Tryd.ntmps22
    go_wp2
    go_quiet (fail)
    go_wp2
    go_ret2
    rw [E1.out]
    exact ⟨rfl, col, HR.out.below ht (below_drewN (Below.refl _ _) _), StepC.below ht (below_drewN (Below.refl _ _) _)⟩
  · have E1 := Lib.hid (show m.ins i v = ((((freeN m.nodes : Nat) : Int), (0 : Int)), { m with l := insC m.l i v }) from if_neg hn)
    have he : ((m.l.length : Int) == (m.n : Int)) = false := by rw [beq_eq_false_iff_ne]; omega
    have HF := Lib.hid (show GoodC { m with l := insC m.l i v } by have := hGF; rw [E1.out] at this; exact this)
    have HK := Lib.hid (ins_ns m.l i v)
    have HV := Lib.hid (ins_vs m.l i v)
    obtain ⟨f1, f2, f3⟩ := freeN_spec m.nodes
    have hnl := nodes_len m
    have hff : freeN m.nodes = freeN (m.l.map Prod.fst) := rfl
    rw [← hff] at HK
    generalize freeN m.nodes = f at *
    have hf8 : (f : Int) ≤ 8192 := by omega
    have HH1 := Lib.hid H1
    clear H1 hG hGF hR hff hn
    go_enter Tryd.func22, Tryd.ntmps22
    go_wp2
    go_quiet (fail)
    obtain ⟨W1, hW1⟩ : ∃ W1, W1 = w.drewN nq := ⟨_, rfl⟩
    have hb1 := below_drewN (Below.refl w.heap.size w) nq
    rw [← hW1] at hb1 ⊢
    have H1 := HH1.out.below ht hb1
    have HR1 := HR0.below ht hb1
    have T1 : Tidy col W1 := ht.size hb1.size
    have S2 := Lib.hid (StepC.below (P := Rng k) ht hb1)
    have y1 : W1.cell? ⟨g, 1, none⟩ = some (.slice A m.l.length c) := H1.box.cell 1 rfl
    have R1 := H1.ns.own.reads
    have hHH := Lib.hid H1
    have HRR := Lib.hid HR1
    clear hW1 hb1 HH1 ht x0 x1 he HR0 H1 HR1
    go_wp2
    go_loopw [8] (fun iv wr => ∃ j : Nat, j ≤ f ∧ iv = .int .i64 (j : Int) ∧ wr = W1) (fun iv _ => f + 1 - (intOf iv).toNat)
    case atStart => exact ⟨0, Nat.zero_le _, rfl, rfl⟩
    case round =>
      obtain ⟨j, hj, rfl, hwr⟩ := hrel
      rw [hwr]
      clear hwr
      have hPl := rdPlace HRR.out (j : Int) (by omega)
      by_cases hjf : j < f
      · have hin := place_node (m := m) j
        rw [decide_eq_true (f2 j hjf)] at hin
        obtain ⟨i0, hi0⟩ := Option.isSome_iff_exists.1 hin
        have HP := Lib.hid (plC_some hi0)
        have h0 : (0 : Int) ≤ (i0 : Int) := by omega
        have h0' : ¬ (i0 : Int) < 0 := by omega
        clear hin hi0
        go_wp2_with fail
        refine hPl.mono ?_
        rintro e w1 ⟨rfl, rfl⟩
        rw [HP.out]
        clear hPl
        go_wp2
        go_roundw
        case rel => exact ⟨j + 1, by omega, by go_num, by first | rfl | trivial⟩
        case measure => (simp [intOf] <;> omega)
      · obtain rfl : j = f := by omega
        have hin := place_node (m := m) j
        rw [decide_eq_false f1] at hin
        have HP := Lib.hid (plC_none (Option.isNone_iff_eq_none.1 (by cases h : placeC m.l (j : Int) with | none => rfl | some x => rw [h] at hin; cases hin)))
        clear hin hjf f2 f1 hj
        have hple := hi
        have hkl := ns_len m
        have hi2 : (i : Int) ≤ (m.l.length : Int) := by omega
        have hcap := R1.cap
        have hmax := R1.max
        have hic : (i : Int) ≤ (c : Int) := by omega
        have hic2 : i ≤ c := by omega
        have Rh := R1.head hple
        have Rd := R1.dropM (by simp [kI]) hple
        go_wp2_with fail
        refine hPl.mono ?_
        rintro e w1 ⟨rfl, rfl⟩
        rw [HP.out]
        clear hPl R1
        have hb1 : ([] : List Int).length + i ≤ 1000000000 := by simp; omega
        have hl1 : (([] : List Int) ++ m.ns.take i).length = i := by simp [ns_len]; omega
        have hb2 : (([] : List Int) ++ m.ns.take i).length + 1 ≤ 1000000000 := by simp; omega
        have hl2 : ((([] : List Int) ++ m.ns.take i) ++ [(j : Int)]).length = i + 1 := by simp [ns_len]; omega
        have hb3 : ((([] : List Int) ++ m.ns.take i) ++ [(j : Int)]).length + (m.l.length - i) ≤ 1000000000 := by simp; omega
        have hl3 : (((([] : List Int) ++ m.ns.take i) ++ [(j : Int)]) ++ m.ns.drop i).length = m.l.length + 1 := by simp [ns_len]; omega
        obtain ⟨A9, hA9⟩ : ∃ A9, A9 = (if c = i then A else A.map fun x => x.add i) := ⟨_, rfl⟩
        rw [← hA9] at Rd
        have HA9 := Lib.hid hA9
        clear hA9
        have HB := hHH
        go_upto_region 6 with fail
        go_cut [] from 25 to 45 (fun wx => ∃ col5 vN5, RefDB col5 k wx g m.n (((([] : List Int) ++ m.ns.take i) ++ [(j : Int)]) ++ m.ns.drop i) m.vals vN5 vV ∧ StepC (Rng k) col w1 col5 wx)
        case first =>
          refine wp_region_noPanic ?_
          refine wp_region_late (fun w' => w'.cell? ⟨g, 1, none⟩ = some (.slice A m.l.length c)) (fun j => [0, 2, 3, 4, 6, 9, 12, 13, 14, 16, 19, 20, 21].contains j) (by kernel_rfl) ?_
          intro u0 hu0
          have B0 : Below w1.heap.size w1 u0 := by rw [← hu0]; exact bdM _
          have hS : (fun w' => w'.cell? ⟨g, 1, none⟩ = some (.slice A m.l.length c)) u0 := (cellB y1 B0).1
          clear hu0
          refine wpAnyL_takeY 0 _ (.pointer (some ⟨g, 0, none⟩)) rfl (by kernel_rfl) (by kernel_rfl) (by kernel_rfl) (by kernel_rfl) (fun _ _ _ h => h) (Or.inl ⟨by rfl, ?_⟩) ?_
          · intro w'; go_simp
          simp only [Act.put, List.setIfInBounds_toArray, List.set_cons_zero, List.set_cons_succ]
          refine wpAnyL_takeY 2 _ (.pointer (some ⟨g, 0, none⟩)) rfl (by kernel_rfl) (by kernel_rfl) (by kernel_rfl) (by kernel_rfl) (fun _ _ _ h => h) (Or.inl ⟨by rfl, ?_⟩) ?_
          · intro w'; go_simp
          simp only [Act.put, List.setIfInBounds_toArray, List.set_cons_zero, List.set_cons_succ]
          refine wpAnyL_takeY 3 _ (.pointer (some ⟨g, 0, none⟩)) rfl (by kernel_rfl) (by kernel_rfl) (by kernel_rfl) (by kernel_rfl) (fun _ _ _ h => h) (Or.inl ⟨by rfl, ?_⟩) ?_
          · intro w'; go_simp
          simp only [Act.put, List.setIfInBounds_toArray, List.set_cons_zero, List.set_cons_succ]
          refine wpAnyL_takeY 4 _ (.pointer (some ⟨g, 1, none⟩)) rfl (by kernel_rfl) (by kernel_rfl) (by kernel_rfl) (by kernel_rfl) (fun _ _ _ h => h) (Or.inl ⟨by rfl, ?_⟩) ?_
          · intro w'; go_simp
          simp only [Act.put, List.setIfInBounds_toArray, List.set_cons_zero, List.set_cons_succ]
          refine wpAnyL_takeY 6 _ (.int .i64 (i : Int)) rfl (by kernel_rfl) (by kernel_rfl) (by kernel_rfl) (by kernel_rfl) (fun _ _ _ h => h) (Or.inl ⟨by rfl, ?_⟩) ?_
          · intro w'; go_simp
          simp only [Act.put, List.setIfInBounds_toArray, List.set_cons_zero, List.set_cons_succ]
          refine wpAnyL_takeY 9 _ (.int .i64 (j : Int)) rfl (by kernel_rfl) (by kernel_rfl) (by kernel_rfl) (by kernel_rfl) (fun _ _ _ h => h) (Or.inl ⟨by rfl, ?_⟩) ?_
          · intro w'; go_simp
          simp only [Act.put, List.setIfInBounds_toArray, List.set_cons_zero, List.set_cons_succ]
          refine wpAnyL_takeY 12 _ (.pointer (some ⟨g, 0, none⟩)) rfl (by kernel_rfl) (by kernel_rfl) (by kernel_rfl) (by kernel_rfl) (fun _ _ _ h => h) (Or.inl ⟨by rfl, ?_⟩) ?_
          · intro w'; go_simp
          simp only [Act.put, List.setIfInBounds_toArray, List.set_cons_zero, List.set_cons_succ]
          refine wpAnyL_takeY 13 _ (.pointer (some ⟨g, 0, none⟩)) rfl (by kernel_rfl) (by kernel_rfl) (by kernel_rfl) (by kernel_rfl) (fun _ _ _ h => h) (Or.inl ⟨by rfl, ?_⟩) ?_
          · intro w'; go_simp
          simp only [Act.put, List.setIfInBounds_toArray, List.set_cons_zero, List.set_cons_succ]
          refine wpAnyL_takeY 14 _ (.pointer (some ⟨g, 1, none⟩)) rfl (by kernel_rfl) (by kernel_rfl) (by kernel_rfl) (by kernel_rfl) (fun _ _ _ h => h) (Or.inl ⟨by rfl, ?_⟩) ?_
          · intro w'; go_simp
          simp only [Act.put, List.setIfInBounds_toArray, List.set_cons_zero, List.set_cons_succ]
          refine wpAnyL_takeY 16 _ (.int .i64 (i : Int)) rfl (by kernel_rfl) (by kernel_rfl) (by kernel_rfl) (by kernel_rfl) (fun _ _ _ h => h) (Or.inl ⟨by rfl, ?_⟩) ?_
          · intro w'; go_simp
          simp only [Act.put, List.setIfInBounds_toArray, List.set_cons_zero, List.set_cons_succ]
          refine wpAnyL_take 5 _ (.slice A m.l.length c) rfl (by kernel_rfl) (by kernel_rfl) (by kernel_rfl) (by kernel_rfl) (fun _ _ _ h => h) (Or.inl ⟨by rfl, ?_⟩) hS ?_
          · intro w' hSw; go_simp
          simp only [Act.put, List.setIfInBounds_toArray, List.set_cons_zero, List.set_cons_succ]
          refine wpAnyL_take 15 _ (.slice A m.l.length c) rfl (by kernel_rfl) (by kernel_rfl) (by kernel_rfl) (by kernel_rfl) (fun _ _ _ h => h) (Or.inl ⟨by rfl, ?_⟩) hS ?_
          · intro w' hSw; go_simp
          simp only [Act.put, List.setIfInBounds_toArray, List.set_cons_zero, List.set_cons_succ]
          refine wpAnyL_take 7 _ (.slice A i c) rfl (by kernel_rfl) (by kernel_rfl) (by kernel_rfl) (by kernel_rfl) (fun _ _ _ h => h) (Or.inl ⟨by rfl, ?_⟩) hS ?_
          · intro w' hSw; go_simp
          simp only [Act.put, List.setIfInBounds_toArray, List.set_cons_zero, List.set_cons_succ]
          refine wpAnyL_take 17 _ (.slice A9 (m.l.length - i) (c - i)) rfl (by kernel_rfl) (by kernel_rfl) (by kernel_rfl) (by kernel_rfl) (fun _ _ _ h => h) (Or.inl ⟨by rfl, ?_⟩) hS ?_
          · intro w' hSw; rw [HA9.out]; go_simp
          simp only [Act.put, List.setIfInBounds_toArray, List.set_cons_zero, List.set_cons_succ]
          clear hS
          refine wpAnyL_all [1, 10] (by kernel_rfl) (by simp) ?_
          refine (lateCons ?_ (lateCons ?_ lateNil))
          · refine wpOpL_step _ rfl (fun K' hK => ?_)
            refine emptyThen kI (t := 3) rfl B0 ?_
            intro u1 pE e1 e2 R1 k1
            have B1 := R1.bel
            go_simp
            try rw [e1]
            try rw [e2]
            refine hK.out _ _ (fun _ => (cellB y1 B1).1) ?_
            clear hK K' k1 B0
            try simp only [Act.put, List.setIfInBounds_toArray, List.set_cons_zero, List.set_cons_succ]
            refine wpAnyL_all [8, 10] (by kernel_rfl) (by simp) ?_
            refine (lateCons ?_ (lateCons ?_ lateNil))
            · refine wpOpL_step _ rfl (fun K' hK => ?_)
              refine R1.step rfl (.tmp 26) (.tmp 32) rfl rfl _ _ _ _ rfl (Rh.below R1.bel) hb1 hl1 ?_
              intro A2 d2 u2 R2 k2
              have B2 := R2.bel
              clear R1
              refine hK.out _ _ (fun _ => (cellB y1 B2).1) ?_
              clear hK K' k2 B1
              try simp only [Act.put, List.setIfInBounds_toArray, List.set_cons_zero, List.set_cons_succ]
              refine wpAnyL_all [10] (by kernel_rfl) (by simp) ?_
              refine (lateCons ?_ lateNil)
              · refine wpOpL_step _ rfl (fun K' hK => ?_)
                refine litThen kI (j : Int) (cs := #[.int .i64 (j : Int)]) rfl (t := 3) rfl B2 ?_
                intro u3 pL e1 e2 B3 L k3
                refine (k3 _ _ R2).elim ?_
                intro R3 Ln
                clear R2
                go_simp
                try rw [e1]
                try rw [e2]
                refine hK.out _ _ (fun _ => (cellB y1 B3).1) ?_
                clear hK K' k3 B2
                try simp only [Act.put, List.setIfInBounds_toArray, List.set_cons_zero, List.set_cons_succ]
                refine wpAnyL_all [11] (by kernel_rfl) (by simp) ?_
                refine (lateCons ?_ lateNil)
                · refine wpOpL_step _ rfl (fun K' hK => ?_)
                  refine R3.step rfl (.tmp 33) (.tmp 35) rfl rfl _ _ _ _ rfl L hb2 hl2 ?_
                  intro A4 d4 u4 R4 k4
                  have B4 := R4.bel
                  clear L
                  clear R3
                  refine hK.out _ _ (fun _ => (cellB y1 B4).1) ?_
                  clear hK K' k4 B3
                  try simp only [Act.put, List.setIfInBounds_toArray, List.set_cons_zero, List.set_cons_succ]
                  refine wpAnyL_all [18] (by kernel_rfl) (by simp) ?_
                  refine (lateCons ?_ lateNil)
                  · refine wpOpL_step _ rfl (fun K' hK => ?_)
                    refine R4.step rfl (.tmp 36) (.tmp 42) rfl rfl _ _ _ _ rfl (Rd.below R4.bel) hb3 hl3 ?_
                    intro A5 d5 u5 R5 k5
                    have B5 := R5.bel
                    clear R4
                    refine hK.out _ _ (fun _ => (cellB y1 B5).1) ?_
                    clear hK K' k5 B4
                    try simp only [Act.put, List.setIfInBounds_toArray, List.set_cons_zero, List.set_cons_succ]
                    have f0 := (HB.out.below T1 R5.bel).box.free 1
                    have c0 := (cellB y1 R5.bel).1
                    have HR5 := Lib.hid R5
                    clear R5
                    refine wpAnyL_takeY 19 _ (.pointer (some ⟨g, 0, none⟩)) rfl (by kernel_rfl) (by kernel_rfl) (by kernel_rfl) (by kernel_rfl) (fun _ _ _ h => h) (Or.inl ⟨by rfl, ?_⟩) ?_
                    · intro w'; go_simp
                    simp only [Act.put, List.setIfInBounds_toArray, List.set_cons_zero, List.set_cons_succ]
                    refine wpAnyL_takeY 20 _ (.pointer (some ⟨g, 1, none⟩)) rfl (by kernel_rfl) (by kernel_rfl) (by kernel_rfl) (by kernel_rfl) (fun _ _ _ h => h) (Or.inl ⟨by rfl, ?_⟩) ?_
                    · intro w'; go_simp
                    simp only [Act.put, List.setIfInBounds_toArray, List.set_cons_zero, List.set_cons_succ]
                    refine wpAnyL_all [21] (by kernel_rfl) (by simp) ?_
                    refine lateCons ?_ lateNil
                    refine wpOpL_step _ rfl (fun K' hK => ?_)
                    go_simp
                    refine hK.out _ _ (fun h => absurd h (by decide)) ?_
                    clear hK K'
                    try simp only [Act.put, List.setIfInBounds_toArray, List.set_cons_zero, List.set_cons_succ]
                    refine wpAnyL_done (by kernel_rfl) ?_ _
                    dsimp only [NoPanic]
                    refine (HB.out.newN T1 HR5.out.bel HR5.out.own HR5.out.new).elim ?_
                    intro col5 h5
                    go_wp2_with fail
                    go_meet
                    exact ⟨col5, _, h5.1, h5.2⟩
            · refine wpOpL_step _ rfl (fun K' hK => ?_)
              refine litThen kI (j : Int) (cs := #[.int .i64 (j : Int)]) rfl (t := 3) rfl B1 ?_
              intro u2 pL e1 e2 B2 L k2
              refine (k2 _ _ R1).elim ?_
              intro R2 Ln
              clear R1
              go_simp
              try rw [e1]
              try rw [e2]
              refine hK.out _ _ (fun _ => (cellB y1 B2).1) ?_
              clear hK K' k2 B1
              try simp only [Act.put, List.setIfInBounds_toArray, List.set_cons_zero, List.set_cons_succ]
              refine wpAnyL_all [8] (by kernel_rfl) (by simp) ?_
              refine (lateCons ?_ lateNil)
              · refine wpOpL_step _ rfl (fun K' hK => ?_)
                refine R2.step rfl (.tmp 26) (.tmp 32) rfl rfl _ _ _ _ rfl (Rh.below R2.bel) hb1 hl1 ?_
                intro A3 d3 u3 R3 k3
                have B3 := R3.bel
                have L := k3 _ _ _ _ L Ln
                clear Ln
                clear R2
                refine hK.out _ _ (fun _ => (cellB y1 B3).1) ?_
                clear hK K' k3 B2
                try simp only [Act.put, List.setIfInBounds_toArray, List.set_cons_zero, List.set_cons_succ]
                refine wpAnyL_all [11] (by kernel_rfl) (by simp) ?_
                refine (lateCons ?_ lateNil)
                · refine wpOpL_step _ rfl (fun K' hK => ?_)
                  refine R3.step rfl (.tmp 33) (.tmp 35) rfl rfl _ _ _ _ rfl L hb2 hl2 ?_
                  intro A4 d4 u4 R4 k4
                  have B4 := R4.bel
                  clear L
                  clear R3
                  refine hK.out _ _ (fun _ => (cellB y1 B4).1) ?_
                  clear hK K' k4 B3
                  try simp only [Act.put, List.setIfInBounds_toArray, List.set_cons_zero, List.set_cons_succ]
                  refine wpAnyL_all [18] (by kernel_rfl) (by simp) ?_
                  refine (lateCons ?_ lateNil)
                  · refine wpOpL_step _ rfl (fun K' hK => ?_)
                    refine R4.step rfl (.tmp 36) (.tmp 42) rfl rfl _ _ _ _ rfl (Rd.below R4.bel) hb3 hl3 ?_
                    intro A5 d5 u5 R5 k5
                    have B5 := R5.bel
                    clear R4
                    refine hK.out _ _ (fun _ => (cellB y1 B5).1) ?_
                    clear hK K' k5 B4
                    try simp only [Act.put, List.setIfInBounds_toArray, List.set_cons_zero, List.set_cons_succ]
                    have f0 := (HB.out.below T1 R5.bel).box.free 1
                    have c0 := (cellB y1 R5.bel).1
                    have HR5 := Lib.hid R5
                    clear R5
                    refine wpAnyL_takeY 19 _ (.pointer (some ⟨g, 0, none⟩)) rfl (by kernel_rfl) (by kernel_rfl) (by kernel_rfl) (by kernel_rfl) (fun _ _ _ h => h) (Or.inl ⟨by rfl, ?_⟩) ?_
                    · intro w'; go_simp
                    simp only [Act.put, List.setIfInBounds_toArray, List.set_cons_zero, List.set_cons_succ]
                    refine wpAnyL_takeY 20 _ (.pointer (some ⟨g, 1, none⟩)) rfl (by kernel_rfl) (by kernel_rfl) (by kernel_rfl) (by kernel_rfl) (fun _ _ _ h => h) (Or.inl ⟨by rfl, ?_⟩) ?_
                    · intro w'; go_simp
                    simp only [Act.put, List.setIfInBounds_toArray, List.set_cons_zero, List.set_cons_succ]
                    refine wpAnyL_all [21] (by kernel_rfl) (by simp) ?_
                    refine lateCons ?_ lateNil
                    refine wpOpL_step _ rfl (fun K' hK => ?_)
                    go_simp
                    refine hK.out _ _ (fun h => absurd h (by decide)) ?_
                    clear hK K'
                    try simp only [Act.put, List.setIfInBounds_toArray, List.set_cons_zero, List.set_cons_succ]
                    refine wpAnyL_done (by kernel_rfl) ?_ _
                    dsimp only [NoPanic]
                    refine (HB.out.newN T1 HR5.out.bel HR5.out.own HR5.out.new).elim ?_
                    intro col5 h5
                    go_wp2_with fail
                    go_meet
                    exact ⟨col5, _, h5.1, h5.2⟩
          · refine wpOpL_step _ rfl (fun K' hK => ?_)
            refine litThen kI (j : Int) (cs := #[.int .i64 (j : Int)]) rfl (t := 3) rfl B0 ?_
            intro u1 pL e1 e2 B1 L k1
            go_simp
            try rw [e1]
            try rw [e2]
            refine hK.out _ _ (fun _ => (cellB y1 B1).1) ?_
            clear hK K' k1 B0
            try simp only [Act.put, List.setIfInBounds_toArray, List.set_cons_zero, List.set_cons_succ]
            refine wpAnyL_all [1] (by kernel_rfl) (by simp) ?_
            refine (lateCons ?_ lateNil)
            · refine wpOpL_step _ rfl (fun K' hK => ?_)
              refine emptyThen kI (t := 3) rfl B1 ?_
              intro u2 pE e1 e2 R2 k2
              have B2 := R2.bel
              have Lb := RdG.inB L
              have Ln : (Value.slice (some ⟨pE, 0, none⟩) 0 0).ownBlock ≠ some pL := by rw [← e2]; exact lit_ne (by omega)
              have L := k2 _ _ _ _ L
              clear Lb
              go_simp
              try rw [e1]
              try rw [e2]
              refine hK.out _ _ (fun _ => (cellB y1 B2).1) ?_
              clear hK K' k2 B1
              try simp only [Act.put, List.setIfInBounds_toArray, List.set_cons_zero, List.set_cons_succ]
              refine wpAnyL_all [8] (by kernel_rfl) (by simp) ?_
              refine (lateCons ?_ lateNil)
              · refine wpOpL_step _ rfl (fun K' hK => ?_)
                refine R2.step rfl (.tmp 26) (.tmp 32) rfl rfl _ _ _ _ rfl (Rh.below R2.bel) hb1 hl1 ?_
                intro A3 d3 u3 R3 k3
                have B3 := R3.bel
                have L := k3 _ _ _ _ L Ln
                clear Ln
                clear R2
                refine hK.out _ _ (fun _ => (cellB y1 B3).1) ?_
                clear hK K' k3 B2
                try simp only [Act.put, List.setIfInBounds_toArray, List.set_cons_zero, List.set_cons_succ]
                refine wpAnyL_all [11] (by kernel_rfl) (by simp) ?_
                refine (lateCons ?_ lateNil)
                · refine wpOpL_step _ rfl (fun K' hK => ?_)
                  refine R3.step rfl (.tmp 33) (.tmp 35) rfl rfl _ _ _ _ rfl L hb2 hl2 ?_
                  intro A4 d4 u4 R4 k4
                  have B4 := R4.bel
                  clear L
                  clear R3
                  refine hK.out _ _ (fun _ => (cellB y1 B4).1) ?_
                  clear hK K' k4 B3
                  try simp only [Act.put, List.setIfInBounds_toArray, List.set_cons_zero, List.set_cons_succ]
                  refine wpAnyL_all [18] (by kernel_rfl) (by simp) ?_
                  refine (lateCons ?_ lateNil)
                  · refine wpOpL_step _ rfl (fun K' hK => ?_)
                    refine R4.step rfl (.tmp 36) (.tmp 42) rfl rfl _ _ _ _ rfl (Rd.below R4.bel) hb3 hl3 ?_
                    intro A5 d5 u5 R5 k5
                    have B5 := R5.bel
                    clear R4
                    refine hK.out _ _ (fun _ => (cellB y1 B5).1) ?_
                    clear hK K' k5 B4
                    try simp only [Act.put, List.setIfInBounds_toArray, List.set_cons_zero, List.set_cons_succ]
                    have f0 := (HB.out.below T1 R5.bel).box.free 1
                    have c0 := (cellB y1 R5.bel).1
                    have HR5 := Lib.hid R5
                    clear R5
                    refine wpAnyL_takeY 19 _ (.pointer (some ⟨g, 0, none⟩)) rfl (by kernel_rfl) (by kernel_rfl) (by kernel_rfl) (by kernel_rfl) (fun _ _ _ h => h) (Or.inl ⟨by rfl, ?_⟩) ?_
                    · intro w'; go_simp
                    simp only [Act.put, List.setIfInBounds_toArray, List.set_cons_zero, List.set_cons_succ]
                    refine wpAnyL_takeY 20 _ (.pointer (some ⟨g, 1, none⟩)) rfl (by kernel_rfl) (by kernel_rfl) (by kernel_rfl) (by kernel_rfl) (fun _ _ _ h => h) (Or.inl ⟨by rfl, ?_⟩) ?_
                    · intro w'; go_simp
                    simp only [Act.put, List.setIfInBounds_toArray, List.set_cons_zero, List.set_cons_succ]
                    refine wpAnyL_all [21] (by kernel_rfl) (by simp) ?_
                    refine lateCons ?_ lateNil
                    refine wpOpL_step _ rfl (fun K' hK => ?_)
                    go_simp
                    refine hK.out _ _ (fun h => absurd h (by decide)) ?_
                    clear hK K'
                    try simp only [Act.put, List.setIfInBounds_toArray, List.set_cons_zero, List.set_cons_succ]
                    refine wpAnyL_done (by kernel_rfl) ?_ _
                    dsimp only [NoPanic]
                    refine (HB.out.newN T1 HR5.out.bel HR5.out.own HR5.out.new).elim ?_
                    intro col5 h5
                    go_wp2_with fail
                    go_meet
                    exact ⟨col5, _, h5.1, h5.2⟩
        case rest =>
          obtain ⟨col5, vN5, H5, S5⟩ := hcut
          have T1 := S5.tidy
          obtain ⟨A5, c5, rfl, R5, _⟩ := H5.vs.own.form (vs_len m)
          have y1 : wc.cell? ⟨g, 2, none⟩ = some (.slice A5 m.l.length c5) := H5.box.cell 2 rfl
          have hcap5 := R5.cap
          have hmax5 := R5.max
          have hjc5 : (i : Int) ≤ (c5 : Int) := by omega
          have hjc6 : i ≤ c5 := by omega
          have Rh := R5.head hple
          have Rd := R5.dropM (by simp [kI]) hple
          have HB := Lib.hid H5
          have HS5 := Lib.hid S5
          clear H5 S5 R5 hb1 hb2 hb3 hl1 hl2 hl3 HA9 HRR hHH
          have hb1 : ([] : List Int).length + i ≤ 1000000000 := by simp; omega
          have hl1 : (([] : List Int) ++ m.vals.take i).length = i := by simp [vs_len]; omega
          have hb2 : (([] : List Int) ++ m.vals.take i).length + 1 ≤ 1000000000 := by simp; omega
          have hl2 : ((([] : List Int) ++ m.vals.take i) ++ [v]).length = i + 1 := by simp [vs_len]; omega
          have hb3 : ((([] : List Int) ++ m.vals.take i) ++ [v]).length + (m.l.length - i) ≤ 1000000000 := by simp; omega
          have hl3 : (((([] : List Int) ++ m.vals.take i) ++ [v]) ++ m.vals.drop i).length = m.l.length + 1 := by simp [vs_len]; omega
          obtain ⟨A9, hA9⟩ : ∃ A9, A9 = (if c5 = i then A5 else A5.map fun x => x.add i) := ⟨_, rfl⟩
          rw [← hA9] at Rd
          have HA9 := Lib.hid hA9
          clear hA9
          go_upto_region 7 with fail
          go_cut [] from 46 to 66 (fun wx => ∃ col6 vV6, RefDB col6 k wx g m.n (((([] : List Int) ++ m.ns.take i) ++ [(j : Int)]) ++ m.ns.drop i) (((([] : List Int) ++ m.vals.take i) ++ [v]) ++ m.vals.drop i) vN5 vV6 ∧ StepC (Rng k) col5 wc col6 wx)
          case first =>
            refine wp_region_noPanic ?_
            refine wp_region_late (fun w' => w'.cell? ⟨g, 2, none⟩ = some (.slice A5 m.l.length c5)) (fun j => [0, 2, 3, 4, 6, 9, 12, 13, 14, 16, 19, 20, 21].contains j) (by kernel_rfl) ?_
            intro u0 hu0
            have B0 : Below wc.heap.size wc u0 := by rw [← hu0]; exact bdM _
            have hS : (fun w' => w'.cell? ⟨g, 2, none⟩ = some (.slice A5 m.l.length c5)) u0 := (cellB y1 B0).1
            clear hu0
            refine wpAnyL_takeY 0 _ (.pointer (some ⟨g, 0, none⟩)) rfl (by kernel_rfl) (by kernel_rfl) (by kernel_rfl) (by kernel_rfl) (fun _ _ _ h => h) (Or.inl ⟨by rfl, ?_⟩) ?_
            · intro w'; go_simp
            simp only [Act.put, List.setIfInBounds_toArray, List.set_cons_zero, List.set_cons_succ]
            refine wpAnyL_takeY 2 _ (.pointer (some ⟨g, 0, none⟩)) rfl (by kernel_rfl) (by kernel_rfl) (by kernel_rfl) (by kernel_rfl) (fun _ _ _ h => h) (Or.inl ⟨by rfl, ?_⟩) ?_
            · intro w'; go_simp
            simp only [Act.put, List.setIfInBounds_toArray, List.set_cons_zero, List.set_cons_succ]
            refine wpAnyL_takeY 3 _ (.pointer (some ⟨g, 0, none⟩)) rfl (by kernel_rfl) (by kernel_rfl) (by kernel_rfl) (by kernel_rfl) (fun _ _ _ h => h) (Or.inl ⟨by rfl, ?_⟩) ?_
            · intro w'; go_simp
            simp only [Act.put, List.setIfInBounds_toArray, List.set_cons_zero, List.set_cons_succ]
            refine wpAnyL_takeY 4 _ (.pointer (some ⟨g, 2, none⟩)) rfl (by kernel_rfl) (by kernel_rfl) (by kernel_rfl) (by kernel_rfl) (fun _ _ _ h => h) (Or.inl ⟨by rfl, ?_⟩) ?_
            · intro w'; go_simp
            simp only [Act.put, List.setIfInBounds_toArray, List.set_cons_zero, List.set_cons_succ]
            refine wpAnyL_takeY 6 _ (.int .i64 (i : Int)) rfl (by kernel_rfl) (by kernel_rfl) (by kernel_rfl) (by kernel_rfl) (fun _ _ _ h => h) (Or.inl ⟨by rfl, ?_⟩) ?_
            · intro w'; go_simp
            simp only [Act.put, List.setIfInBounds_toArray, List.set_cons_zero, List.set_cons_succ]
            refine wpAnyL_takeY 9 _ (.int .i64 v) rfl (by kernel_rfl) (by kernel_rfl) (by kernel_rfl) (by kernel_rfl) (fun _ _ _ h => h) (Or.inl ⟨by rfl, ?_⟩) ?_
            · intro w'; go_simp
            simp only [Act.put, List.setIfInBounds_toArray, List.set_cons_zero, List.set_cons_succ]
            refine wpAnyL_takeY 12 _ (.pointer (some ⟨g, 0, none⟩)) rfl (by kernel_rfl) (by kernel_rfl) (by kernel_rfl) (by kernel_rfl) (fun _ _ _ h => h) (Or.inl ⟨by rfl, ?_⟩) ?_
            · intro w'; go_simp
            simp only [Act.put, List.setIfInBounds_toArray, List.set_cons_zero, List.set_cons_succ]
            refine wpAnyL_takeY 13 _ (.pointer (some ⟨g, 0, none⟩)) rfl (by kernel_rfl) (by kernel_rfl) (by kernel_rfl) (by kernel_rfl) (fun _ _ _ h => h) (Or.inl ⟨by rfl, ?_⟩) ?_
            · intro w'; go_simp
            simp only [Act.put, List.setIfInBounds_toArray, List.set_cons_zero, List.set_cons_succ]
            refine wpAnyL_takeY 14 _ (.pointer (some ⟨g, 2, none⟩)) rfl (by kernel_rfl) (by kernel_rfl) (by kernel_rfl) (by kernel_rfl) (fun _ _ _ h => h) (Or.inl ⟨by rfl, ?_⟩) ?_
            · intro w'; go_simp
            simp only [Act.put, List.setIfInBounds_toArray, List.set_cons_zero, List.set_cons_succ]
            refine wpAnyL_takeY 16 _ (.int .i64 (i : Int)) rfl (by kernel_rfl) (by kernel_rfl) (by kernel_rfl) (by kernel_rfl) (fun _ _ _ h => h) (Or.inl ⟨by rfl, ?_⟩) ?_
            · intro w'; go_simp
            simp only [Act.put, List.setIfInBounds_toArray, List.set_cons_zero, List.set_cons_succ]
            refine wpAnyL_take 5 _ (.slice A5 m.l.length c5) rfl (by kernel_rfl) (by kernel_rfl) (by kernel_rfl) (by kernel_rfl) (fun _ _ _ h => h) (Or.inl ⟨by rfl, ?_⟩) hS ?_
            · intro w' hSw; go_simp
            simp only [Act.put, List.setIfInBounds_toArray, List.set_cons_zero, List.set_cons_succ]
            refine wpAnyL_take 15 _ (.slice A5 m.l.length c5) rfl (by kernel_rfl) (by kernel_rfl) (by kernel_rfl) (by kernel_rfl) (fun _ _ _ h => h) (Or.inl ⟨by rfl, ?_⟩) hS ?_
            · intro w' hSw; go_simp
            simp only [Act.put, List.setIfInBounds_toArray, List.set_cons_zero, List.set_cons_succ]
            refine wpAnyL_take 7 _ (.slice A5 i c5) rfl (by kernel_rfl) (by kernel_rfl) (by kernel_rfl) (by kernel_rfl) (fun _ _ _ h => h) (Or.inl ⟨by rfl, ?_⟩) hS ?_
            · intro w' hSw; go_simp
            simp only [Act.put, List.setIfInBounds_toArray, List.set_cons_zero, List.set_cons_succ]
            refine wpAnyL_take 17 _ (.slice A9 (m.l.length - i) (c5 - i)) rfl (by kernel_rfl) (by kernel_rfl) (by kernel_rfl) (by kernel_rfl) (fun _ _ _ h => h) (Or.inl ⟨by rfl, ?_⟩) hS ?_
            · intro w' hSw; rw [HA9.out]; go_simp
            simp only [Act.put, List.setIfInBounds_toArray, List.set_cons_zero, List.set_cons_succ]
            clear hS
            refine wpAnyL_all [1, 10] (by kernel_rfl) (by simp) ?_
            refine (lateCons ?_ (lateCons ?_ lateNil))
            · refine wpOpL_step _ rfl (fun K' hK => ?_)
              refine emptyThen kI (t := 3) rfl B0 ?_
              intro u1 pE e1 e2 R1 k1
              have B1 := R1.bel
              go_simp
              try rw [e1]
              try rw [e2]
              refine hK.out _ _ (fun _ => (cellB y1 B1).1) ?_
              clear hK K' k1 B0
              try simp only [Act.put, List.setIfInBounds_toArray, List.set_cons_zero, List.set_cons_succ]
              refine wpAnyL_all [8, 10] (by kernel_rfl) (by simp) ?_
              refine (lateCons ?_ (lateCons ?_ lateNil))
              · refine wpOpL_step _ rfl (fun K' hK => ?_)
                refine R1.step rfl (.tmp 47) (.tmp 53) rfl rfl _ _ _ _ rfl (Rh.below R1.bel) hb1 hl1 ?_
                intro A2 d2 u2 R2 k2
                have B2 := R2.bel
                clear R1
                refine hK.out _ _ (fun _ => (cellB y1 B2).1) ?_
                clear hK K' k2 B1
                try simp only [Act.put, List.setIfInBounds_toArray, List.set_cons_zero, List.set_cons_succ]
                refine wpAnyL_all [10] (by kernel_rfl) (by simp) ?_
                refine (lateCons ?_ lateNil)
                · refine wpOpL_step _ rfl (fun K' hK => ?_)
                  refine litThen kI v (cs := #[.int .i64 v]) rfl (t := 3) rfl B2 ?_
                  intro u3 pL e1 e2 B3 L k3
                  refine (k3 _ _ R2).elim ?_
                  intro R3 Ln
                  clear R2
                  go_simp
                  try rw [e1]
                  try rw [e2]
                  refine hK.out _ _ (fun _ => (cellB y1 B3).1) ?_
                  clear hK K' k3 B2
                  try simp only [Act.put, List.setIfInBounds_toArray, List.set_cons_zero, List.set_cons_succ]
                  refine wpAnyL_all [11] (by kernel_rfl) (by simp) ?_
                  refine (lateCons ?_ lateNil)
                  · refine wpOpL_step _ rfl (fun K' hK => ?_)
                    refine R3.step rfl (.tmp 54) (.tmp 56) rfl rfl _ _ _ _ rfl L hb2 hl2 ?_
                    intro A4 d4 u4 R4 k4
                    have B4 := R4.bel
                    clear L
                    clear R3
                    refine hK.out _ _ (fun _ => (cellB y1 B4).1) ?_
                    clear hK K' k4 B3
                    try simp only [Act.put, List.setIfInBounds_toArray, List.set_cons_zero, List.set_cons_succ]
                    refine wpAnyL_all [18] (by kernel_rfl) (by simp) ?_
                    refine (lateCons ?_ lateNil)
                    · refine wpOpL_step _ rfl (fun K' hK => ?_)
                      refine R4.step rfl (.tmp 57) (.tmp 63) rfl rfl _ _ _ _ rfl (Rd.below R4.bel) hb3 hl3 ?_
                      intro A5 d5 u5 R5 k5
                      have B5 := R5.bel
                      clear R4
                      refine hK.out _ _ (fun _ => (cellB y1 B5).1) ?_
                      clear hK K' k5 B4
                      try simp only [Act.put, List.setIfInBounds_toArray, List.set_cons_zero, List.set_cons_succ]
                      have f0 := (HB.out.below T1 R5.bel).box.free 2
                      have c0 := (cellB y1 R5.bel).1
                      have HR5 := Lib.hid R5
                      clear R5
                      refine wpAnyL_takeY 19 _ (.pointer (some ⟨g, 0, none⟩)) rfl (by kernel_rfl) (by kernel_rfl) (by kernel_rfl) (by kernel_rfl) (fun _ _ _ h => h) (Or.inl ⟨by rfl, ?_⟩) ?_
                      · intro w'; go_simp
                      simp only [Act.put, List.setIfInBounds_toArray, List.set_cons_zero, List.set_cons_succ]
                      refine wpAnyL_takeY 20 _ (.pointer (some ⟨g, 2, none⟩)) rfl (by kernel_rfl) (by kernel_rfl) (by kernel_rfl) (by kernel_rfl) (fun _ _ _ h => h) (Or.inl ⟨by rfl, ?_⟩) ?_
                      · intro w'; go_simp
                      simp only [Act.put, List.setIfInBounds_toArray, List.set_cons_zero, List.set_cons_succ]
                      refine wpAnyL_all [21] (by kernel_rfl) (by simp) ?_
                      refine lateCons ?_ lateNil
                      refine wpOpL_step _ rfl (fun K' hK => ?_)
                      go_simp
                      refine hK.out _ _ (fun h => absurd h (by decide)) ?_
                      clear hK K'
                      try simp only [Act.put, List.setIfInBounds_toArray, List.set_cons_zero, List.set_cons_succ]
                      refine wpAnyL_done (by kernel_rfl) ?_ _
                      dsimp only [NoPanic]
                      refine (HB.out.newV T1 HR5.out.bel HR5.out.own HR5.out.new).elim ?_
                      intro col6 h6
                      go_wp2_with fail
                      go_meet
                      exact ⟨col6, _, h6.1, h6.2⟩
              · refine wpOpL_step _ rfl (fun K' hK => ?_)
                refine litThen kI v (cs := #[.int .i64 v]) rfl (t := 3) rfl B1 ?_
                intro u2 pL e1 e2 B2 L k2
                refine (k2 _ _ R1).elim ?_
                intro R2 Ln
                clear R1
                go_simp
                try rw [e1]
                try rw [e2]
                refine hK.out _ _ (fun _ => (cellB y1 B2).1) ?_
                clear hK K' k2 B1
                try simp only [Act.put, List.setIfInBounds_toArray, List.set_cons_zero, List.set_cons_succ]
                refine wpAnyL_all [8] (by kernel_rfl) (by simp) ?_
                refine (lateCons ?_ lateNil)
                · refine wpOpL_step _ rfl (fun K' hK => ?_)
                  refine R2.step rfl (.tmp 47) (.tmp 53) rfl rfl _ _ _ _ rfl (Rh.below R2.bel) hb1 hl1 ?_
                  intro A3 d3 u3 R3 k3
                  have B3 := R3.bel
                  have L := k3 _ _ _ _ L Ln
                  clear Ln
                  clear R2
                  refine hK.out _ _ (fun _ => (cellB y1 B3).1) ?_
                  clear hK K' k3 B2
                  try simp only [Act.put, List.setIfInBounds_toArray, List.set_cons_zero, List.set_cons_succ]
                  refine wpAnyL_all [11] (by kernel_rfl) (by simp) ?_
                  refine (lateCons ?_ lateNil)
                  · refine wpOpL_step _ rfl (fun K' hK => ?_)
                    refine R3.step rfl (.tmp 54) (.tmp 56) rfl rfl _ _ _ _ rfl L hb2 hl2 ?_
                    intro A4 d4 u4 R4 k4
                    have B4 := R4.bel
                    clear L
                    clear R3
                    refine hK.out _ _ (fun _ => (cellB y1 B4).1) ?_
                    clear hK K' k4 B3
                    try simp only [Act.put, List.setIfInBounds_toArray, List.set_cons_zero, List.set_cons_succ]
                    refine wpAnyL_all [18] (by kernel_rfl) (by simp) ?_
                    refine (lateCons ?_ lateNil)
                    · refine wpOpL_step _ rfl (fun K' hK => ?_)
                      refine R4.step rfl (.tmp 57) (.tmp 63) rfl rfl _ _ _ _ rfl (Rd.below R4.bel) hb3 hl3 ?_
                      intro A5 d5 u5 R5 k5
                      have B5 := R5.bel
                      clear R4
                      refine hK.out _ _ (fun _ => (cellB y1 B5).1) ?_
                      clear hK K' k5 B4
                      try simp only [Act.put, List.setIfInBounds_toArray, List.set_cons_zero, List.set_cons_succ]
                      have f0 := (HB.out.below T1 R5.bel).box.free 2
                      have c0 := (cellB y1 R5.bel).1
                      have HR5 := Lib.hid R5
                      clear R5
                      refine wpAnyL_takeY 19 _ (.pointer (some ⟨g, 0, none⟩)) rfl (by kernel_rfl) (by kernel_rfl) (by kernel_rfl) (by kernel_rfl) (fun _ _ _ h => h) (Or.inl ⟨by rfl, ?_⟩) ?_
                      · intro w'; go_simp
                      simp only [Act.put, List.setIfInBounds_toArray, List.set_cons_zero, List.set_cons_succ]
                      refine wpAnyL_takeY 20 _ (.pointer (some ⟨g, 2, none⟩)) rfl (by kernel_rfl) (by kernel_rfl) (by kernel_rfl) (by kernel_rfl) (fun _ _ _ h => h) (Or.inl ⟨by rfl, ?_⟩) ?_
                      · intro w'; go_simp
                      simp only [Act.put, List.setIfInBounds_toArray, List.set_cons_zero, List.set_cons_succ]
                      refine wpAnyL_all [21] (by kernel_rfl) (by simp) ?_
                      refine lateCons ?_ lateNil
                      refine wpOpL_step _ rfl (fun K' hK => ?_)
                      go_simp
                      refine hK.out _ _ (fun h => absurd h (by decide)) ?_
                      clear hK K'
                      try simp only [Act.put, List.setIfInBounds_toArray, List.set_cons_zero, List.set_cons_succ]
                      refine wpAnyL_done (by kernel_rfl) ?_ _
                      dsimp only [NoPanic]
                      refine (HB.out.newV T1 HR5.out.bel HR5.out.own HR5.out.new).elim ?_
                      intro col6 h6
                      go_wp2_with fail
                      go_meet
                      exact ⟨col6, _, h6.1, h6.2⟩
            · refine wpOpL_step _ rfl (fun K' hK => ?_)
              refine litThen kI v (cs := #[.int .i64 v]) rfl (t := 3) rfl B0 ?_
              intro u1 pL e1 e2 B1 L k1
              go_simp
              try rw [e1]
              try rw [e2]
              refine hK.out _ _ (fun _ => (cellB y1 B1).1) ?_
              clear hK K' k1 B0
              try simp only [Act.put, List.setIfInBounds_toArray, List.set_cons_zero, List.set_cons_succ]
              refine wpAnyL_all [1] (by kernel_rfl) (by simp) ?_
              refine (lateCons ?_ lateNil)
              · refine wpOpL_step _ rfl (fun K' hK => ?_)
                refine emptyThen kI (t := 3) rfl B1 ?_
                intro u2 pE e1 e2 R2 k2
                have B2 := R2.bel
                have Lb := RdG.inB L
                have Ln : (Value.slice (some ⟨pE, 0, none⟩) 0 0).ownBlock ≠ some pL := by rw [← e2]; exact lit_ne (by omega)
                have L := k2 _ _ _ _ L
                clear Lb
                go_simp
                try rw [e1]
                try rw [e2]
                refine hK.out _ _ (fun _ => (cellB y1 B2).1) ?_
                clear hK K' k2 B1
                try simp only [Act.put, List.setIfInBounds_toArray, List.set_cons_zero, List.set_cons_succ]
                refine wpAnyL_all [8] (by kernel_rfl) (by simp) ?_
                refine (lateCons ?_ lateNil)
                · refine wpOpL_step _ rfl (fun K' hK => ?_)
                  refine R2.step rfl (.tmp 47) (.tmp 53) rfl rfl _ _ _ _ rfl (Rh.below R2.bel) hb1 hl1 ?_
                  intro A3 d3 u3 R3 k3
                  have B3 := R3.bel
                  have L := k3 _ _ _ _ L Ln
                  clear Ln
                  clear R2
                  refine hK.out _ _ (fun _ => (cellB y1 B3).1) ?_
                  clear hK K' k3 B2
                  try simp only [Act.put, List.setIfInBounds_toArray, List.set_cons_zero, List.set_cons_succ]
                  refine wpAnyL_all [11] (by kernel_rfl) (by simp) ?_
                  refine (lateCons ?_ lateNil)
                  · refine wpOpL_step _ rfl (fun K' hK => ?_)
                    refine R3.step rfl (.tmp 54) (.tmp 56) rfl rfl _ _ _ _ rfl L hb2 hl2 ?_
                    intro A4 d4 u4 R4 k4
                    have B4 := R4.bel
                    clear L
                    clear R3
                    refine hK.out _ _ (fun _ => (cellB y1 B4).1) ?_
                    clear hK K' k4 B3
                    try simp only [Act.put, List.setIfInBounds_toArray, List.set_cons_zero, List.set_cons_succ]
                    refine wpAnyL_all [18] (by kernel_rfl) (by simp) ?_
                    refine (lateCons ?_ lateNil)
                    · refine wpOpL_step _ rfl (fun K' hK => ?_)
                      refine R4.step rfl (.tmp 57) (.tmp 63) rfl rfl _ _ _ _ rfl (Rd.below R4.bel) hb3 hl3 ?_
                      intro A5 d5 u5 R5 k5
                      have B5 := R5.bel
                      clear R4
                      refine hK.out _ _ (fun _ => (cellB y1 B5).1) ?_
                      clear hK K' k5 B4
                      try simp only [Act.put, List.setIfInBounds_toArray, List.set_cons_zero, List.set_cons_succ]
                      have f0 := (HB.out.below T1 R5.bel).box.free 2
                      have c0 := (cellB y1 R5.bel).1
                      have HR5 := Lib.hid R5
                      clear R5
                      refine wpAnyL_takeY 19 _ (.pointer (some ⟨g, 0, none⟩)) rfl (by kernel_rfl) (by kernel_rfl) (by kernel_rfl) (by kernel_rfl) (fun _ _ _ h => h) (Or.inl ⟨by rfl, ?_⟩) ?_
                      · intro w'; go_simp
                      simp only [Act.put, List.setIfInBounds_toArray, List.set_cons_zero, List.set_cons_succ]
                      refine wpAnyL_takeY 20 _ (.pointer (some ⟨g, 2, none⟩)) rfl (by kernel_rfl) (by kernel_rfl) (by kernel_rfl) (by kernel_rfl) (fun _ _ _ h => h) (Or.inl ⟨by rfl, ?_⟩) ?_
                      · intro w'; go_simp
                      simp only [Act.put, List.setIfInBounds_toArray, List.set_cons_zero, List.set_cons_succ]
                      refine wpAnyL_all [21] (by kernel_rfl) (by simp) ?_
                      refine lateCons ?_ lateNil
                      refine wpOpL_step _ rfl (fun K' hK => ?_)
                      go_simp
                      refine hK.out _ _ (fun h => absurd h (by decide)) ?_
                      clear hK K'
                      try simp only [Act.put, List.setIfInBounds_toArray, List.set_cons_zero, List.set_cons_succ]
                      refine wpAnyL_done (by kernel_rfl) ?_ _
                      dsimp only [NoPanic]
                      refine (HB.out.newV T1 HR5.out.bel HR5.out.own HR5.out.new).elim ?_
                      intro col6 h6
                      go_wp2_with fail
                      go_meet
                      exact ⟨col6, _, h6.1, h6.2⟩
          case rest =>
            obtain ⟨col6, vV6, H6, S6⟩ := hcut
            have HR := Lib.hid (RefD.tuck (m := { m with l := insC m.l i v }) HF.out H6 HK.out.symm HV.out.symm)
            have SS := Lib.hid ((S2.out.trans HS5.out).trans S6)
            clear H6 S6 HB y1 Rh Rd hb1 hb2 hb3 hl1 hl2 hl3
            go_wp2
            go_ret2
            rw [E1.out]
            exact ⟨rfl, col6, HR.out, SS.out⟩
theorem insA_none {z v : Int} (h : placeC m.l z = none) : m.insA z v = ((0, 8), m) := by unfold CSt.insA; rw [h]
theorem insA_some {z v : Int} {i : Nat} (h : placeC m.l z = some i) : m.insA z v = m.ins (i + 1) v := by unfold CSt.insA; rw [h]
set_option maxHeartbeats 1000000 in
theorem rdInsertAfter (H : RefD col k w g m) (ht : Tidy col w) (z : Int) (hz : -9223372036854775808 ≤ z ∧ z ≤ 9223372036854775807) (v : Int) (hv : -9223372036854775808 ≤ v ∧ v ≤ 9223372036854775807) :
    Calls Tryd.prog 25 #[.pointer (some ⟨g, 0, none⟩), .int .i64 z, .int .i64 v] w fun e w' => e = .returned (.tuple #[.int .i64 (m.insA z v).1.1, .int .i64 (m.insA z v).1.2]) ∧ DidRD col k w g (m.insA z v).2 w' := by
  have hPl := rdPlace H z hz
  have hlen := H.1.len
  have hn8 := H.1.n8
  cases hp : placeC m.l z with
  | none =>
    have E1 := Lib.hid (insA_none (v := v) hp)
    have HP := Lib.hid (plC_none hp)
    have HR := Lib.hid H
    clear H hp
    go_enter Tryd.func25, Tryd.ntmps25
    go_wp2_with fail
    refine hPl.mono ?_
    rintro e w1 ⟨rfl, rfl⟩
    rw [HP.out]
    clear hPl
    go_wp2
    go_ret2
    rw [E1.out]
    exact ⟨rfl, col, HR.out, StepC.below ht (Below.refl _ _)⟩
  | some i =>
    obtain ⟨q, hq, hq1, hi⟩ := place_some hp
    have E1 := Lib.hid (insA_some (v := v) hp)
    have HP := Lib.hid (plC_some hp)
    have hw : IntKind.i64.wrap ((i : Int) + 1) = ((i + 1 : Nat) : Int) := by rw [IntKind.wrap_i64]; omega
    have hi0 : ¬ (i : Int) < 0 := by omega
    have HI := rdInsert H ht (i + 1) (by omega) v hv
    clear H hp hq hq1
    go_enter Tryd.func25, Tryd.ntmps25
    go_wp2_with fail
    refine hPl.mono ?_
    rintro e w1 ⟨rfl, rfl⟩
    rw [HP.out]
    clear hPl
    go_wp2_with fail
    refine HI.mono ?_
    rintro e w2 ⟨rfl, hd⟩
    rw [← E1.out] at hd ⊢
    go_wp2
    go_ret2
    exact ⟨rfl, hd⟩
end
end Go.Proofs.YtfbddcbbkfklnaaDoor
