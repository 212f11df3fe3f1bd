/- The specified order (heavykeysref08.Ranks) in memory: New, Count, Least, put. Conditions: none beyond those typed. -/
import Derived.Test.YtopjnalehllgcaaDoorRref
import Derived.Deep.RegionHeld3
import Derived.Deep.CutRange
namespace Go.Proofs.YtopjnalehllgcaaDoor
open Go.ChangeShapes Go.WideShapes Go.ChangeAt Go.RowKit
set_option linter.unusedVariables false
set_option linter.unusedSimpArgs false
set_option maxRecDepth 100000

section
variable {P : Nat → Prop} {col col' : Col} {w w' : World} {k g n d : Nat} {m : CSt Int} {vN vV v' : Value} {i : Nat} {p : Nat × Int} {x : Int}
def rnkE (n : Int) : Int := if n < 1 ∨ 8192 < n then 1 else 0
theorem newR_good {n : Nat} (h1 : 1 ≤ n) (h8 : n ≤ 8192) : GoodR (newC Int n) := ⟨newC_good h1 h8, List.Pairwise.nil, fun p hp => by simp [newC] at hp⟩
def NewRR (col : Col) (k : Nat) (n : Int) (w : World) (e : Ending) (w' : World) : Prop :=
  (rnkE n = 0 ∧ ∃ g, e = .returned (.tuple #[.pointer (some ⟨g, 0, none⟩), .int .i64 0]) ∧ ∃ col', RefR col' k w' g (newC Int n.toNat) ∧ StepC (Rng k) col w col' w') ∨ (rnkE n = 1 ∧ e = .returned (.tuple #[.pointer none, .int .i64 1]) ∧ Below w.heap.size w w')
theorem new_rr (ht : Tidy col w) (hk : 1 ≤ k) {n : Nat} (hG : GoodR (newC Int n)) :
    ∃ col', RefR col' k (w.alloc (.cells #[.int .i64 n, .slice none 0 0, .slice none 0 0] 47)) w.heap.size (newC Int n) ∧ StepC (Rng k) col w col' (w.alloc (.cells #[.int .i64 n, .slice none 0 0, .slice none 0 0] 47)) :=
  ⟨dye col (some w.heap.size) k, ⟨hG, _, _, ⟨heap_alloc_new w _, dye_of⟩, OwnKc.nil kI _ _ _, OwnKc.nil kU _ _ _, hk⟩, StepC.newRow ht ((Below.refl _ _).alloc (Nat.le_refl _) _) fun b e => by injection e with e; subst e; exact ⟨Nat.le_refl _, by simp⟩⟩
set_option maxHeartbeats 1000000 in
theorem rrNew (ht : Tidy col w) (hk : 1 ≤ k) (n : Int) (hn : -9223372036854775808 ≤ n ∧ n ≤ 9223372036854775807) :
    Calls Tryd.prog 9 #[.int .i64 n] w (NewRR col k n w) := by
  obtain ⟨i1, i2⟩ := hn
  by_cases h1 : n < 1
  · have HE := Lib.hid (show rnkE n = 1 from if_pos (.inl h1))
    go_enter Tryd.func9, Tryd.ntmps9
    go_wp2
    go_ret2
    exact .inr ⟨HE.out, rfl, Below.refl _ _⟩
  by_cases h2 : 8192 < n
  · have HE := Lib.hid (show rnkE n = 1 from if_pos (.inr h2))
    go_enter Tryd.func9, Tryd.ntmps9
    go_wp2
    go_ret2
    exact .inr ⟨HE.out, rfl, Below.refl _ _⟩
  have HE := Lib.hid (show rnkE n = 0 from if_neg (by omega))
  obtain ⟨q, hq⟩ : ∃ q : Nat, n = q := ⟨n.toNat, by omega⟩
  subst hq
  have HG := Lib.hid (newR_good (n := q) (by omega) (by omega))
  have HM := Lib.hid (new_rr (n := q) ht hk HG.out)
  go_enter Tryd.func9, Tryd.ntmps9
  go_wp2
  go_ret2
  obtain ⟨col', hM, hS⟩ := HM.out
  exact .inl ⟨HE.out, _, rfl, col', hM, hS⟩
theorem plR_none {l : List (Nat × Int)} {z : Int} (h : placeC l z = none) : plC l z = -1 := by unfold plC; rw [h]
theorem plR_some {l : List (Nat × Int)} {z : Int} {i : Nat} (h : placeC l z = some i) : plC l z = (i : Int) := by unfold plC; rw [h]
set_option maxHeartbeats 1000000 in
theorem rrCount (H : RefR col k w g m) (z : Int) (hz : -9223372036854775808 ≤ z ∧ z ≤ 9223372036854775807) :
    Calls Tryd.prog 22 #[.pointer (some ⟨g, 0, none⟩), .int .i64 z] w fun e w' => e = .returned (.tuple #[.int .u64 (m.countR z).1, .bool (m.countR z).2]) ∧ w' = w := by
  have hPl := rrPlace H z hz
  obtain ⟨hG, vN, vV, H⟩ := H
  have hlen := hG.c.len
  have hn8 := hG.c.n8
  cases hp : placeC m.l z with
  | none =>
    have E1 := Lib.hid (show m.countR z = (0, false) by unfold CSt.countR CSt.value; rw [hp]; rfl)
    have HP := Lib.hid (plR_none hp)
    clear H hG hp
    go_enter Tryd.func22, Tryd.ntmps22
    go_wp2_with fail
    refine hPl.mono ?_
    rintro e w1 ⟨rfl, rfl⟩
    rw [HP.out]
    go_wp2
    go_ret2
    rw [E1.out]
    exact ⟨rfl, rfl⟩
  | some i =>
    obtain ⟨q, hq, hq1, hi⟩ := place_some hp
    have E1 := Lib.hid (show m.countR z = (q.2, true) by unfold CSt.countR CSt.value; rw [hp]; simp [hq])
    have HP := Lib.hid (plR_some hp)
    obtain ⟨b, c, rfl, y1, q1, q2⟩ := H.atV hq
    have x2 : w.cell? ⟨g, 2, none⟩ = some (.slice (some ⟨b, 0, none⟩) m.l.length c) := H.box.cell 2 rfl
    have hi2 : (i : Int) < (m.l.length : Int) := by omega
    clear H hG hp hq hq1
    go_enter Tryd.func22, Tryd.ntmps22
    go_wp2_with fail
    refine hPl.mono ?_
    rintro e w1 ⟨rfl, rfl⟩
    rw [HP.out]
    go_wp2
    go_ret2
    rw [E1.out]
    exact ⟨rfl, rfl⟩
theorem putR_ns (l : List (Nat × Int)) (d : Nat) (x : Int) : (putR l d x).map (fun p => (p.1 : Int)) = ((l.map fun p => (p.1 : Int)).take (posR l x) ++ [(d : Int)]) ++ (l.map fun p => (p.1 : Int)).drop (posR l x) := by unfold putR; simp [List.map_take, List.map_drop]
theorem putR_vs (l : List (Nat × Int)) (d : Nat) (x : Int) : (putR l d x).map Prod.snd = ((l.map Prod.snd).take (posR l x) ++ [x]) ++ (l.map Prod.snd).drop (posR l x) := by unfold putR; simp [List.map_take, List.map_drop]
set_option maxHeartbeats 4000000 in
theorem rrPut (H1 : RefRB col k w g m.n m.ns m.vals vN vV) (ht : Tidy col w) (hlen : m.l.length ≤ 8192) (HF0 : GoodR { m with l := putR m.l d x }) (hd : d ≤ 8192) (hx0 : 0 ≤ x) (hx1 : x ≤ 18446744073709551615) :
    Calls Tryd.prog 36 #[.pointer (some ⟨g, 0, none⟩), .int .i64 (d : Int), .int .u64 x] w fun e w' => e = .returned (.tuple #[]) ∧ DidRR col k w g { m with l := putR m.l d x } w' := by
  obtain ⟨A, c, rfl, R1, _⟩ := H1.ns.own.form (ns_len m)
  have y1 : w.cell? ⟨g, 1, none⟩ = some (.slice A m.l.length c) := H1.box.cell 1 rfl
  have HF := Lib.hid HF0
  have HK0 := Lib.hid (putR_ns m.l d x)
  have HV0 := Lib.hid (putR_vs m.l d x)
  have hHH := Lib.hid H1
  have T1 := ht
  have hkl := ns_len m
  have hcap := R1.cap
  have hmax := R1.max
  have hd8 : (d : Int) ≤ 8192 := by omega
  clear HF0 H1
  go_enter Tryd.func36, Tryd.ntmps36
  go_wp2
  go_loopw [6] (fun iv wr => ∃ j : Nat, j ≤ posR m.l x ∧ iv = .int .i64 (j : Int) ∧ wr = w) (fun iv _ => m.l.length - (intOf iv).toNat)
  case atStart => exact ⟨0, Nat.zero_le _, rfl, rfl⟩
  case round =>
    obtain ⟨j, hj, rfl, hwr⟩ := hrel
    rw [hwr]
    have hple0 := pos_le m.l x
    by_cases hlt : j < m.l.length
    · obtain ⟨q, hq⟩ : ∃ q, m.l[j]? = some q := ⟨_, List.getElem?_eq_getElem hlt⟩
      obtain ⟨b, cV, hvV, z1, q1, q2⟩ := hHH.out.atV hq
      have z2 : w.cell? ⟨g, 2, none⟩ = some vV := hHH.out.box.cell 2 rfl
      rw [hvV] at z2
      have hlt2 : (j : Int) < (m.l.length : Int) := by omega
      by_cases hle : q.2 ≤ x
      · have hj2 : j + 1 ≤ posR m.l x := by
          rcases Nat.lt_or_ge j (posR m.l x) with h1 | h1
          · exact h1
          · obtain rfl : j = posR m.l x := by omega
            have := pos_at hq
            omega
        clear hq hvV R1 HK0 HV0
        go_wp2
        go_roundw
        case rel => exact ⟨j + 1, hj2, by go_num, by first | rfl | trivial⟩
        case measure => (simp [intOf] <;> omega)
      · have hji : j = posR m.l x := by
          rcases Nat.lt_or_ge j (posR m.l x) with h1 | h1
          · exact absurd (pos_before h1 hq) hle
          · omega
        have HK := Lib.hid (show (putR m.l d x).map (fun p => (p.1 : Int)) = (m.ns.take j ++ [(d : Int)]) ++ m.ns.drop j by rw [HK0.out, ← hji]; rfl)
        have HV := Lib.hid (show (putR m.l d x).map Prod.snd = (m.vals.take j ++ [x]) ++ m.vals.drop j by rw [HV0.out, ← hji]; rfl)
        have hltx : x < q.2 := by omega
        clear HK0 HV0 hj hji hple0 hle hvV hq
        have hple : j ≤ m.l.length := by omega
        have hi2 : (j : Int) ≤ (m.l.length : Int) := by omega
        have hic : (j : Int) ≤ (c : Int) := by omega
        have hic2 : j ≤ c := by omega
        have Rh := R1.head hple
        have Rd := R1.dropM (by simp [kI]) hple
        clear R1
        have hb1 : ([] : List Int).length + j ≤ 1000000000 := by simp; omega
        have hl1 : (([] : List Int) ++ m.ns.take j).length = j := by simp [ns_len]; omega
        have hb2 : (([] : List Int) ++ m.ns.take j).length + 1 ≤ 1000000000 := by simp; omega
        have hl2 : ((([] : List Int) ++ m.ns.take j) ++ [(d : Int)]).length = j + 1 := by simp [ns_len]; omega
        have hb3 : ((([] : List Int) ++ m.ns.take j) ++ [(d : Int)]).length + (m.l.length - j) ≤ 1000000000 := by simp; omega
        have hl3 : (((([] : List Int) ++ m.ns.take j) ++ [(d : Int)]) ++ m.ns.drop j).length = m.l.length + 1 := by simp [ns_len]; omega
        obtain ⟨A9, hA9⟩ : ∃ A9, A9 = (if c = j then A else A.map fun x => x.add j) := ⟨_, rfl⟩
        rw [← hA9] at Rd
        have HA9 := Lib.hid hA9
        clear hA9
        have HB := hHH
        go_upto_region 3 with fail
        go_cut [] from 27 to 47 (fun wx => ∃ col5 vN5, RefRB col5 k wx g m.n (((([] : List Int) ++ m.ns.take j) ++ [(d : Int)]) ++ m.ns.drop j) m.vals vN5 vV ∧ StepC (Rng k) col w col5 wx)
        case first =>
          refine wp_region_noPanic ?_
          refine wp_region_late (fun w' => w'.cell? ⟨g, 1, none⟩ = some (.slice A m.l.length c)) (fun j => [0, 2, 3, 4, 6, 9, 12, 13, 14, 16, 19, 20, 21].contains j) (by kernel_rfl) ?_
          intro u0 hu0
          have B0 : Below w.heap.size w u0 := by rw [← hu0]; exact bdM _
          have hS : (fun w' => w'.cell? ⟨g, 1, none⟩ = some (.slice A m.l.length c)) u0 := (cellB y1 B0).1
          clear hu0
          refine wpAnyL_takeY 0 _ (.pointer (some ⟨g, 0, none⟩)) rfl (by kernel_rfl) (by kernel_rfl) (by kernel_rfl) (by kernel_rfl) (fun _ _ _ h => h) (Or.inl ⟨by rfl, ?_⟩) ?_
          · intro w'; go_simp
          simp only [Act.put, List.setIfInBounds_toArray, List.set_cons_zero, List.set_cons_succ]
          refine wpAnyL_takeY 2 _ (.pointer (some ⟨g, 0, none⟩)) rfl (by kernel_rfl) (by kernel_rfl) (by kernel_rfl) (by kernel_rfl) (fun _ _ _ h => h) (Or.inl ⟨by rfl, ?_⟩) ?_
          · intro w'; go_simp
          simp only [Act.put, List.setIfInBounds_toArray, List.set_cons_zero, List.set_cons_succ]
          refine wpAnyL_takeY 3 _ (.pointer (some ⟨g, 0, none⟩)) rfl (by kernel_rfl) (by kernel_rfl) (by kernel_rfl) (by kernel_rfl) (fun _ _ _ h => h) (Or.inl ⟨by rfl, ?_⟩) ?_
          · intro w'; go_simp
          simp only [Act.put, List.setIfInBounds_toArray, List.set_cons_zero, List.set_cons_succ]
          refine wpAnyL_takeY 4 _ (.pointer (some ⟨g, 1, none⟩)) rfl (by kernel_rfl) (by kernel_rfl) (by kernel_rfl) (by kernel_rfl) (fun _ _ _ h => h) (Or.inl ⟨by rfl, ?_⟩) ?_
          · intro w'; go_simp
          simp only [Act.put, List.setIfInBounds_toArray, List.set_cons_zero, List.set_cons_succ]
          refine wpAnyL_takeY 6 _ (.int .i64 (j : Int)) rfl (by kernel_rfl) (by kernel_rfl) (by kernel_rfl) (by kernel_rfl) (fun _ _ _ h => h) (Or.inl ⟨by rfl, ?_⟩) ?_
          · intro w'; go_simp
          simp only [Act.put, List.setIfInBounds_toArray, List.set_cons_zero, List.set_cons_succ]
          refine wpAnyL_takeY 9 _ (.int .i64 (d : Int)) rfl (by kernel_rfl) (by kernel_rfl) (by kernel_rfl) (by kernel_rfl) (fun _ _ _ h => h) (Or.inl ⟨by rfl, ?_⟩) ?_
          · intro w'; go_simp
          simp only [Act.put, List.setIfInBounds_toArray, List.set_cons_zero, List.set_cons_succ]
          refine wpAnyL_takeY 12 _ (.pointer (some ⟨g, 0, none⟩)) rfl (by kernel_rfl) (by kernel_rfl) (by kernel_rfl) (by kernel_rfl) (fun _ _ _ h => h) (Or.inl ⟨by rfl, ?_⟩) ?_
          · intro w'; go_simp
          simp only [Act.put, List.setIfInBounds_toArray, List.set_cons_zero, List.set_cons_succ]
          refine wpAnyL_takeY 13 _ (.pointer (some ⟨g, 0, none⟩)) rfl (by kernel_rfl) (by kernel_rfl) (by kernel_rfl) (by kernel_rfl) (fun _ _ _ h => h) (Or.inl ⟨by rfl, ?_⟩) ?_
          · intro w'; go_simp
          simp only [Act.put, List.setIfInBounds_toArray, List.set_cons_zero, List.set_cons_succ]
          refine wpAnyL_takeY 14 _ (.pointer (some ⟨g, 1, none⟩)) rfl (by kernel_rfl) (by kernel_rfl) (by kernel_rfl) (by kernel_rfl) (fun _ _ _ h => h) (Or.inl ⟨by rfl, ?_⟩) ?_
          · intro w'; go_simp
          simp only [Act.put, List.setIfInBounds_toArray, List.set_cons_zero, List.set_cons_succ]
          refine wpAnyL_takeY 16 _ (.int .i64 (j : Int)) rfl (by kernel_rfl) (by kernel_rfl) (by kernel_rfl) (by kernel_rfl) (fun _ _ _ h => h) (Or.inl ⟨by rfl, ?_⟩) ?_
          · intro w'; go_simp
          simp only [Act.put, List.setIfInBounds_toArray, List.set_cons_zero, List.set_cons_succ]
          refine wpAnyL_take 5 _ (.slice A m.l.length c) rfl (by kernel_rfl) (by kernel_rfl) (by kernel_rfl) (by kernel_rfl) (fun _ _ _ h => h) (Or.inl ⟨by rfl, ?_⟩) hS ?_
          · intro w' hSw; go_simp
          simp only [Act.put, List.setIfInBounds_toArray, List.set_cons_zero, List.set_cons_succ]
          refine wpAnyL_take 15 _ (.slice A m.l.length c) rfl (by kernel_rfl) (by kernel_rfl) (by kernel_rfl) (by kernel_rfl) (fun _ _ _ h => h) (Or.inl ⟨by rfl, ?_⟩) hS ?_
          · intro w' hSw; go_simp
          simp only [Act.put, List.setIfInBounds_toArray, List.set_cons_zero, List.set_cons_succ]
          refine wpAnyL_take 7 _ (.slice A j c) rfl (by kernel_rfl) (by kernel_rfl) (by kernel_rfl) (by kernel_rfl) (fun _ _ _ h => h) (Or.inl ⟨by rfl, ?_⟩) hS ?_
          · intro w' hSw; go_simp
          simp only [Act.put, List.setIfInBounds_toArray, List.set_cons_zero, List.set_cons_succ]
          refine wpAnyL_take 17 _ (.slice A9 (m.l.length - j) (c - j)) rfl (by kernel_rfl) (by kernel_rfl) (by kernel_rfl) (by kernel_rfl) (fun _ _ _ h => h) (Or.inl ⟨by rfl, ?_⟩) hS ?_
          · intro w' hSw; rw [HA9.out]; go_simp
          simp only [Act.put, List.setIfInBounds_toArray, List.set_cons_zero, List.set_cons_succ]
          clear hS
          refine wpAnyL_all [1, 10] (by kernel_rfl) (by simp) ?_
          refine (lateCons ?_ (lateCons ?_ lateNil))
          · refine wpOpL_step _ rfl (fun K' hK => ?_)
            refine emptyThen kI (t := 3) rfl B0 ?_
            intro u1 pE e1 e2 R1 k1
            have B1 := R1.bel
            go_simp
            try rw [e1]
            try rw [e2]
            refine hK.out _ _ (fun _ => (cellB y1 B1).1) ?_
            clear hK K' k1 B0
            try simp only [Act.put, List.setIfInBounds_toArray, List.set_cons_zero, List.set_cons_succ]
            refine wpAnyL_all [8, 10] (by kernel_rfl) (by simp) ?_
            refine (lateCons ?_ (lateCons ?_ lateNil))
            · refine wpOpL_step _ rfl (fun K' hK => ?_)
              refine R1.step rfl (.tmp 28) (.tmp 34) rfl rfl _ _ _ _ rfl (Rh.below R1.bel) hb1 hl1 ?_
              intro A2 d2 u2 R2 k2
              have B2 := R2.bel
              clear R1
              refine hK.out _ _ (fun _ => (cellB y1 B2).1) ?_
              clear hK K' k2 B1
              try simp only [Act.put, List.setIfInBounds_toArray, List.set_cons_zero, List.set_cons_succ]
              refine wpAnyL_all [10] (by kernel_rfl) (by simp) ?_
              refine (lateCons ?_ lateNil)
              · refine wpOpL_step _ rfl (fun K' hK => ?_)
                refine litThen kI (d : Int) (cs := #[.int .i64 (d : Int)]) rfl (t := 3) rfl B2 ?_
                intro u3 pL e1 e2 B3 L k3
                refine (k3 _ _ R2).elim ?_
                intro R3 Ln
                clear R2
                go_simp
                try rw [e1]
                try rw [e2]
                refine hK.out _ _ (fun _ => (cellB y1 B3).1) ?_
                clear hK K' k3 B2
                try simp only [Act.put, List.setIfInBounds_toArray, List.set_cons_zero, List.set_cons_succ]
                refine wpAnyL_all [11] (by kernel_rfl) (by simp) ?_
                refine (lateCons ?_ lateNil)
                · refine wpOpL_step _ rfl (fun K' hK => ?_)
                  refine R3.step rfl (.tmp 35) (.tmp 37) rfl rfl _ _ _ _ rfl L hb2 hl2 ?_
                  intro A4 d4 u4 R4 k4
                  have B4 := R4.bel
                  clear L
                  clear R3
                  refine hK.out _ _ (fun _ => (cellB y1 B4).1) ?_
                  clear hK K' k4 B3
                  try simp only [Act.put, List.setIfInBounds_toArray, List.set_cons_zero, List.set_cons_succ]
                  refine wpAnyL_all [18] (by kernel_rfl) (by simp) ?_
                  refine (lateCons ?_ lateNil)
                  · refine wpOpL_step _ rfl (fun K' hK => ?_)
                    refine R4.step rfl (.tmp 38) (.tmp 44) rfl rfl _ _ _ _ rfl (Rd.below R4.bel) hb3 hl3 ?_
                    intro A5 d5 u5 R5 k5
                    have B5 := R5.bel
                    clear R4
                    refine hK.out _ _ (fun _ => (cellB y1 B5).1) ?_
                    clear hK K' k5 B4
                    try simp only [Act.put, List.setIfInBounds_toArray, List.set_cons_zero, List.set_cons_succ]
                    have f0 := (HB.out.below T1 R5.bel).box.free 1
                    have c0 := (cellB y1 R5.bel).1
                    have HR5 := Lib.hid R5
                    clear R5
                    refine wpAnyL_takeY 19 _ (.pointer (some ⟨g, 0, none⟩)) rfl (by kernel_rfl) (by kernel_rfl) (by kernel_rfl) (by kernel_rfl) (fun _ _ _ h => h) (Or.inl ⟨by rfl, ?_⟩) ?_
                    · intro w'; go_simp
                    simp only [Act.put, List.setIfInBounds_toArray, List.set_cons_zero, List.set_cons_succ]
                    refine wpAnyL_takeY 20 _ (.pointer (some ⟨g, 1, none⟩)) rfl (by kernel_rfl) (by kernel_rfl) (by kernel_rfl) (by kernel_rfl) (fun _ _ _ h => h) (Or.inl ⟨by rfl, ?_⟩) ?_
                    · intro w'; go_simp
                    simp only [Act.put, List.setIfInBounds_toArray, List.set_cons_zero, List.set_cons_succ]
                    refine wpAnyL_all [21] (by kernel_rfl) (by simp) ?_
                    refine lateCons ?_ lateNil
                    refine wpOpL_step _ rfl (fun K' hK => ?_)
                    go_simp
                    refine hK.out _ _ (fun h => absurd h (by decide)) ?_
                    clear hK K'
                    try simp only [Act.put, List.setIfInBounds_toArray, List.set_cons_zero, List.set_cons_succ]
                    refine wpAnyL_done (by kernel_rfl) ?_ _
                    dsimp only [NoPanic]
                    refine (HB.out.newN T1 HR5.out.bel HR5.out.own HR5.out.new).elim ?_
                    intro col5 h5
                    go_wp2_with fail
                    go_meet
                    exact ⟨col5, _, h5.1, h5.2⟩
            · refine wpOpL_step _ rfl (fun K' hK => ?_)
              refine litThen kI (d : Int) (cs := #[.int .i64 (d : Int)]) rfl (t := 3) rfl B1 ?_
              intro u2 pL e1 e2 B2 L k2
              refine (k2 _ _ R1).elim ?_
              intro R2 Ln
              clear R1
              go_simp
              try rw [e1]
              try rw [e2]
              refine hK.out _ _ (fun _ => (cellB y1 B2).1) ?_
              clear hK K' k2 B1
              try simp only [Act.put, List.setIfInBounds_toArray, List.set_cons_zero, List.set_cons_succ]
              refine wpAnyL_all [8] (by kernel_rfl) (by simp) ?_
              refine (lateCons ?_ lateNil)
              · refine wpOpL_step _ rfl (fun K' hK => ?_)
                refine R2.step rfl (.tmp 28) (.tmp 34) rfl rfl _ _ _ _ rfl (Rh.below R2.bel) hb1 hl1 ?_
                intro A3 d3 u3 R3 k3
                have B3 := R3.bel
                have L := k3 _ _ _ _ L Ln
                clear Ln
                clear R2
                refine hK.out _ _ (fun _ => (cellB y1 B3).1) ?_
                clear hK K' k3 B2
                try simp only [Act.put, List.setIfInBounds_toArray, List.set_cons_zero, List.set_cons_succ]
                refine wpAnyL_all [11] (by kernel_rfl) (by simp) ?_
                refine (lateCons ?_ lateNil)
                · refine wpOpL_step _ rfl (fun K' hK => ?_)
                  refine R3.step rfl (.tmp 35) (.tmp 37) rfl rfl _ _ _ _ rfl L hb2 hl2 ?_
                  intro A4 d4 u4 R4 k4
                  have B4 := R4.bel
                  clear L
                  clear R3
                  refine hK.out _ _ (fun _ => (cellB y1 B4).1) ?_
                  clear hK K' k4 B3
                  try simp only [Act.put, List.setIfInBounds_toArray, List.set_cons_zero, List.set_cons_succ]
                  refine wpAnyL_all [18] (by kernel_rfl) (by simp) ?_
                  refine (lateCons ?_ lateNil)
                  · refine wpOpL_step _ rfl (fun K' hK => ?_)
                    refine R4.step rfl (.tmp 38) (.tmp 44) rfl rfl _ _ _ _ rfl (Rd.below R4.bel) hb3 hl3 ?_
                    intro A5 d5 u5 R5 k5
                    have B5 := R5.bel
                    clear R4
                    refine hK.out _ _ (fun _ => (cellB y1 B5).1) ?_
                    clear hK K' k5 B4
                    try simp only [Act.put, List.setIfInBounds_toArray, List.set_cons_zero, List.set_cons_succ]
                    have f0 := (HB.out.below T1 R5.bel).box.free 1
                    have c0 := (cellB y1 R5.bel).1
                    have HR5 := Lib.hid R5
                    clear R5
                    refine wpAnyL_takeY 19 _ (.pointer (some ⟨g, 0, none⟩)) rfl (by kernel_rfl) (by kernel_rfl) (by kernel_rfl) (by kernel_rfl) (fun _ _ _ h => h) (Or.inl ⟨by rfl, ?_⟩) ?_
                    · intro w'; go_simp
                    simp only [Act.put, List.setIfInBounds_toArray, List.set_cons_zero, List.set_cons_succ]
                    refine wpAnyL_takeY 20 _ (.pointer (some ⟨g, 1, none⟩)) rfl (by kernel_rfl) (by kernel_rfl) (by kernel_rfl) (by kernel_rfl) (fun _ _ _ h => h) (Or.inl ⟨by rfl, ?_⟩) ?_
                    · intro w'; go_simp
                    simp only [Act.put, List.setIfInBounds_toArray, List.set_cons_zero, List.set_cons_succ]
                    refine wpAnyL_all [21] (by kernel_rfl) (by simp) ?_
                    refine lateCons ?_ lateNil
                    refine wpOpL_step _ rfl (fun K' hK => ?_)
                    go_simp
                    refine hK.out _ _ (fun h => absurd h (by decide)) ?_
                    clear hK K'
                    try simp only [Act.put, List.setIfInBounds_toArray, List.set_cons_zero, List.set_cons_succ]
                    refine wpAnyL_done (by kernel_rfl) ?_ _
                    dsimp only [NoPanic]
                    refine (HB.out.newN T1 HR5.out.bel HR5.out.own HR5.out.new).elim ?_
                    intro col5 h5
                    go_wp2_with fail
                    go_meet
                    exact ⟨col5, _, h5.1, h5.2⟩
          · refine wpOpL_step _ rfl (fun K' hK => ?_)
            refine litThen kI (d : Int) (cs := #[.int .i64 (d : Int)]) rfl (t := 3) rfl B0 ?_
            intro u1 pL e1 e2 B1 L k1
            go_simp
            try rw [e1]
            try rw [e2]
            refine hK.out _ _ (fun _ => (cellB y1 B1).1) ?_
            clear hK K' k1 B0
            try simp only [Act.put, List.setIfInBounds_toArray, List.set_cons_zero, List.set_cons_succ]
            refine wpAnyL_all [1] (by kernel_rfl) (by simp) ?_
            refine (lateCons ?_ lateNil)
            · refine wpOpL_step _ rfl (fun K' hK => ?_)
              refine emptyThen kI (t := 3) rfl B1 ?_
              intro u2 pE e1 e2 R2 k2
              have B2 := R2.bel
              have Lb := RdG.inB L
              have Ln : (Value.slice (some ⟨pE, 0, none⟩) 0 0).ownBlock ≠ some pL := by rw [← e2]; exact lit_ne (by omega)
              have L := k2 _ _ _ _ L
              clear Lb
              go_simp
              try rw [e1]
              try rw [e2]
              refine hK.out _ _ (fun _ => (cellB y1 B2).1) ?_
              clear hK K' k2 B1
              try simp only [Act.put, List.setIfInBounds_toArray, List.set_cons_zero, List.set_cons_succ]
              refine wpAnyL_all [8] (by kernel_rfl) (by simp) ?_
              refine (lateCons ?_ lateNil)
              · refine wpOpL_step _ rfl (fun K' hK => ?_)
                refine R2.step rfl (.tmp 28) (.tmp 34) rfl rfl _ _ _ _ rfl (Rh.below R2.bel) hb1 hl1 ?_
                intro A3 d3 u3 R3 k3
                have B3 := R3.bel
                have L := k3 _ _ _ _ L Ln
                clear Ln
                clear R2
                refine hK.out _ _ (fun _ => (cellB y1 B3).1) ?_
                clear hK K' k3 B2
                try simp only [Act.put, List.setIfInBounds_toArray, List.set_cons_zero, List.set_cons_succ]
                refine wpAnyL_all [11] (by kernel_rfl) (by simp) ?_
                refine (lateCons ?_ lateNil)
                · refine wpOpL_step _ rfl (fun K' hK => ?_)
                  refine R3.step rfl (.tmp 35) (.tmp 37) rfl rfl _ _ _ _ rfl L hb2 hl2 ?_
                  intro A4 d4 u4 R4 k4
                  have B4 := R4.bel
                  clear L
                  clear R3
                  refine hK.out _ _ (fun _ => (cellB y1 B4).1) ?_
                  clear hK K' k4 B3
                  try simp only [Act.put, List.setIfInBounds_toArray, List.set_cons_zero, List.set_cons_succ]
                  refine wpAnyL_all [18] (by kernel_rfl) (by simp) ?_
                  refine (lateCons ?_ lateNil)
                  · refine wpOpL_step _ rfl (fun K' hK => ?_)
                    refine R4.step rfl (.tmp 38) (.tmp 44) rfl rfl _ _ _ _ rfl (Rd.below R4.bel) hb3 hl3 ?_
                    intro A5 d5 u5 R5 k5
                    have B5 := R5.bel
                    clear R4
                    refine hK.out _ _ (fun _ => (cellB y1 B5).1) ?_
                    clear hK K' k5 B4
                    try simp only [Act.put, List.setIfInBounds_toArray, List.set_cons_zero, List.set_cons_succ]
                    have f0 := (HB.out.below T1 R5.bel).box.free 1
                    have c0 := (cellB y1 R5.bel).1
                    have HR5 := Lib.hid R5
                    clear R5
                    refine wpAnyL_takeY 19 _ (.pointer (some ⟨g, 0, none⟩)) rfl (by kernel_rfl) (by kernel_rfl) (by kernel_rfl) (by kernel_rfl) (fun _ _ _ h => h) (Or.inl ⟨by rfl, ?_⟩) ?_
                    · intro w'; go_simp
                    simp only [Act.put, List.setIfInBounds_toArray, List.set_cons_zero, List.set_cons_succ]
                    refine wpAnyL_takeY 20 _ (.pointer (some ⟨g, 1, none⟩)) rfl (by kernel_rfl) (by kernel_rfl) (by kernel_rfl) (by kernel_rfl) (fun _ _ _ h => h) (Or.inl ⟨by rfl, ?_⟩) ?_
                    · intro w'; go_simp
                    simp only [Act.put, List.setIfInBounds_toArray, List.set_cons_zero, List.set_cons_succ]
                    refine wpAnyL_all [21] (by kernel_rfl) (by simp) ?_
                    refine lateCons ?_ lateNil
                    refine wpOpL_step _ rfl (fun K' hK => ?_)
                    go_simp
                    refine hK.out _ _ (fun h => absurd h (by decide)) ?_
                    clear hK K'
                    try simp only [Act.put, List.setIfInBounds_toArray, List.set_cons_zero, List.set_cons_succ]
                    refine wpAnyL_done (by kernel_rfl) ?_ _
                    dsimp only [NoPanic]
                    refine (HB.out.newN T1 HR5.out.bel HR5.out.own HR5.out.new).elim ?_
                    intro col5 h5
                    go_wp2_with fail
                    go_meet
                    exact ⟨col5, _, h5.1, h5.2⟩
        case rest =>
          obtain ⟨col5, vN5, H5, S5⟩ := hcut
          have T1 := S5.tidy
          obtain ⟨A5, c5, rfl, R5, _⟩ := H5.vs.own.form (vs_len m)
          have y1 : wc.cell? ⟨g, 2, none⟩ = some (.slice A5 m.l.length c5) := H5.box.cell 2 rfl
          have hcap5 := R5.cap
          have hmax5 := R5.max
          have hjc5 : (j : Int) ≤ (c5 : Int) := by omega
          have hjc6 : j ≤ c5 := by omega
          have Rh := R5.head hple
          have Rd := R5.dropM (by simp [kU]) hple
          have HB := Lib.hid H5
          have HS5 := Lib.hid S5
          clear H5 S5 R5 hb1 hb2 hb3 hl1 hl2 hl3 HA9 hHH
          have hb1 : ([] : List Int).length + j ≤ 1000000000 := by simp; omega
          have hl1 : (([] : List Int) ++ m.vals.take j).length = j := by simp [vs_len]; omega
          have hb2 : (([] : List Int) ++ m.vals.take j).length + 1 ≤ 1000000000 := by simp; omega
          have hl2 : ((([] : List Int) ++ m.vals.take j) ++ [x]).length = j + 1 := by simp [vs_len]; omega
          have hb3 : ((([] : List Int) ++ m.vals.take j) ++ [x]).length + (m.l.length - j) ≤ 1000000000 := by simp; omega
          have hl3 : (((([] : List Int) ++ m.vals.take j) ++ [x]) ++ m.vals.drop j).length = m.l.length + 1 := by simp [vs_len]; omega
          obtain ⟨A9, hA9⟩ : ∃ A9, A9 = (if c5 = j then A5 else A5.map fun x => x.add j) := ⟨_, rfl⟩
          rw [← hA9] at Rd
          have HA9 := Lib.hid hA9
          clear hA9
          go_upto_region 4 with fail
          refine wp_region_noPanic ?_
          refine wp_region_late (fun w' => w'.cell? ⟨g, 2, none⟩ = some (.slice A5 m.l.length c5)) (fun j => [0, 2, 3, 4, 6, 9, 12, 13, 14, 16, 19, 20, 21].contains j) (by kernel_rfl) ?_
          intro u0 hu0
          have B0 : Below wc.heap.size wc u0 := by rw [← hu0]; exact bdM _
          have hS : (fun w' => w'.cell? ⟨g, 2, none⟩ = some (.slice A5 m.l.length c5)) u0 := (cellB y1 B0).1
          clear hu0
          refine wpAnyL_takeY 0 _ (.pointer (some ⟨g, 0, none⟩)) rfl (by kernel_rfl) (by kernel_rfl) (by kernel_rfl) (by kernel_rfl) (fun _ _ _ h => h) (Or.inl ⟨by rfl, ?_⟩) ?_
          · intro w'; go_simp
          simp only [Act.put, List.setIfInBounds_toArray, List.set_cons_zero, List.set_cons_succ]
          refine wpAnyL_takeY 2 _ (.pointer (some ⟨g, 0, none⟩)) rfl (by kernel_rfl) (by kernel_rfl) (by kernel_rfl) (by kernel_rfl) (fun _ _ _ h => h) (Or.inl ⟨by rfl, ?_⟩) ?_
          · intro w'; go_simp
          simp only [Act.put, List.setIfInBounds_toArray, List.set_cons_zero, List.set_cons_succ]
          refine wpAnyL_takeY 3 _ (.pointer (some ⟨g, 0, none⟩)) rfl (by kernel_rfl) (by kernel_rfl) (by kernel_rfl) (by kernel_rfl) (fun _ _ _ h => h) (Or.inl ⟨by rfl, ?_⟩) ?_
          · intro w'; go_simp
          simp only [Act.put, List.setIfInBounds_toArray, List.set_cons_zero, List.set_cons_succ]
          refine wpAnyL_takeY 4 _ (.pointer (some ⟨g, 2, none⟩)) rfl (by kernel_rfl) (by kernel_rfl) (by kernel_rfl) (by kernel_rfl) (fun _ _ _ h => h) (Or.inl ⟨by rfl, ?_⟩) ?_
          · intro w'; go_simp
          simp only [Act.put, List.setIfInBounds_toArray, List.set_cons_zero, List.set_cons_succ]
          refine wpAnyL_takeY 6 _ (.int .i64 (j : Int)) rfl (by kernel_rfl) (by kernel_rfl) (by kernel_rfl) (by kernel_rfl) (fun _ _ _ h => h) (Or.inl ⟨by rfl, ?_⟩) ?_
          · intro w'; go_simp
          simp only [Act.put, List.setIfInBounds_toArray, List.set_cons_zero, List.set_cons_succ]
          refine wpAnyL_takeY 9 _ (.int .u64 x) rfl (by kernel_rfl) (by kernel_rfl) (by kernel_rfl) (by kernel_rfl) (fun _ _ _ h => h) (Or.inl ⟨by rfl, ?_⟩) ?_
          · intro w'; go_simp
          simp only [Act.put, List.setIfInBounds_toArray, List.set_cons_zero, List.set_cons_succ]
          refine wpAnyL_takeY 12 _ (.pointer (some ⟨g, 0, none⟩)) rfl (by kernel_rfl) (by kernel_rfl) (by kernel_rfl) (by kernel_rfl) (fun _ _ _ h => h) (Or.inl ⟨by rfl, ?_⟩) ?_
          · intro w'; go_simp
          simp only [Act.put, List.setIfInBounds_toArray, List.set_cons_zero, List.set_cons_succ]
          refine wpAnyL_takeY 13 _ (.pointer (some ⟨g, 0, none⟩)) rfl (by kernel_rfl) (by kernel_rfl) (by kernel_rfl) (by kernel_rfl) (fun _ _ _ h => h) (Or.inl ⟨by rfl, ?_⟩) ?_
          · intro w'; go_simp
          simp only [Act.put, List.setIfInBounds_toArray, List.set_cons_zero, List.set_cons_succ]
          refine wpAnyL_takeY 14 _ (.pointer (some ⟨g, 2, none⟩)) rfl (by kernel_rfl) (by kernel_rfl) (by kernel_rfl) (by kernel_rfl) (fun _ _ _ h => h) (Or.inl ⟨by rfl, ?_⟩) ?_
          · intro w'; go_simp
          simp only [Act.put, List.setIfInBounds_toArray, List.set_cons_zero, List.set_cons_succ]
          refine wpAnyL_takeY 16 _ (.int .i64 (j : Int)) rfl (by kernel_rfl) (by kernel_rfl) (by kernel_rfl) (by kernel_rfl) (fun _ _ _ h => h) (Or.inl ⟨by rfl, ?_⟩) ?_
          · intro w'; go_simp
          simp only [Act.put, List.setIfInBounds_toArray, List.set_cons_zero, List.set_cons_succ]
          refine wpAnyL_take 5 _ (.slice A5 m.l.length c5) rfl (by kernel_rfl) (by kernel_rfl) (by kernel_rfl) (by kernel_rfl) (fun _ _ _ h => h) (Or.inl ⟨by rfl, ?_⟩) hS ?_
          · intro w' hSw; go_simp
          simp only [Act.put, List.setIfInBounds_toArray, List.set_cons_zero, List.set_cons_succ]
          refine wpAnyL_take 15 _ (.slice A5 m.l.length c5) rfl (by kernel_rfl) (by kernel_rfl) (by kernel_rfl) (by kernel_rfl) (fun _ _ _ h => h) (Or.inl ⟨by rfl, ?_⟩) hS ?_
          · intro w' hSw; go_simp
          simp only [Act.put, List.setIfInBounds_toArray, List.set_cons_zero, List.set_cons_succ]
          refine wpAnyL_take 7 _ (.slice A5 j c5) rfl (by kernel_rfl) (by kernel_rfl) (by kernel_rfl) (by kernel_rfl) (fun _ _ _ h => h) (Or.inl ⟨by rfl, ?_⟩) hS ?_
          · intro w' hSw; go_simp
          simp only [Act.put, List.setIfInBounds_toArray, List.set_cons_zero, List.set_cons_succ]
          refine wpAnyL_take 17 _ (.slice A9 (m.l.length - j) (c5 - j)) rfl (by kernel_rfl) (by kernel_rfl) (by kernel_rfl) (by kernel_rfl) (fun _ _ _ h => h) (Or.inl ⟨by rfl, ?_⟩) hS ?_
          · intro w' hSw; rw [HA9.out]; go_simp
          simp only [Act.put, List.setIfInBounds_toArray, List.set_cons_zero, List.set_cons_succ]
          clear hS
          refine wpAnyL_all [1, 10] (by kernel_rfl) (by simp) ?_
          refine (lateCons ?_ (lateCons ?_ lateNil))
          · refine wpOpL_step _ rfl (fun K' hK => ?_)
            refine emptyThen kU (t := 30) rfl B0 ?_
            intro u1 pE e1 e2 R1 k1
            have B1 := R1.bel
            go_simp
            try rw [e1]
            try rw [e2]
            refine hK.out _ _ (fun _ => (cellB y1 B1).1) ?_
            clear hK K' k1 B0
            try simp only [Act.put, List.setIfInBounds_toArray, List.set_cons_zero, List.set_cons_succ]
            refine wpAnyL_all [8, 10] (by kernel_rfl) (by simp) ?_
            refine (lateCons ?_ (lateCons ?_ lateNil))
            · refine wpOpL_step _ rfl (fun K' hK => ?_)
              refine R1.step rfl (.tmp 49) (.tmp 55) rfl rfl _ _ _ _ rfl (Rh.below R1.bel) hb1 hl1 ?_
              intro A2 d2 u2 R2 k2
              have B2 := R2.bel
              clear R1
              refine hK.out _ _ (fun _ => (cellB y1 B2).1) ?_
              clear hK K' k2 B1
              try simp only [Act.put, List.setIfInBounds_toArray, List.set_cons_zero, List.set_cons_succ]
              refine wpAnyL_all [10] (by kernel_rfl) (by simp) ?_
              refine (lateCons ?_ lateNil)
              · refine wpOpL_step _ rfl (fun K' hK => ?_)
                refine litThen kU x (cs := #[.int .u64 x]) rfl (t := 30) rfl B2 ?_
                intro u3 pL e1 e2 B3 L k3
                refine (k3 _ _ R2).elim ?_
                intro R3 Ln
                clear R2
                go_simp
                try rw [e1]
                try rw [e2]
                refine hK.out _ _ (fun _ => (cellB y1 B3).1) ?_
                clear hK K' k3 B2
                try simp only [Act.put, List.setIfInBounds_toArray, List.set_cons_zero, List.set_cons_succ]
                refine wpAnyL_all [11] (by kernel_rfl) (by simp) ?_
                refine (lateCons ?_ lateNil)
                · refine wpOpL_step _ rfl (fun K' hK => ?_)
                  refine R3.step rfl (.tmp 56) (.tmp 58) rfl rfl _ _ _ _ rfl L hb2 hl2 ?_
                  intro A4 d4 u4 R4 k4
                  have B4 := R4.bel
                  clear L
                  clear R3
                  refine hK.out _ _ (fun _ => (cellB y1 B4).1) ?_
                  clear hK K' k4 B3
                  try simp only [Act.put, List.setIfInBounds_toArray, List.set_cons_zero, List.set_cons_succ]
                  refine wpAnyL_all [18] (by kernel_rfl) (by simp) ?_
                  refine (lateCons ?_ lateNil)
                  · refine wpOpL_step _ rfl (fun K' hK => ?_)
                    refine R4.step rfl (.tmp 59) (.tmp 65) rfl rfl _ _ _ _ rfl (Rd.below R4.bel) hb3 hl3 ?_
                    intro A5 d5 u5 R5 k5
                    have B5 := R5.bel
                    clear R4
                    refine hK.out _ _ (fun _ => (cellB y1 B5).1) ?_
                    clear hK K' k5 B4
                    try simp only [Act.put, List.setIfInBounds_toArray, List.set_cons_zero, List.set_cons_succ]
                    have f0 := (HB.out.below T1 R5.bel).box.free 2
                    have c0 := (cellB y1 R5.bel).1
                    have HR5 := Lib.hid R5
                    clear R5
                    refine wpAnyL_takeY 19 _ (.pointer (some ⟨g, 0, none⟩)) rfl (by kernel_rfl) (by kernel_rfl) (by kernel_rfl) (by kernel_rfl) (fun _ _ _ h => h) (Or.inl ⟨by rfl, ?_⟩) ?_
                    · intro w'; go_simp
                    simp only [Act.put, List.setIfInBounds_toArray, List.set_cons_zero, List.set_cons_succ]
                    refine wpAnyL_takeY 20 _ (.pointer (some ⟨g, 2, none⟩)) rfl (by kernel_rfl) (by kernel_rfl) (by kernel_rfl) (by kernel_rfl) (fun _ _ _ h => h) (Or.inl ⟨by rfl, ?_⟩) ?_
                    · intro w'; go_simp
                    simp only [Act.put, List.setIfInBounds_toArray, List.set_cons_zero, List.set_cons_succ]
                    refine wpAnyL_all [21] (by kernel_rfl) (by simp) ?_
                    refine lateCons ?_ lateNil
                    refine wpOpL_step _ rfl (fun K' hK => ?_)
                    go_simp
                    refine hK.out _ _ (fun h => absurd h (by decide)) ?_
                    clear hK K'
                    try simp only [Act.put, List.setIfInBounds_toArray, List.set_cons_zero, List.set_cons_succ]
                    refine wpAnyL_done (by kernel_rfl) ?_ _
                    dsimp only [NoPanic]
                    refine (HB.out.newV T1 HR5.out.bel HR5.out.own HR5.out.new).elim ?_
                    intro col6 h6
                    have HR := Lib.hid (RefR.tuck (m := { m with l := putR m.l d x }) HF.out h6.1 HK.out.symm HV.out.symm)
                    have SS := Lib.hid (HS5.out.trans h6.2)
                    clear h6 HB y1 Rh Rd
                    go_end0
                    exact ⟨rfl, col6, HR.out, SS.out⟩
            · refine wpOpL_step _ rfl (fun K' hK => ?_)
              refine litThen kU x (cs := #[.int .u64 x]) rfl (t := 30) rfl B1 ?_
              intro u2 pL e1 e2 B2 L k2
              refine (k2 _ _ R1).elim ?_
              intro R2 Ln
              clear R1
              go_simp
              try rw [e1]
              try rw [e2]
              refine hK.out _ _ (fun _ => (cellB y1 B2).1) ?_
              clear hK K' k2 B1
              try simp only [Act.put, List.setIfInBounds_toArray, List.set_cons_zero, List.set_cons_succ]
              refine wpAnyL_all [8] (by kernel_rfl) (by simp) ?_
              refine (lateCons ?_ lateNil)
              · refine wpOpL_step _ rfl (fun K' hK => ?_)
                refine R2.step rfl (.tmp 49) (.tmp 55) rfl rfl _ _ _ _ rfl (Rh.below R2.bel) hb1 hl1 ?_
                intro A3 d3 u3 R3 k3
                have B3 := R3.bel
                have L := k3 _ _ _ _ L Ln
                clear Ln
                clear R2
                refine hK.out _ _ (fun _ => (cellB y1 B3).1) ?_
                clear hK K' k3 B2
                try simp only [Act.put, List.setIfInBounds_toArray, List.set_cons_zero, List.set_cons_succ]
                refine wpAnyL_all [11] (by kernel_rfl) (by simp) ?_
                refine (lateCons ?_ lateNil)
                · refine wpOpL_step _ rfl (fun K' hK => ?_)
                  refine R3.step rfl (.tmp 56) (.tmp 58) rfl rfl _ _ _ _ rfl L hb2 hl2 ?_
                  intro A4 d4 u4 R4 k4
                  have B4 := R4.bel
                  clear L
                  clear R3
                  refine hK.out _ _ (fun _ => (cellB y1 B4).1) ?_
                  clear hK K' k4 B3
                  try simp only [Act.put, List.setIfInBounds_toArray, List.set_cons_zero, List.set_cons_succ]
                  refine wpAnyL_all [18] (by kernel_rfl) (by simp) ?_
                  refine (lateCons ?_ lateNil)
                  · refine wpOpL_step _ rfl (fun K' hK => ?_)
                    refine R4.step rfl (.tmp 59) (.tmp 65) rfl rfl _ _ _ _ rfl (Rd.below R4.bel) hb3 hl3 ?_
                    intro A5 d5 u5 R5 k5
                    have B5 := R5.bel
                    clear R4
                    refine hK.out _ _ (fun _ => (cellB y1 B5).1) ?_
                    clear hK K' k5 B4
                    try simp only [Act.put, List.setIfInBounds_toArray, List.set_cons_zero, List.set_cons_succ]
                    have f0 := (HB.out.below T1 R5.bel).box.free 2
                    have c0 := (cellB y1 R5.bel).1
                    have HR5 := Lib.hid R5
                    clear R5
                    refine wpAnyL_takeY 19 _ (.pointer (some ⟨g, 0, none⟩)) rfl (by kernel_rfl) (by kernel_rfl) (by kernel_rfl) (by kernel_rfl) (fun _ _ _ h => h) (Or.inl ⟨by rfl, ?_⟩) ?_
                    · intro w'; go_simp
                    simp only [Act.put, List.setIfInBounds_toArray, List.set_cons_zero, List.set_cons_succ]
                    refine wpAnyL_takeY 20 _ (.pointer (some ⟨g, 2, none⟩)) rfl (by kernel_rfl) (by kernel_rfl) (by kernel_rfl) (by kernel_rfl) (fun _ _ _ h => h) (Or.inl ⟨by rfl, ?_⟩) ?_
                    · intro w'; go_simp
                    simp only [Act.put, List.setIfInBounds_toArray, List.set_cons_zero, List.set_cons_succ]
                    refine wpAnyL_all [21] (by kernel_rfl) (by simp) ?_
                    refine lateCons ?_ lateNil
                    refine wpOpL_step _ rfl (fun K' hK => ?_)
                    go_simp
                    refine hK.out _ _ (fun h => absurd h (by decide)) ?_
                    clear hK K'
                    try simp only [Act.put, List.setIfInBounds_toArray, List.set_cons_zero, List.set_cons_succ]
                    refine wpAnyL_done (by kernel_rfl) ?_ _
                    dsimp only [NoPanic]
                    refine (HB.out.newV T1 HR5.out.bel HR5.out.own HR5.out.new).elim ?_
                    intro col6 h6
                    have HR := Lib.hid (RefR.tuck (m := { m with l := putR m.l d x }) HF.out h6.1 HK.out.symm HV.out.symm)
                    have SS := Lib.hid (HS5.out.trans h6.2)
                    clear h6 HB y1 Rh Rd
                    go_end0
                    exact ⟨rfl, col6, HR.out, SS.out⟩
          · refine wpOpL_step _ rfl (fun K' hK => ?_)
            refine litThen kU x (cs := #[.int .u64 x]) rfl (t := 30) rfl B0 ?_
            intro u1 pL e1 e2 B1 L k1
            go_simp
            try rw [e1]
            try rw [e2]
            refine hK.out _ _ (fun _ => (cellB y1 B1).1) ?_
            clear hK K' k1 B0
            try simp only [Act.put, List.setIfInBounds_toArray, List.set_cons_zero, List.set_cons_succ]
            refine wpAnyL_all [1] (by kernel_rfl) (by simp) ?_
            refine (lateCons ?_ lateNil)
            · refine wpOpL_step _ rfl (fun K' hK => ?_)
              refine emptyThen kU (t := 30) rfl B1 ?_
              intro u2 pE e1 e2 R2 k2
              have B2 := R2.bel
              have Lb := RdG.inB L
              have Ln : (Value.slice (some ⟨pE, 0, none⟩) 0 0).ownBlock ≠ some pL := by rw [← e2]; exact lit_ne (by omega)
              have L := k2 _ _ _ _ L
              clear Lb
              go_simp
              try rw [e1]
              try rw [e2]
              refine hK.out _ _ (fun _ => (cellB y1 B2).1) ?_
              clear hK K' k2 B1
              try simp only [Act.put, List.setIfInBounds_toArray, List.set_cons_zero, List.set_cons_succ]
              refine wpAnyL_all [8] (by kernel_rfl) (by simp) ?_
              refine (lateCons ?_ lateNil)
              · refine wpOpL_step _ rfl (fun K' hK => ?_)
                refine R2.step rfl (.tmp 49) (.tmp 55) rfl rfl _ _ _ _ rfl (Rh.below R2.bel) hb1 hl1 ?_
                intro A3 d3 u3 R3 k3
                have B3 := R3.bel
                have L := k3 _ _ _ _ L Ln
                clear Ln
                clear R2
                refine hK.out _ _ (fun _ => (cellB y1 B3).1) ?_
                clear hK K' k3 B2
                try simp only [Act.put, List.setIfInBounds_toArray, List.set_cons_zero, List.set_cons_succ]
                refine wpAnyL_all [11] (by kernel_rfl) (by simp) ?_
                refine (lateCons ?_ lateNil)
                · refine wpOpL_step _ rfl (fun K' hK => ?_)
                  refine R3.step rfl (.tmp 56) (.tmp 58) rfl rfl _ _ _ _ rfl L hb2 hl2 ?_
                  intro A4 d4 u4 R4 k4
                  have B4 := R4.bel
                  clear L
                  clear R3
                  refine hK.out _ _ (fun _ => (cellB y1 B4).1) ?_
                  clear hK K' k4 B3
                  try simp only [Act.put, List.setIfInBounds_toArray, List.set_cons_zero, List.set_cons_succ]
                  refine wpAnyL_all [18] (by kernel_rfl) (by simp) ?_
                  refine (lateCons ?_ lateNil)
                  · refine wpOpL_step _ rfl (fun K' hK => ?_)
                    refine R4.step rfl (.tmp 59) (.tmp 65) rfl rfl _ _ _ _ rfl (Rd.below R4.bel) hb3 hl3 ?_
                    intro A5 d5 u5 R5 k5
                    have B5 := R5.bel
                    clear R4
                    refine hK.out _ _ (fun _ => (cellB y1 B5).1) ?_
                    clear hK K' k5 B4
                    try simp only [Act.put, List.setIfInBounds_toArray, List.set_cons_zero, List.set_cons_succ]
                    have f0 := (HB.out.below T1 R5.bel).box.free 2
                    have c0 := (cellB y1 R5.bel).1
                    have HR5 := Lib.hid R5
                    clear R5
                    refine wpAnyL_takeY 19 _ (.pointer (some ⟨g, 0, none⟩)) rfl (by kernel_rfl) (by kernel_rfl) (by kernel_rfl) (by kernel_rfl) (fun _ _ _ h => h) (Or.inl ⟨by rfl, ?_⟩) ?_
                    · intro w'; go_simp
                    simp only [Act.put, List.setIfInBounds_toArray, List.set_cons_zero, List.set_cons_succ]
                    refine wpAnyL_takeY 20 _ (.pointer (some ⟨g, 2, none⟩)) rfl (by kernel_rfl) (by kernel_rfl) (by kernel_rfl) (by kernel_rfl) (fun _ _ _ h => h) (Or.inl ⟨by rfl, ?_⟩) ?_
                    · intro w'; go_simp
                    simp only [Act.put, List.setIfInBounds_toArray, List.set_cons_zero, List.set_cons_succ]
                    refine wpAnyL_all [21] (by kernel_rfl) (by simp) ?_
                    refine lateCons ?_ lateNil
                    refine wpOpL_step _ rfl (fun K' hK => ?_)
                    go_simp
                    refine hK.out _ _ (fun h => absurd h (by decide)) ?_
                    clear hK K'
                    try simp only [Act.put, List.setIfInBounds_toArray, List.set_cons_zero, List.set_cons_succ]
                    refine wpAnyL_done (by kernel_rfl) ?_ _
                    dsimp only [NoPanic]
                    refine (HB.out.newV T1 HR5.out.bel HR5.out.own HR5.out.new).elim ?_
                    intro col6 h6
                    have HR := Lib.hid (RefR.tuck (m := { m with l := putR m.l d x }) HF.out h6.1 HK.out.symm HV.out.symm)
                    have SS := Lib.hid (HS5.out.trans h6.2)
                    clear h6 HB y1 Rh Rd
                    go_end0
                    exact ⟨rfl, col6, HR.out, SS.out⟩
    · have hji : j = posR m.l x := by omega
      have HK := Lib.hid (show (putR m.l d x).map (fun p => (p.1 : Int)) = (m.ns.take j ++ [(d : Int)]) ++ m.ns.drop j by rw [HK0.out, ← hji]; rfl)
      have HV := Lib.hid (show (putR m.l d x).map Prod.snd = (m.vals.take j ++ [x]) ++ m.vals.drop j by rw [HV0.out, ← hji]; rfl)
      have hlt2 : ¬ (j : Int) < (m.l.length : Int) := by omega
      have hple : j ≤ m.l.length := by omega
      have hi2 : (j : Int) ≤ (m.l.length : Int) := by omega
      have hic : (j : Int) ≤ (c : Int) := by omega
      have hic2 : j ≤ c := by omega
      have Rh := R1.head hple
      have Rd := R1.dropM (by simp [kI]) hple
      clear R1 HK0 HV0 hj hji hple0 hlt
      have hb1 : ([] : List Int).length + j ≤ 1000000000 := by simp; omega
      have hl1 : (([] : List Int) ++ m.ns.take j).length = j := by simp [ns_len]; omega
      have hb2 : (([] : List Int) ++ m.ns.take j).length + 1 ≤ 1000000000 := by simp; omega
      have hl2 : ((([] : List Int) ++ m.ns.take j) ++ [(d : Int)]).length = j + 1 := by simp [ns_len]; omega
      have hb3 : ((([] : List Int) ++ m.ns.take j) ++ [(d : Int)]).length + (m.l.length - j) ≤ 1000000000 := by simp; omega
      have hl3 : (((([] : List Int) ++ m.ns.take j) ++ [(d : Int)]) ++ m.ns.drop j).length = m.l.length + 1 := by simp [ns_len]; omega
      obtain ⟨A9, hA9⟩ : ∃ A9, A9 = (if c = j then A else A.map fun x => x.add j) := ⟨_, rfl⟩
      rw [← hA9] at Rd
      have HA9 := Lib.hid hA9
      clear hA9
      have HB := hHH
      go_upto_region 3 with fail
      go_cut [] from 27 to 47 (fun wx => ∃ col5 vN5, RefRB col5 k wx g m.n (((([] : List Int) ++ m.ns.take j) ++ [(d : Int)]) ++ m.ns.drop j) m.vals vN5 vV ∧ StepC (Rng k) col w col5 wx)
      case first =>
        refine wp_region_noPanic ?_
        refine wp_region_late (fun w' => w'.cell? ⟨g, 1, none⟩ = some (.slice A m.l.length c)) (fun j => [0, 2, 3, 4, 6, 9, 12, 13, 14, 16, 19, 20, 21].contains j) (by kernel_rfl) ?_
        intro u0 hu0
        have B0 : Below w.heap.size w u0 := by rw [← hu0]; exact bdM _
        have hS : (fun w' => w'.cell? ⟨g, 1, none⟩ = some (.slice A m.l.length c)) u0 := (cellB y1 B0).1
        clear hu0
        refine wpAnyL_takeY 0 _ (.pointer (some ⟨g, 0, none⟩)) rfl (by kernel_rfl) (by kernel_rfl) (by kernel_rfl) (by kernel_rfl) (fun _ _ _ h => h) (Or.inl ⟨by rfl, ?_⟩) ?_
        · intro w'; go_simp
        simp only [Act.put, List.setIfInBounds_toArray, List.set_cons_zero, List.set_cons_succ]
        refine wpAnyL_takeY 2 _ (.pointer (some ⟨g, 0, none⟩)) rfl (by kernel_rfl) (by kernel_rfl) (by kernel_rfl) (by kernel_rfl) (fun _ _ _ h => h) (Or.inl ⟨by rfl, ?_⟩) ?_
        · intro w'; go_simp
        simp only [Act.put, List.setIfInBounds_toArray, List.set_cons_zero, List.set_cons_succ]
        refine wpAnyL_takeY 3 _ (.pointer (some ⟨g, 0, none⟩)) rfl (by kernel_rfl) (by kernel_rfl) (by kernel_rfl) (by kernel_rfl) (fun _ _ _ h => h) (Or.inl ⟨by rfl, ?_⟩) ?_
        · intro w'; go_simp
        simp only [Act.put, List.setIfInBounds_toArray, List.set_cons_zero, List.set_cons_succ]
        refine wpAnyL_takeY 4 _ (.pointer (some ⟨g, 1, none⟩)) rfl (by kernel_rfl) (by kernel_rfl) (by kernel_rfl) (by kernel_rfl) (fun _ _ _ h => h) (Or.inl ⟨by rfl, ?_⟩) ?_
        · intro w'; go_simp
        simp only [Act.put, List.setIfInBounds_toArray, List.set_cons_zero, List.set_cons_succ]
        refine wpAnyL_takeY 6 _ (.int .i64 (j : Int)) rfl (by kernel_rfl) (by kernel_rfl) (by kernel_rfl) (by kernel_rfl) (fun _ _ _ h => h) (Or.inl ⟨by rfl, ?_⟩) ?_
        · intro w'; go_simp
        simp only [Act.put, List.setIfInBounds_toArray, List.set_cons_zero, List.set_cons_succ]
        refine wpAnyL_takeY 9 _ (.int .i64 (d : Int)) rfl (by kernel_rfl) (by kernel_rfl) (by kernel_rfl) (by kernel_rfl) (fun _ _ _ h => h) (Or.inl ⟨by rfl, ?_⟩) ?_
        · intro w'; go_simp
        simp only [Act.put, List.setIfInBounds_toArray, List.set_cons_zero, List.set_cons_succ]
        refine wpAnyL_takeY 12 _ (.pointer (some ⟨g, 0, none⟩)) rfl (by kernel_rfl) (by kernel_rfl) (by kernel_rfl) (by kernel_rfl) (fun _ _ _ h => h) (Or.inl ⟨by rfl, ?_⟩) ?_
        · intro w'; go_simp
        simp only [Act.put, List.setIfInBounds_toArray, List.set_cons_zero, List.set_cons_succ]
        refine wpAnyL_takeY 13 _ (.pointer (some ⟨g, 0, none⟩)) rfl (by kernel_rfl) (by kernel_rfl) (by kernel_rfl) (by kernel_rfl) (fun _ _ _ h => h) (Or.inl ⟨by rfl, ?_⟩) ?_
        · intro w'; go_simp
        simp only [Act.put, List.setIfInBounds_toArray, List.set_cons_zero, List.set_cons_succ]
        refine wpAnyL_takeY 14 _ (.pointer (some ⟨g, 1, none⟩)) rfl (by kernel_rfl) (by kernel_rfl) (by kernel_rfl) (by kernel_rfl) (fun _ _ _ h => h) (Or.inl ⟨by rfl, ?_⟩) ?_
        · intro w'; go_simp
        simp only [Act.put, List.setIfInBounds_toArray, List.set_cons_zero, List.set_cons_succ]
        refine wpAnyL_takeY 16 _ (.int .i64 (j : Int)) rfl (by kernel_rfl) (by kernel_rfl) (by kernel_rfl) (by kernel_rfl) (fun _ _ _ h => h) (Or.inl ⟨by rfl, ?_⟩) ?_
        · intro w'; go_simp
        simp only [Act.put, List.setIfInBounds_toArray, List.set_cons_zero, List.set_cons_succ]
        refine wpAnyL_take 5 _ (.slice A m.l.length c) rfl (by kernel_rfl) (by kernel_rfl) (by kernel_rfl) (by kernel_rfl) (fun _ _ _ h => h) (Or.inl ⟨by rfl, ?_⟩) hS ?_
        · intro w' hSw; go_simp
        simp only [Act.put, List.setIfInBounds_toArray, List.set_cons_zero, List.set_cons_succ]
        refine wpAnyL_take 15 _ (.slice A m.l.length c) rfl (by kernel_rfl) (by kernel_rfl) (by kernel_rfl) (by kernel_rfl) (fun _ _ _ h => h) (Or.inl ⟨by rfl, ?_⟩) hS ?_
        · intro w' hSw; go_simp
        simp only [Act.put, List.setIfInBounds_toArray, List.set_cons_zero, List.set_cons_succ]
        refine wpAnyL_take 7 _ (.slice A j c) rfl (by kernel_rfl) (by kernel_rfl) (by kernel_rfl) (by kernel_rfl) (fun _ _ _ h => h) (Or.inl ⟨by rfl, ?_⟩) hS ?_
        · intro w' hSw; go_simp
        simp only [Act.put, List.setIfInBounds_toArray, List.set_cons_zero, List.set_cons_succ]
        refine wpAnyL_take 17 _ (.slice A9 (m.l.length - j) (c - j)) rfl (by kernel_rfl) (by kernel_rfl) (by kernel_rfl) (by kernel_rfl) (fun _ _ _ h => h) (Or.inl ⟨by rfl, ?_⟩) hS ?_
        · intro w' hSw; rw [HA9.out]; go_simp
        simp only [Act.put, List.setIfInBounds_toArray, List.set_cons_zero, List.set_cons_succ]
        clear hS
        refine wpAnyL_all [1, 10] (by kernel_rfl) (by simp) ?_
        refine (lateCons ?_ (lateCons ?_ lateNil))
        · refine wpOpL_step _ rfl (fun K' hK => ?_)
          refine emptyThen kI (t := 3) rfl B0 ?_
          intro u1 pE e1 e2 R1 k1
          have B1 := R1.bel
          go_simp
          try rw [e1]
          try rw [e2]
          refine hK.out _ _ (fun _ => (cellB y1 B1).1) ?_
          clear hK K' k1 B0
          try simp only [Act.put, List.setIfInBounds_toArray, List.set_cons_zero, List.set_cons_succ]
          refine wpAnyL_all [8, 10] (by kernel_rfl) (by simp) ?_
          refine (lateCons ?_ (lateCons ?_ lateNil))
          · refine wpOpL_step _ rfl (fun K' hK => ?_)
            refine R1.step rfl (.tmp 28) (.tmp 34) rfl rfl _ _ _ _ rfl (Rh.below R1.bel) hb1 hl1 ?_
            intro A2 d2 u2 R2 k2
            have B2 := R2.bel
            clear R1
            refine hK.out _ _ (fun _ => (cellB y1 B2).1) ?_
            clear hK K' k2 B1
            try simp only [Act.put, List.setIfInBounds_toArray, List.set_cons_zero, List.set_cons_succ]
            refine wpAnyL_all [10] (by kernel_rfl) (by simp) ?_
            refine (lateCons ?_ lateNil)
            · refine wpOpL_step _ rfl (fun K' hK => ?_)
              refine litThen kI (d : Int) (cs := #[.int .i64 (d : Int)]) rfl (t := 3) rfl B2 ?_
              intro u3 pL e1 e2 B3 L k3
              refine (k3 _ _ R2).elim ?_
              intro R3 Ln
              clear R2
              go_simp
              try rw [e1]
              try rw [e2]
              refine hK.out _ _ (fun _ => (cellB y1 B3).1) ?_
              clear hK K' k3 B2
              try simp only [Act.put, List.setIfInBounds_toArray, List.set_cons_zero, List.set_cons_succ]
              refine wpAnyL_all [11] (by kernel_rfl) (by simp) ?_
              refine (lateCons ?_ lateNil)
              · refine wpOpL_step _ rfl (fun K' hK => ?_)
                refine R3.step rfl (.tmp 35) (.tmp 37) rfl rfl _ _ _ _ rfl L hb2 hl2 ?_
                intro A4 d4 u4 R4 k4
                have B4 := R4.bel
                clear L
                clear R3
                refine hK.out _ _ (fun _ => (cellB y1 B4).1) ?_
                clear hK K' k4 B3
                try simp only [Act.put, List.setIfInBounds_toArray, List.set_cons_zero, List.set_cons_succ]
                refine wpAnyL_all [18] (by kernel_rfl) (by simp) ?_
                refine (lateCons ?_ lateNil)
                · refine wpOpL_step _ rfl (fun K' hK => ?_)
                  refine R4.step rfl (.tmp 38) (.tmp 44) rfl rfl _ _ _ _ rfl (Rd.below R4.bel) hb3 hl3 ?_
                  intro A5 d5 u5 R5 k5
                  have B5 := R5.bel
                  clear R4
                  refine hK.out _ _ (fun _ => (cellB y1 B5).1) ?_
                  clear hK K' k5 B4
                  try simp only [Act.put, List.setIfInBounds_toArray, List.set_cons_zero, List.set_cons_succ]
                  have f0 := (HB.out.below T1 R5.bel).box.free 1
                  have c0 := (cellB y1 R5.bel).1
                  have HR5 := Lib.hid R5
                  clear R5
                  refine wpAnyL_takeY 19 _ (.pointer (some ⟨g, 0, none⟩)) rfl (by kernel_rfl) (by kernel_rfl) (by kernel_rfl) (by kernel_rfl) (fun _ _ _ h => h) (Or.inl ⟨by rfl, ?_⟩) ?_
                  · intro w'; go_simp
                  simp only [Act.put, List.setIfInBounds_toArray, List.set_cons_zero, List.set_cons_succ]
                  refine wpAnyL_takeY 20 _ (.pointer (some ⟨g, 1, none⟩)) rfl (by kernel_rfl) (by kernel_rfl) (by kernel_rfl) (by kernel_rfl) (fun _ _ _ h => h) (Or.inl ⟨by rfl, ?_⟩) ?_
                  · intro w'; go_simp
                  simp only [Act.put, List.setIfInBounds_toArray, List.set_cons_zero, List.set_cons_succ]
                  refine wpAnyL_all [21] (by kernel_rfl) (by simp) ?_
                  refine lateCons ?_ lateNil
                  refine wpOpL_step _ rfl (fun K' hK => ?_)
                  go_simp
                  refine hK.out _ _ (fun h => absurd h (by decide)) ?_
                  clear hK K'
                  try simp only [Act.put, List.setIfInBounds_toArray, List.set_cons_zero, List.set_cons_succ]
                  refine wpAnyL_done (by kernel_rfl) ?_ _
                  dsimp only [NoPanic]
                  refine (HB.out.newN T1 HR5.out.bel HR5.out.own HR5.out.new).elim ?_
                  intro col5 h5
                  go_wp2_with fail
                  go_meet
                  exact ⟨col5, _, h5.1, h5.2⟩
          · refine wpOpL_step _ rfl (fun K' hK => ?_)
            refine litThen kI (d : Int) (cs := #[.int .i64 (d : Int)]) rfl (t := 3) rfl B1 ?_
            intro u2 pL e1 e2 B2 L k2
            refine (k2 _ _ R1).elim ?_
            intro R2 Ln
            clear R1
            go_simp
            try rw [e1]
            try rw [e2]
            refine hK.out _ _ (fun _ => (cellB y1 B2).1) ?_
            clear hK K' k2 B1
            try simp only [Act.put, List.setIfInBounds_toArray, List.set_cons_zero, List.set_cons_succ]
            refine wpAnyL_all [8] (by kernel_rfl) (by simp) ?_
            refine (lateCons ?_ lateNil)
            · refine wpOpL_step _ rfl (fun K' hK => ?_)
              refine R2.step rfl (.tmp 28) (.tmp 34) rfl rfl _ _ _ _ rfl (Rh.below R2.bel) hb1 hl1 ?_
              intro A3 d3 u3 R3 k3
              have B3 := R3.bel
              have L := k3 _ _ _ _ L Ln
              clear Ln
              clear R2
              refine hK.out _ _ (fun _ => (cellB y1 B3).1) ?_
              clear hK K' k3 B2
              try simp only [Act.put, List.setIfInBounds_toArray, List.set_cons_zero, List.set_cons_succ]
              refine wpAnyL_all [11] (by kernel_rfl) (by simp) ?_
              refine (lateCons ?_ lateNil)
              · refine wpOpL_step _ rfl (fun K' hK => ?_)
                refine R3.step rfl (.tmp 35) (.tmp 37) rfl rfl _ _ _ _ rfl L hb2 hl2 ?_
                intro A4 d4 u4 R4 k4
                have B4 := R4.bel
                clear L
                clear R3
                refine hK.out _ _ (fun _ => (cellB y1 B4).1) ?_
                clear hK K' k4 B3
                try simp only [Act.put, List.setIfInBounds_toArray, List.set_cons_zero, List.set_cons_succ]
                refine wpAnyL_all [18] (by kernel_rfl) (by simp) ?_
                refine (lateCons ?_ lateNil)
                · refine wpOpL_step _ rfl (fun K' hK => ?_)
                  refine R4.step rfl (.tmp 38) (.tmp 44) rfl rfl _ _ _ _ rfl (Rd.below R4.bel) hb3 hl3 ?_
                  intro A5 d5 u5 R5 k5
                  have B5 := R5.bel
                  clear R4
                  refine hK.out _ _ (fun _ => (cellB y1 B5).1) ?_
                  clear hK K' k5 B4
                  try simp only [Act.put, List.setIfInBounds_toArray, List.set_cons_zero, List.set_cons_succ]
                  have f0 := (HB.out.below T1 R5.bel).box.free 1
                  have c0 := (cellB y1 R5.bel).1
                  have HR5 := Lib.hid R5
                  clear R5
                  refine wpAnyL_takeY 19 _ (.pointer (some ⟨g, 0, none⟩)) rfl (by kernel_rfl) (by kernel_rfl) (by kernel_rfl) (by kernel_rfl) (fun _ _ _ h => h) (Or.inl ⟨by rfl, ?_⟩) ?_
                  · intro w'; go_simp
                  simp only [Act.put, List.setIfInBounds_toArray, List.set_cons_zero, List.set_cons_succ]
                  refine wpAnyL_takeY 20 _ (.pointer (some ⟨g, 1, none⟩)) rfl (by kernel_rfl) (by kernel_rfl) (by kernel_rfl) (by kernel_rfl) (fun _ _ _ h => h) (Or.inl ⟨by rfl, ?_⟩) ?_
                  · intro w'; go_simp
                  simp only [Act.put, List.setIfInBounds_toArray, List.set_cons_zero, List.set_cons_succ]
                  refine wpAnyL_all [21] (by kernel_rfl) (by simp) ?_
                  refine lateCons ?_ lateNil
                  refine wpOpL_step _ rfl (fun K' hK => ?_)
                  go_simp
                  refine hK.out _ _ (fun h => absurd h (by decide)) ?_
                  clear hK K'
                  try simp only [Act.put, List.setIfInBounds_toArray, List.set_cons_zero, List.set_cons_succ]
                  refine wpAnyL_done (by kernel_rfl) ?_ _
                  dsimp only [NoPanic]
                  refine (HB.out.newN T1 HR5.out.bel HR5.out.own HR5.out.new).elim ?_
                  intro col5 h5
                  go_wp2_with fail
                  go_meet
                  exact ⟨col5, _, h5.1, h5.2⟩
        · refine wpOpL_step _ rfl (fun K' hK => ?_)
          refine litThen kI (d : Int) (cs := #[.int .i64 (d : Int)]) rfl (t := 3) rfl B0 ?_
          intro u1 pL e1 e2 B1 L k1
          go_simp
          try rw [e1]
          try rw [e2]
          refine hK.out _ _ (fun _ => (cellB y1 B1).1) ?_
          clear hK K' k1 B0
          try simp only [Act.put, List.setIfInBounds_toArray, List.set_cons_zero, List.set_cons_succ]
          refine wpAnyL_all [1] (by kernel_rfl) (by simp) ?_
          refine (lateCons ?_ lateNil)
          · refine wpOpL_step _ rfl (fun K' hK => ?_)
            refine emptyThen kI (t := 3) rfl B1 ?_
            intro u2 pE e1 e2 R2 k2
            have B2 := R2.bel
            have Lb := RdG.inB L
            have Ln : (Value.slice (some ⟨pE, 0, none⟩) 0 0).ownBlock ≠ some pL := by rw [← e2]; exact lit_ne (by omega)
            have L := k2 _ _ _ _ L
            clear Lb
            go_simp
            try rw [e1]
            try rw [e2]
            refine hK.out _ _ (fun _ => (cellB y1 B2).1) ?_
            clear hK K' k2 B1
            try simp only [Act.put, List.setIfInBounds_toArray, List.set_cons_zero, List.set_cons_succ]
            refine wpAnyL_all [8] (by kernel_rfl) (by simp) ?_
            refine (lateCons ?_ lateNil)
            · refine wpOpL_step _ rfl (fun K' hK => ?_)
              refine R2.step rfl (.tmp 28) (.tmp 34) rfl rfl _ _ _ _ rfl (Rh.below R2.bel) hb1 hl1 ?_
              intro A3 d3 u3 R3 k3
              have B3 := R3.bel
              have L := k3 _ _ _ _ L Ln
              clear Ln
              clear R2
              refine hK.out _ _ (fun _ => (cellB y1 B3).1) ?_
              clear hK K' k3 B2
              try simp only [Act.put, List.setIfInBounds_toArray, List.set_cons_zero, List.set_cons_succ]
              refine wpAnyL_all [11] (by kernel_rfl) (by simp) ?_
              refine (lateCons ?_ lateNil)
              · refine wpOpL_step _ rfl (fun K' hK => ?_)
                refine R3.step rfl (.tmp 35) (.tmp 37) rfl rfl _ _ _ _ rfl L hb2 hl2 ?_
                intro A4 d4 u4 R4 k4
                have B4 := R4.bel
                clear L
                clear R3
                refine hK.out _ _ (fun _ => (cellB y1 B4).1) ?_
                clear hK K' k4 B3
                try simp only [Act.put, List.setIfInBounds_toArray, List.set_cons_zero, List.set_cons_succ]
                refine wpAnyL_all [18] (by kernel_rfl) (by simp) ?_
                refine (lateCons ?_ lateNil)
                · refine wpOpL_step _ rfl (fun K' hK => ?_)
                  refine R4.step rfl (.tmp 38) (.tmp 44) rfl rfl _ _ _ _ rfl (Rd.below R4.bel) hb3 hl3 ?_
                  intro A5 d5 u5 R5 k5
                  have B5 := R5.bel
                  clear R4
                  refine hK.out _ _ (fun _ => (cellB y1 B5).1) ?_
                  clear hK K' k5 B4
                  try simp only [Act.put, List.setIfInBounds_toArray, List.set_cons_zero, List.set_cons_succ]
                  have f0 := (HB.out.below T1 R5.bel).box.free 1
                  have c0 := (cellB y1 R5.bel).1
                  have HR5 := Lib.hid R5
                  clear R5
                  refine wpAnyL_takeY 19 _ (.pointer (some ⟨g, 0, none⟩)) rfl (by kernel_rfl) (by kernel_rfl) (by kernel_rfl) (by kernel_rfl) (fun _ _ _ h => h) (Or.inl ⟨by rfl, ?_⟩) ?_
                  · intro w'; go_simp
                  simp only [Act.put, List.setIfInBounds_toArray, List.set_cons_zero, List.set_cons_succ]
                  refine wpAnyL_takeY 20 _ (.pointer (some ⟨g, 1, none⟩)) rfl (by kernel_rfl) (by kernel_rfl) (by kernel_rfl) (by kernel_rfl) (fun _ _ _ h => h) (Or.inl ⟨by rfl, ?_⟩) ?_
                  · intro w'; go_simp
                  simp only [Act.put, List.setIfInBounds_toArray, List.set_cons_zero, List.set_cons_succ]
                  refine wpAnyL_all [21] (by kernel_rfl) (by simp) ?_
                  refine lateCons ?_ lateNil
                  refine wpOpL_step _ rfl (fun K' hK => ?_)
                  go_simp
                  refine hK.out _ _ (fun h => absurd h (by decide)) ?_
                  clear hK K'
                  try simp only [Act.put, List.setIfInBounds_toArray, List.set_cons_zero, List.set_cons_succ]
                  refine wpAnyL_done (by kernel_rfl) ?_ _
                  dsimp only [NoPanic]
                  refine (HB.out.newN T1 HR5.out.bel HR5.out.own HR5.out.new).elim ?_
                  intro col5 h5
                  go_wp2_with fail
                  go_meet
                  exact ⟨col5, _, h5.1, h5.2⟩
      case rest =>
        obtain ⟨col5, vN5, H5, S5⟩ := hcut
        have T1 := S5.tidy
        obtain ⟨A5, c5, rfl, R5, _⟩ := H5.vs.own.form (vs_len m)
        have y1 : wc.cell? ⟨g, 2, none⟩ = some (.slice A5 m.l.length c5) := H5.box.cell 2 rfl
        have hcap5 := R5.cap
        have hmax5 := R5.max
        have hjc5 : (j : Int) ≤ (c5 : Int) := by omega
        have hjc6 : j ≤ c5 := by omega
        have Rh := R5.head hple
        have Rd := R5.dropM (by simp [kU]) hple
        have HB := Lib.hid H5
        have HS5 := Lib.hid S5
        clear H5 S5 R5 hb1 hb2 hb3 hl1 hl2 hl3 HA9 hHH
        have hb1 : ([] : List Int).length + j ≤ 1000000000 := by simp; omega
        have hl1 : (([] : List Int) ++ m.vals.take j).length = j := by simp [vs_len]; omega
        have hb2 : (([] : List Int) ++ m.vals.take j).length + 1 ≤ 1000000000 := by simp; omega
        have hl2 : ((([] : List Int) ++ m.vals.take j) ++ [x]).length = j + 1 := by simp [vs_len]; omega
        have hb3 : ((([] : List Int) ++ m.vals.take j) ++ [x]).length + (m.l.length - j) ≤ 1000000000 := by simp; omega
        have hl3 : (((([] : List Int) ++ m.vals.take j) ++ [x]) ++ m.vals.drop j).length = m.l.length + 1 := by simp [vs_len]; omega
        obtain ⟨A9, hA9⟩ : ∃ A9, A9 = (if c5 = j then A5 else A5.map fun x => x.add j) := ⟨_, rfl⟩
        rw [← hA9] at Rd
        have HA9 := Lib.hid hA9
        clear hA9
        go_upto_region 4 with fail
        refine wp_region_noPanic ?_
        refine wp_region_late (fun w' => w'.cell? ⟨g, 2, none⟩ = some (.slice A5 m.l.length c5)) (fun j => [0, 2, 3, 4, 6, 9, 12, 13, 14, 16, 19, 20, 21].contains j) (by kernel_rfl) ?_
        intro u0 hu0
        have B0 : Below wc.heap.size wc u0 := by rw [← hu0]; exact bdM _
        have hS : (fun w' => w'.cell? ⟨g, 2, none⟩ = some (.slice A5 m.l.length c5)) u0 := (cellB y1 B0).1
        clear hu0
        refine wpAnyL_takeY 0 _ (.pointer (some ⟨g, 0, none⟩)) rfl (by kernel_rfl) (by kernel_rfl) (by kernel_rfl) (by kernel_rfl) (fun _ _ _ h => h) (Or.inl ⟨by rfl, ?_⟩) ?_
        · intro w'; go_simp
        simp only [Act.put, List.setIfInBounds_toArray, List.set_cons_zero, List.set_cons_succ]
        refine wpAnyL_takeY 2 _ (.pointer (some ⟨g, 0, none⟩)) rfl (by kernel_rfl) (by kernel_rfl) (by kernel_rfl) (by kernel_rfl) (fun _ _ _ h => h) (Or.inl ⟨by rfl, ?_⟩) ?_
        · intro w'; go_simp
        simp only [Act.put, List.setIfInBounds_toArray, List.set_cons_zero, List.set_cons_succ]
        refine wpAnyL_takeY 3 _ (.pointer (some ⟨g, 0, none⟩)) rfl (by kernel_rfl) (by kernel_rfl) (by kernel_rfl) (by kernel_rfl) (fun _ _ _ h => h) (Or.inl ⟨by rfl, ?_⟩) ?_
        · intro w'; go_simp
        simp only [Act.put, List.setIfInBounds_toArray, List.set_cons_zero, List.set_cons_succ]
        refine wpAnyL_takeY 4 _ (.pointer (some ⟨g, 2, none⟩)) rfl (by kernel_rfl) (by kernel_rfl) (by kernel_rfl) (by kernel_rfl) (fun _ _ _ h => h) (Or.inl ⟨by rfl, ?_⟩) ?_
        · intro w'; go_simp
        simp only [Act.put, List.setIfInBounds_toArray, List.set_cons_zero, List.set_cons_succ]
        refine wpAnyL_takeY 6 _ (.int .i64 (j : Int)) rfl (by kernel_rfl) (by kernel_rfl) (by kernel_rfl) (by kernel_rfl) (fun _ _ _ h => h) (Or.inl ⟨by rfl, ?_⟩) ?_
        · intro w'; go_simp
        simp only [Act.put, List.setIfInBounds_toArray, List.set_cons_zero, List.set_cons_succ]
        refine wpAnyL_takeY 9 _ (.int .u64 x) rfl (by kernel_rfl) (by kernel_rfl) (by kernel_rfl) (by kernel_rfl) (fun _ _ _ h => h) (Or.inl ⟨by rfl, ?_⟩) ?_
        · intro w'; go_simp
        simp only [Act.put, List.setIfInBounds_toArray, List.set_cons_zero, List.set_cons_succ]
        refine wpAnyL_takeY 12 _ (.pointer (some ⟨g, 0, none⟩)) rfl (by kernel_rfl) (by kernel_rfl) (by kernel_rfl) (by kernel_rfl) (fun _ _ _ h => h) (Or.inl ⟨by rfl, ?_⟩) ?_
        · intro w'; go_simp
        simp only [Act.put, List.setIfInBounds_toArray, List.set_cons_zero, List.set_cons_succ]
        refine wpAnyL_takeY 13 _ (.pointer (some ⟨g, 0, none⟩)) rfl (by kernel_rfl) (by kernel_rfl) (by kernel_rfl) (by kernel_rfl) (fun _ _ _ h => h) (Or.inl ⟨by rfl, ?_⟩) ?_
        · intro w'; go_simp
        simp only [Act.put, List.setIfInBounds_toArray, List.set_cons_zero, List.set_cons_succ]
        refine wpAnyL_takeY 14 _ (.pointer (some ⟨g, 2, none⟩)) rfl (by kernel_rfl) (by kernel_rfl) (by kernel_rfl) (by kernel_rfl) (fun _ _ _ h => h) (Or.inl ⟨by rfl, ?_⟩) ?_
        · intro w'; go_simp
        simp only [Act.put, List.setIfInBounds_toArray, List.set_cons_zero, List.set_cons_succ]
        refine wpAnyL_takeY 16 _ (.int .i64 (j : Int)) rfl (by kernel_rfl) (by kernel_rfl) (by kernel_rfl) (by kernel_rfl) (fun _ _ _ h => h) (Or.inl ⟨by rfl, ?_⟩) ?_
        · intro w'; go_simp
        simp only [Act.put, List.setIfInBounds_toArray, List.set_cons_zero, List.set_cons_succ]
        refine wpAnyL_take 5 _ (.slice A5 m.l.length c5) rfl (by kernel_rfl) (by kernel_rfl) (by kernel_rfl) (by kernel_rfl) (fun _ _ _ h => h) (Or.inl ⟨by rfl, ?_⟩) hS ?_
        · intro w' hSw; go_simp
        simp only [Act.put, List.setIfInBounds_toArray, List.set_cons_zero, List.set_cons_succ]
        refine wpAnyL_take 15 _ (.slice A5 m.l.length c5) rfl (by kernel_rfl) (by kernel_rfl) (by kernel_rfl) (by kernel_rfl) (fun _ _ _ h => h) (Or.inl ⟨by rfl, ?_⟩) hS ?_
        · intro w' hSw; go_simp
        simp only [Act.put, List.setIfInBounds_toArray, List.set_cons_zero, List.set_cons_succ]
        refine wpAnyL_take 7 _ (.slice A5 j c5) rfl (by kernel_rfl) (by kernel_rfl) (by kernel_rfl) (by kernel_rfl) (fun _ _ _ h => h) (Or.inl ⟨by rfl, ?_⟩) hS ?_
        · intro w' hSw; go_simp
        simp only [Act.put, List.setIfInBounds_toArray, List.set_cons_zero, List.set_cons_succ]
        refine wpAnyL_take 17 _ (.slice A9 (m.l.length - j) (c5 - j)) rfl (by kernel_rfl) (by kernel_rfl) (by kernel_rfl) (by kernel_rfl) (fun _ _ _ h => h) (Or.inl ⟨by rfl, ?_⟩) hS ?_
        · intro w' hSw; rw [HA9.out]; go_simp
        simp only [Act.put, List.setIfInBounds_toArray, List.set_cons_zero, List.set_cons_succ]
        clear hS
        refine wpAnyL_all [1, 10] (by kernel_rfl) (by simp) ?_
        refine (lateCons ?_ (lateCons ?_ lateNil))
        · refine wpOpL_step _ rfl (fun K' hK => ?_)
          refine emptyThen kU (t := 30) rfl B0 ?_
          intro u1 pE e1 e2 R1 k1
          have B1 := R1.bel
          go_simp
          try rw [e1]
          try rw [e2]
          refine hK.out _ _ (fun _ => (cellB y1 B1).1) ?_
          clear hK K' k1 B0
          try simp only [Act.put, List.setIfInBounds_toArray, List.set_cons_zero, List.set_cons_succ]
          refine wpAnyL_all [8, 10] (by kernel_rfl) (by simp) ?_
          refine (lateCons ?_ (lateCons ?_ lateNil))
          · refine wpOpL_step _ rfl (fun K' hK => ?_)
            refine R1.step rfl (.tmp 49) (.tmp 55) rfl rfl _ _ _ _ rfl (Rh.below R1.bel) hb1 hl1 ?_
            intro A2 d2 u2 R2 k2
            have B2 := R2.bel
            clear R1
            refine hK.out _ _ (fun _ => (cellB y1 B2).1) ?_
            clear hK K' k2 B1
            try simp only [Act.put, List.setIfInBounds_toArray, List.set_cons_zero, List.set_cons_succ]
            refine wpAnyL_all [10] (by kernel_rfl) (by simp) ?_
            refine (lateCons ?_ lateNil)
            · refine wpOpL_step _ rfl (fun K' hK => ?_)
              refine litThen kU x (cs := #[.int .u64 x]) rfl (t := 30) rfl B2 ?_
              intro u3 pL e1 e2 B3 L k3
              refine (k3 _ _ R2).elim ?_
              intro R3 Ln
              clear R2
              go_simp
              try rw [e1]
              try rw [e2]
              refine hK.out _ _ (fun _ => (cellB y1 B3).1) ?_
              clear hK K' k3 B2
              try simp only [Act.put, List.setIfInBounds_toArray, List.set_cons_zero, List.set_cons_succ]
              refine wpAnyL_all [11] (by kernel_rfl) (by simp) ?_
              refine (lateCons ?_ lateNil)
              · refine wpOpL_step _ rfl (fun K' hK => ?_)
                refine R3.step rfl (.tmp 56) (.tmp 58) rfl rfl _ _ _ _ rfl L hb2 hl2 ?_
                intro A4 d4 u4 R4 k4
                have B4 := R4.bel
                clear L
                clear R3
                refine hK.out _ _ (fun _ => (cellB y1 B4).1) ?_
                clear hK K' k4 B3
                try simp only [Act.put, List.setIfInBounds_toArray, List.set_cons_zero, List.set_cons_succ]
                refine wpAnyL_all [18] (by kernel_rfl) (by simp) ?_
                refine (lateCons ?_ lateNil)
                · refine wpOpL_step _ rfl (fun K' hK => ?_)
                  refine R4.step rfl (.tmp 59) (.tmp 65) rfl rfl _ _ _ _ rfl (Rd.below R4.bel) hb3 hl3 ?_
                  intro A5 d5 u5 R5 k5
                  have B5 := R5.bel
                  clear R4
                  refine hK.out _ _ (fun _ => (cellB y1 B5).1) ?_
                  clear hK K' k5 B4
                  try simp only [Act.put, List.setIfInBounds_toArray, List.set_cons_zero, List.set_cons_succ]
                  have f0 := (HB.out.below T1 R5.bel).box.free 2
                  have c0 := (cellB y1 R5.bel).1
                  have HR5 := Lib.hid R5
                  clear R5
                  refine wpAnyL_takeY 19 _ (.pointer (some ⟨g, 0, none⟩)) rfl (by kernel_rfl) (by kernel_rfl) (by kernel_rfl) (by kernel_rfl) (fun _ _ _ h => h) (Or.inl ⟨by rfl, ?_⟩) ?_
                  · intro w'; go_simp
                  simp only [Act.put, List.setIfInBounds_toArray, List.set_cons_zero, List.set_cons_succ]
                  refine wpAnyL_takeY 20 _ (.pointer (some ⟨g, 2, none⟩)) rfl (by kernel_rfl) (by kernel_rfl) (by kernel_rfl) (by kernel_rfl) (fun _ _ _ h => h) (Or.inl ⟨by rfl, ?_⟩) ?_
                  · intro w'; go_simp
                  simp only [Act.put, List.setIfInBounds_toArray, List.set_cons_zero, List.set_cons_succ]
                  refine wpAnyL_all [21] (by kernel_rfl) (by simp) ?_
                  refine lateCons ?_ lateNil
                  refine wpOpL_step _ rfl (fun K' hK => ?_)
                  go_simp
                  refine hK.out _ _ (fun h => absurd h (by decide)) ?_
                  clear hK K'
                  try simp only [Act.put, List.setIfInBounds_toArray, List.set_cons_zero, List.set_cons_succ]
                  refine wpAnyL_done (by kernel_rfl) ?_ _
                  dsimp only [NoPanic]
                  refine (HB.out.newV T1 HR5.out.bel HR5.out.own HR5.out.new).elim ?_
                  intro col6 h6
                  have HR := Lib.hid (RefR.tuck (m := { m with l := putR m.l d x }) HF.out h6.1 HK.out.symm HV.out.symm)
                  have SS := Lib.hid (HS5.out.trans h6.2)
                  clear h6 HB y1 Rh Rd
                  go_end0
                  exact ⟨rfl, col6, HR.out, SS.out⟩
          · refine wpOpL_step _ rfl (fun K' hK => ?_)
            refine litThen kU x (cs := #[.int .u64 x]) rfl (t := 30) rfl B1 ?_
            intro u2 pL e1 e2 B2 L k2
            refine (k2 _ _ R1).elim ?_
            intro R2 Ln
            clear R1
            go_simp
            try rw [e1]
            try rw [e2]
            refine hK.out _ _ (fun _ => (cellB y1 B2).1) ?_
            clear hK K' k2 B1
            try simp only [Act.put, List.setIfInBounds_toArray, List.set_cons_zero, List.set_cons_succ]
            refine wpAnyL_all [8] (by kernel_rfl) (by simp) ?_
            refine (lateCons ?_ lateNil)
            · refine wpOpL_step _ rfl (fun K' hK => ?_)
              refine R2.step rfl (.tmp 49) (.tmp 55) rfl rfl _ _ _ _ rfl (Rh.below R2.bel) hb1 hl1 ?_
              intro A3 d3 u3 R3 k3
              have B3 := R3.bel
              have L := k3 _ _ _ _ L Ln
              clear Ln
              clear R2
              refine hK.out _ _ (fun _ => (cellB y1 B3).1) ?_
              clear hK K' k3 B2
              try simp only [Act.put, List.setIfInBounds_toArray, List.set_cons_zero, List.set_cons_succ]
              refine wpAnyL_all [11] (by kernel_rfl) (by simp) ?_
              refine (lateCons ?_ lateNil)
              · refine wpOpL_step _ rfl (fun K' hK => ?_)
                refine R3.step rfl (.tmp 56) (.tmp 58) rfl rfl _ _ _ _ rfl L hb2 hl2 ?_
                intro A4 d4 u4 R4 k4
                have B4 := R4.bel
                clear L
                clear R3
                refine hK.out _ _ (fun _ => (cellB y1 B4).1) ?_
                clear hK K' k4 B3
                try simp only [Act.put, List.setIfInBounds_toArray, List.set_cons_zero, List.set_cons_succ]
                refine wpAnyL_all [18] (by kernel_rfl) (by simp) ?_
                refine (lateCons ?_ lateNil)
                · refine wpOpL_step _ rfl (fun K' hK => ?_)
                  refine R4.step rfl (.tmp 59) (.tmp 65) rfl rfl _ _ _ _ rfl (Rd.below R4.bel) hb3 hl3 ?_
                  intro A5 d5 u5 R5 k5
                  have B5 := R5.bel
                  clear R4
                  refine hK.out _ _ (fun _ => (cellB y1 B5).1) ?_
                  clear hK K' k5 B4
                  try simp only [Act.put, List.setIfInBounds_toArray, List.set_cons_zero, List.set_cons_succ]
                  have f0 := (HB.out.below T1 R5.bel).box.free 2
                  have c0 := (cellB y1 R5.bel).1
                  have HR5 := Lib.hid R5
                  clear R5
                  refine wpAnyL_takeY 19 _ (.pointer (some ⟨g, 0, none⟩)) rfl (by kernel_rfl) (by kernel_rfl) (by kernel_rfl) (by kernel_rfl) (fun _ _ _ h => h) (Or.inl ⟨by rfl, ?_⟩) ?_
                  · intro w'; go_simp
                  simp only [Act.put, List.setIfInBounds_toArray, List.set_cons_zero, List.set_cons_succ]
                  refine wpAnyL_takeY 20 _ (.pointer (some ⟨g, 2, none⟩)) rfl (by kernel_rfl) (by kernel_rfl) (by kernel_rfl) (by kernel_rfl) (fun _ _ _ h => h) (Or.inl ⟨by rfl, ?_⟩) ?_
                  · intro w'; go_simp
                  simp only [Act.put, List.setIfInBounds_toArray, List.set_cons_zero, List.set_cons_succ]
                  refine wpAnyL_all [21] (by kernel_rfl) (by simp) ?_
                  refine lateCons ?_ lateNil
                  refine wpOpL_step _ rfl (fun K' hK => ?_)
                  go_simp
                  refine hK.out _ _ (fun h => absurd h (by decide)) ?_
                  clear hK K'
                  try simp only [Act.put, List.setIfInBounds_toArray, List.set_cons_zero, List.set_cons_succ]
                  refine wpAnyL_done (by kernel_rfl) ?_ _
                  dsimp only [NoPanic]
                  refine (HB.out.newV T1 HR5.out.bel HR5.out.own HR5.out.new).elim ?_
                  intro col6 h6
                  have HR := Lib.hid (RefR.tuck (m := { m with l := putR m.l d x }) HF.out h6.1 HK.out.symm HV.out.symm)
                  have SS := Lib.hid (HS5.out.trans h6.2)
                  clear h6 HB y1 Rh Rd
                  go_end0
                  exact ⟨rfl, col6, HR.out, SS.out⟩
        · refine wpOpL_step _ rfl (fun K' hK => ?_)
          refine litThen kU x (cs := #[.int .u64 x]) rfl (t := 30) rfl B0 ?_
          intro u1 pL e1 e2 B1 L k1
          go_simp
          try rw [e1]
          try rw [e2]
          refine hK.out _ _ (fun _ => (cellB y1 B1).1) ?_
          clear hK K' k1 B0
          try simp only [Act.put, List.setIfInBounds_toArray, List.set_cons_zero, List.set_cons_succ]
          refine wpAnyL_all [1] (by kernel_rfl) (by simp) ?_
          refine (lateCons ?_ lateNil)
          · refine wpOpL_step _ rfl (fun K' hK => ?_)
            refine emptyThen kU (t := 30) rfl B1 ?_
            intro u2 pE e1 e2 R2 k2
            have B2 := R2.bel
            have Lb := RdG.inB L
            have Ln : (Value.slice (some ⟨pE, 0, none⟩) 0 0).ownBlock ≠ some pL := by rw [← e2]; exact lit_ne (by omega)
            have L := k2 _ _ _ _ L
            clear Lb
            go_simp
            try rw [e1]
            try rw [e2]
            refine hK.out _ _ (fun _ => (cellB y1 B2).1) ?_
            clear hK K' k2 B1
            try simp only [Act.put, List.setIfInBounds_toArray, List.set_cons_zero, List.set_cons_succ]
            refine wpAnyL_all [8] (by kernel_rfl) (by simp) ?_
            refine (lateCons ?_ lateNil)
            · refine wpOpL_step _ rfl (fun K' hK => ?_)
              refine R2.step rfl (.tmp 49) (.tmp 55) rfl rfl _ _ _ _ rfl (Rh.below R2.bel) hb1 hl1 ?_
              intro A3 d3 u3 R3 k3
              have B3 := R3.bel
              have L := k3 _ _ _ _ L Ln
              clear Ln
              clear R2
              refine hK.out _ _ (fun _ => (cellB y1 B3).1) ?_
              clear hK K' k3 B2
              try simp only [Act.put, List.setIfInBounds_toArray, List.set_cons_zero, List.set_cons_succ]
              refine wpAnyL_all [11] (by kernel_rfl) (by simp) ?_
              refine (lateCons ?_ lateNil)
              · refine wpOpL_step _ rfl (fun K' hK => ?_)
                refine R3.step rfl (.tmp 56) (.tmp 58) rfl rfl _ _ _ _ rfl L hb2 hl2 ?_
                intro A4 d4 u4 R4 k4
                have B4 := R4.bel
                clear L
                clear R3
                refine hK.out _ _ (fun _ => (cellB y1 B4).1) ?_
                clear hK K' k4 B3
                try simp only [Act.put, List.setIfInBounds_toArray, List.set_cons_zero, List.set_cons_succ]
                refine wpAnyL_all [18] (by kernel_rfl) (by simp) ?_
                refine (lateCons ?_ lateNil)
                · refine wpOpL_step _ rfl (fun K' hK => ?_)
                  refine R4.step rfl (.tmp 59) (.tmp 65) rfl rfl _ _ _ _ rfl (Rd.below R4.bel) hb3 hl3 ?_
                  intro A5 d5 u5 R5 k5
                  have B5 := R5.bel
                  clear R4
                  refine hK.out _ _ (fun _ => (cellB y1 B5).1) ?_
                  clear hK K' k5 B4
                  try simp only [Act.put, List.setIfInBounds_toArray, List.set_cons_zero, List.set_cons_succ]
                  have f0 := (HB.out.below T1 R5.bel).box.free 2
                  have c0 := (cellB y1 R5.bel).1
                  have HR5 := Lib.hid R5
                  clear R5
                  refine wpAnyL_takeY 19 _ (.pointer (some ⟨g, 0, none⟩)) rfl (by kernel_rfl) (by kernel_rfl) (by kernel_rfl) (by kernel_rfl) (fun _ _ _ h => h) (Or.inl ⟨by rfl, ?_⟩) ?_
                  · intro w'; go_simp
                  simp only [Act.put, List.setIfInBounds_toArray, List.set_cons_zero, List.set_cons_succ]
                  refine wpAnyL_takeY 20 _ (.pointer (some ⟨g, 2, none⟩)) rfl (by kernel_rfl) (by kernel_rfl) (by kernel_rfl) (by kernel_rfl) (fun _ _ _ h => h) (Or.inl ⟨by rfl, ?_⟩) ?_
                  · intro w'; go_simp
                  simp only [Act.put, List.setIfInBounds_toArray, List.set_cons_zero, List.set_cons_succ]
                  refine wpAnyL_all [21] (by kernel_rfl) (by simp) ?_
                  refine lateCons ?_ lateNil
                  refine wpOpL_step _ rfl (fun K' hK => ?_)
                  go_simp
                  refine hK.out _ _ (fun h => absurd h (by decide)) ?_
                  clear hK K'
                  try simp only [Act.put, List.setIfInBounds_toArray, List.set_cons_zero, List.set_cons_succ]
                  refine wpAnyL_done (by kernel_rfl) ?_ _
                  dsimp only [NoPanic]
                  refine (HB.out.newV T1 HR5.out.bel HR5.out.own HR5.out.new).elim ?_
                  intro col6 h6
                  have HR := Lib.hid (RefR.tuck (m := { m with l := putR m.l d x }) HF.out h6.1 HK.out.symm HV.out.symm)
                  have SS := Lib.hid (HS5.out.trans h6.2)
                  clear h6 HB y1 Rh Rd
                  go_end0
                  exact ⟨rfl, col6, HR.out, SS.out⟩
end
end Go.Proofs.YtopjnalehllgcaaDoor
