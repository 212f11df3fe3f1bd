/- The statements about package ranks: RanksAge. Conditions: the program's orders keep their contracts (ProgR). -/
import Derived.Test.YtopjnalehllgcaaDoorRsorted
import Derived.Test.YtopjnalehllgcaaDoorBm
import Derived.Test.YtopjnalehllgcaaDoorKgrow
namespace Go.Proofs.YtopjnalehllgcaaDoor
open Go.ChangeShapes Go.WideShapes Go.ChangeAt Go.RowKit
set_option linter.unusedVariables false
set_option linter.unusedSimpArgs false
set_option maxRecDepth 100000

/-- Elements that have the same count. -/
def lC (K : List Nat) (C : Int) : List (Nat × Int) := K.map fun k => (k, C)
def intsK (K : List Nat) : List Int := K.map fun k : Nat => (k : Int)
section
variable {K : List Nat} {C c : Int} {q : CSt Int} {id : Nat} {l : List (Nat × Int)}
theorem lC_app (K : List Nat) (C : Int) (id : Nat) : lC (K ++ [id]) C = lC K C ++ [(id, C)] := by simp [lC]
theorem lC_len (K : List Nat) (C : Int) : (lC K C).length = K.length := by simp [lC]
theorem lC_mem {p : Nat × Int} (h : p ∈ lC K C) : p.2 = C ∧ p.1 ∈ K := by
  obtain ⟨k, hk, e⟩ := List.mem_map.1 h
  subst e
  exact ⟨rfl, hk⟩
theorem lC_ns (h : q.l = lC K C) : q.ns = intsK K := by unfold CSt.ns; rw [h]; simp [lC, intsK]
theorem lC_nodes (h : q.l = lC K C) : q.nodes = K := by unfold CSt.nodes; rw [h]; simp [lC, Function.comp_def]
theorem putR_last (h : ∀ p ∈ l, p.2 ≤ C) (id : Nat) : putR l id C = l ++ [(id, C)] := by
  have hp : posR l C = l.length := pos_is (fun i p hi hp => h p (List.mem_of_getElem? hp)) (fun p hp => by rw [List.getElem?_eq_none (Nat.le_refl _)] at hp; cases hp) (Nat.le_refl _)
  unfold putR; rw [hp]; simp
theorem putR_first (h : ∀ p ∈ l, C < p.2) (id : Nat) : putR l id C = (id, C) :: l := by
  have hp : posR l C = 0 := pos_is (fun i p hi => absurd hi (Nat.not_lt_zero _)) (fun p hp => h p (List.mem_of_getElem? hp)) (Nat.zero_le _)
  unfold putR; rw [hp]; simp
theorem insR_dup (h : id ∈ q.nodes) (hn : (id : Int) < q.n) : q.insR (id : Int) C = (10, q) := by
  unfold CSt.insR
  rw [if_neg (by omega), if_pos (by rw [place_node]; simpa using h)]
theorem insR_new (h : id ∉ q.nodes) (hn : (id : Int) < q.n) (h1 : C ≤ 9223372036854775808) : q.insR (id : Int) C = (0, { q with l := putR q.l id C }) := by
  unfold CSt.insR
  rw [if_neg (by omega), if_neg (by rw [place_node]; simpa using h), if_neg (by omega)]
  rfl
/-- One that is raised comes behind all others. -/
theorem age_raise {q1 : CSt Int} {b : Int} (hl : q.l = lC K C) (h1 : q1 = { q with l := putR q.l id c }) (G : GoodC q1) (hC : c + b = C) (hb : 0 ≤ b) (hm : C ≤ 9223372036854775808) : q1.raiseR (id : Int) b = (0, { q with l := lC (K ++ [id]) C }) := by
  have hf : fitsB c b = true := by unfold fitsB; rw [hC]; exact decide_eq_true hm
  by_cases h0 : b = 0
  · subst h0
    obtain rfl : c = C := by omega
    have hp : q1.l = lC K c ++ [(id, c)] := by rw [h1]; show putR q.l id c = _; rw [hl, putR_last fun p hp => by rw [(lC_mem hp).1]; exact Int.le_refl _]
    have hat : q1.l[(lC K c).length]? = some (id, c) := by rw [hp, List.getElem?_append_right (Nat.le_refl _), Nat.sub_self]; rfl
    unfold CSt.raiseR
    rw [place_is G hat]
    show (match q1.l[(lC K c).length]? with | none => _ | some p => _) = _
    rw [hat]
    show (if fitsB c 0 = true then _ else _) = _
    rw [if_pos hf, if_neg (by omega), lC_app, ← hp, h1]
  · have hlt : c < C := by omega
    have hp : q1.l = (id, c) :: lC K C := by rw [h1]; show putR q.l id c = _; rw [hl, putR_first fun p hp => by rw [(lC_mem hp).1]; exact hlt]
    have hat : q1.l[0]? = some (id, c) := by rw [hp]; rfl
    unfold CSt.raiseR
    rw [place_is G hat]
    show (match q1.l[0]? with | none => _ | some p => _) = _
    rw [hat]
    show (if fitsB c b = true then _ else _) = _
    rw [if_pos hf, if_pos (by omega)]
    show ((0 : Int), { q1 with l := putR (remC q1.l 0) id (c + b) }) = _
    have hr : remC q1.l 0 = lC K C := by unfold remC; rw [hp]; rfl
    rw [hr, hC, putR_last (fun p hp => by rw [(lC_mem hp).1]; exact Int.le_refl _), lC_app, h1]
theorem age_stay (hl : q.l = lC (K ++ [id]) C) (G : GoodC q) (h0 : C ≤ 9223372036854775808) : q.raiseR (id : Int) 0 = (0, q) := by
  have hat : q.l[K.length]? = some (id, C) := by rw [hl, lC_app, List.getElem?_append_right (by rw [lC_len]; exact Nat.le_refl _), lC_len, Nat.sub_self]; rfl
  unfold CSt.raiseR
  rw [place_is G hat]
  show (match q.l[K.length]? with | none => _ | some p => _) = _
  rw [hat]
  show (if fitsB C 0 = true then _ else _) = _
  rw [if_pos (by unfold fitsB; exact decide_eq_true (by omega)), if_neg (by omega)]
end
/-- An order, and the statement's own row. -/
structure AgeR (PR : RepR) (w0 : World) (col : Col) (W : World) (g : Nat) (m : CSt Int) (v : Value) (l : List Int) : Prop where
  at_ : AtR PR w0 col W 16 g m
  row : OwnKc kI col W 1 v l
section
variable {PR : RepR} {w0 W W' : World} {col col' : Col} {g : Nat} {m m' : CSt Int} {v : Value} {l : List Int}
theorem AgeR.did (h : AgeR PR w0 col W g m v l) (hd : DidPR PR col 16 W g m' W') : ∃ col', AgeR PR w0 col' W' g m' v l := by
  obtain ⟨col', h1, s⟩ := hd
  exact ⟨col', ⟨h.at_.since.step s (rng0 (by omega)), h1⟩, h.row.keep s (fun e => by have := e.1; omega)⟩
theorem AgeR.below (HP : ProgR PR) (h : AgeR PR w0 col W g m v l) (hb : Below W.heap.size W W') : AgeR PR w0 col W' g m v l :=
  ⟨h.at_.below HP hb, h.row.keep (P := fun _ => False) (StepC.below h.at_.tidy hb) (fun h => h)⟩
/-- The row has grown. -/
theorem AgeR.app (HP : ProgR PR) (h : AgeR PR w0 col W g m v l) {v' : Value} {l' : List Int} (O : OwnK kI W' v' l') (G : W.grownBy W' v.ownBlock) (hat : v'.ownBlock = v.ownBlock ∨ v'.ownBlock = some W.heap.size) : ∃ col', AgeR PR w0 col' W' g m v' l' := by
  have S := StepC.app (P := fun c => c = 1) h.at_.tidy G h.row.col rfl hat O.lt
  exact ⟨_, ⟨h.at_.since.step S (by omega), HP.keep h.at_.pr S (fun c e f => by have := e.1; omega) (by omega)⟩, OwnKc.mk' kI O⟩
end
set_option maxHeartbeats 8000000 in
theorem ranksAge_walk {PR : RepR} (HP : ProgR PR) (B : Option Addr) (p cp : Nat) (c b : Int) (w : World) (hB : Arg w B p cp) (c0 : 0 ≤ c) (c1 : c ≤ 4294967295) (b0 : 0 ≤ b) (b1 : b ≤ 65535) (hTab : Tab w) :
    Calls Tryd.prog 6 #[.slice B p cp, .int .u32 c, .int .u16 b] w (Yes w) := by
  obtain ⟨hpc, hcm, L, hL⟩ := hB
  have hS0 := Since.start w
  have hnew := HP.new (k := 16) hS0.tidy (hS0.tb hTab) (by omega) 40 (by simp [J64])
  have hcw : IntKind.u64.wrap c = c := IntWalk.u64_in _ ⟨by omega, by omega⟩
  have hbw : IntKind.u64.wrap b = b := IntWalk.u64_in _ ⟨by omega, by omega⟩
  obtain ⟨C, hC⟩ : ∃ C, c + b = C := ⟨_, rfl⟩
  have hCw : IntKind.u64.wrap (c + b) = C := by rw [hC]; exact IntWalk.u64_in _ ⟨by omega, by omega⟩
  have hHC := Lib.hid hC
  have hC0 : 0 ≤ C := by omega
  have hC1 : C ≤ 4295032830 := by omega
  clear hC
  go_enter Tryd.func6, Tryd.ntmps6
  go_wp2_with fail
  refine hnew.mono ?_
  rintro e w4 (⟨_, g, rfl, hd⟩ | ⟨h0, _⟩)
  rotate_left
  · exact absurd h0 (show ¬ rnkE 40 = 1 by decide)
  obtain ⟨col4, p4, s4⟩ := hd
  have A4 : AgeR PR w col4 w4 g (newC Int 40) (.slice none 0 0) [] := ⟨⟨hS0.step s4 (rng0 (by omega)), p4⟩, OwnKc.nil kI _ _ _⟩
  clear s4 p4 hS0 hnew
  go_wp2
  go_loopw [9, 10] (fun vv iv wr => ∃ (i d k : Nat) (A : Option Addr) (col : Col) (q : CSt Int) (K : List Nat), i ≤ p ∧ i ≤ 30 ∧ k ≤ i ∧ vv = .slice A k d ∧ iv = .int .i64 (i : Int) ∧ AgeR PR w col wr g q (.slice A k d) (intsK K) ∧ q.n = 40 ∧ q.l = lC K C ∧ K.length = k ∧ ∀ k ∈ K, k < 39) (fun _ iv _ => p - (intOf iv).toNat)
  case atStart => exact ⟨0, 0, 0, none, _, _, [], Nat.zero_le _, Nat.zero_le _, Nat.le_refl _, rfl, rfl, A4, rfl, rfl, rfl, fun k hk => by simp at hk⟩
  case round =>
    clear A4
    obtain ⟨i, d, k, A, col, q, K, hip, hi30, hKi, rfl, rfl, T, hq4, hql, hk, hK⟩ := hrel
    by_cases hend : i < p ∧ i < 30
    · have hpi : (i : Int) < (p : Int) := by omega
      have h3i : (i : Int) < 30 := by omega
      obtain ⟨bB, oB, x, rfl, hx, hx0, hx1, cS⟩ : ∃ b o x, B = some ⟨b, o, none⟩ ∧ L[i]? = some x ∧ 0 ≤ x ∧ x ≤ 255 ∧ wr.cell? ⟨b, o + i, none⟩ = some (.int .u8 x) := by
        obtain ⟨b, o, x, e1, e2, e3, e4, _, e5⟩ := (hL.below T.at_.since.below).at_ (k := i) hend.1
        exact ⟨b, o, x, e1, e2, by omega, by omega, e5⟩
      obtain ⟨y, rfl⟩ : ∃ y : Nat, x = (y : Int) := ⟨x.toNat, by omega⟩
      have hyw : IntKind.i64.wrap (y : Int) = (y : Int) := by rw [IntKind.wrap_i64]; omega
      obtain ⟨z, hz⟩ : ∃ z, y % 39 = z := ⟨_, rfl⟩
      have hzt : (y : Int).tmod 39 = (z : Int) := by rw [Int.tmod_eq_emod_of_nonneg (by omega)]; omega
      have hz2 : (y : Int) % 39 = (z : Int) := by omega
      have hz39 : z < 39 := by omega
      have hzw : IntKind.i64.wrap (z : Int) = (z : Int) := by rw [IntKind.wrap_i64]; omega
      have hIn := HP.ins T.at_.pr T.at_.tidy (z : Int) C (by unfold J64; omega) (by unfold U64; omega)
      by_cases hzK : z ∈ K
      · rw [insR_dup (by rw [lC_nodes hql]; exact hzK) (by omega)] at hIn
        clear hzK hz hx
        go_wp2_with fail
        refine hIn.mono ?_
        rintro e w5 ⟨rfl, hd⟩
        obtain ⟨col5, T5⟩ := T.did hd
        clear T hd cS hIn
        go_wp2
        go_roundw
        case rel => exact ⟨i + 1, d, k, A, _, _, K, by omega, by omega, by omega, rfl, by go_num, T5, hq4, hql, hk, hK⟩
        case measure => (simp [intOf] <;> omega)
      · rw [insR_new (by rw [lC_nodes hql]; exact hzK) (by omega) (by omega), hql, putR_last (fun p hp => by rw [(lC_mem hp).1]; exact Int.le_refl _), ← lC_app] at hIn
        clear hzK hz hx
        go_wp2_with fail
        refine hIn.mono ?_
        rintro e w5 ⟨rfl, hd⟩
        obtain ⟨col5, T5⟩ := T.did hd
        clear T hd cS hIn
        have b6 : Below w5.heap.size w5 (w5.alloc (.cells #[.int .i64 (z : Int)] 3)) := (Below.refl _ _).alloc (Nat.le_refl _) _
        have T6 := T5.below HP b6
        have O6 := T6.row.own
        have R6 : RdG kI (w5.alloc (.cells #[.int .i64 (z : Int)] 3)) (some ⟨w5.heap.size, 0, none⟩) 1 1 [(z : Int)] := RdG.one2 kI (z : Int) rfl rfl (by simp)
        have hby : (intsK K).length + 1 ≤ 1000000000 := by unfold intsK; rw [List.length_map]; omega
        have hap : intsK K ++ [(z : Int)] = intsK (K ++ [z]) := by simp [intsK]
        have hl2 : (intsK (K ++ [z])).length = k + 1 := by simp [intsK, hk]
        have HT6 := Lib.hid T6
        clear T5 T6
        go_wp2_with (at_builtin; refine wpList_appK kI rfl (.tmp 49) (.tmp 51) rfl _ (intsK K) rfl _ 1 1 [(z : Int)] rfl O6 R6 hby ?_; intro v7 w7 O7 G7 hat7; rw [hap] at O7; obtain ⟨A7, c7, rfl, _, _⟩ := O7.form hl2; obtain ⟨col7, T7⟩ := HT6.out.app HP O7 G7 hat7)
        go_roundw
        case rel => exact ⟨i + 1, c7, k + 1, A7, _, { q with l := lC (K ++ [z]) C }, K ++ [z], by omega, by omega, by omega, by first | rfl | (push_cast; rfl), by go_num, T7, hq4, rfl, by simp [hk], fun y hy => by
          rcases List.mem_append.1 hy with h | h
          · exact hK y h
          · rw [List.mem_singleton.1 h]; exact hz39⟩
        case measure => (simp [intOf] <;> omega)
    · have hcs : ¬ (i : Int) < (p : Int) ∨ ((i : Int) < (p : Int) ∧ ¬ (i : Int) < 30) := by omega
      have hno : (39 : Nat) ∉ q.nodes := fun hm => by rw [lC_nodes hql] at hm; have := hK 39 hm; omega
      have hI1 := HP.ins T.at_.pr T.at_.tidy 39 c (by simp [J64]) (by unfold U64; omega)
      have e1 : q.insR 39 c = (0, { q with l := putR q.l 39 c }) := insR_new (id := 39) hno (by omega) (by omega)
      rw [e1] at hI1
      have hql' := Lib.hid hql
      have hkb : k ≤ 30 := by omega
      have hkL := Lib.hid hk
      clear hL hend hip hi30 e1 hno hK hKi hql hk
      rcases hcs with hpi | ⟨hpi, h3i⟩
      all_goals
        go_wp2_with fail
        refine hI1.mono ?_
        rintro e w5 ⟨rfl, hd⟩
        obtain ⟨col5, T5⟩ := T.did hd
        clear T hd hI1
        have hG5 := HP.good T5.at_.pr
        have hR6 := HP.raise T5.at_.pr T5.at_.tidy 39 b (by simp [J64]) (by unfold U64; omega)
        have e2 := age_raise (id := 39) hql'.out rfl hG5.c hHC.out b0 (by omega)
        rw [show ({ q with l := putR q.l 39 c } : CSt Int).raiseR 39 b = _ from e2] at hR6
        clear e2 hG5
        go_wp2_with fail
        refine hR6.mono ?_
        rintro e w6 ⟨rfl, hd⟩
        obtain ⟨col6, T6⟩ := T5.did hd
        clear T5 hd hR6
        have b7 : Below w6.heap.size w6 (w6.alloc (.cells #[.int .i64 39] 3)) := (Below.refl _ _).alloc (Nat.le_refl _) _
        have T7 := T6.below HP b7
        have O7 := T7.row.own
        have R7 : RdG kI (w6.alloc (.cells #[.int .i64 39] 3)) (some ⟨w6.heap.size, 0, none⟩) 1 1 [39] := RdG.one2 kI (39 : Int) rfl rfl (by simp)
        have hby : (intsK K).length + 1 ≤ 1000000000 := by unfold intsK; rw [List.length_map, hkL.out]; omega
        have hap : intsK K ++ [(39 : Int)] = intsK (K ++ [39]) := by simp [intsK]
        have hl2 : (intsK (K ++ [39])).length = k + 1 := by simp [intsK, hkL.out]
        have HT7 := Lib.hid T7
        have hns : ({ q with l := lC (K ++ [39]) C } : CSt Int).ns = intsK (K ++ [39]) := lC_ns rfl
        generalize hq2 : ({ q with l := lC (K ++ [39]) C } : CSt Int) = q2 at *
        have hq2l : q2.l = lC (K ++ [39]) C := by rw [← hq2]
        clear T6 T7 hq2 hpi
        by_cases hb0 : b = 0
        · have hbI : (b == 0) = true := beq_iff_eq.2 hb0
          clear hb0
          go_wp2_with (at_builtin; refine wpList_appK kI rfl (.tmp 61) (.tmp 62) rfl _ (intsK K) rfl _ 1 1 [(39 : Int)] rfl O7 R7 hby ?_; intro v8 w8 O8 G8 hat8; rw [hap] at O8; obtain ⟨A8, c8, rfl, _, _⟩ := O8.form hl2; obtain ⟨col8, T8⟩ := HT7.out.app HP O8 G8 hat8; clear O8 G8 hat8)
          have hV8 := HP.order T8.at_.pr T8.at_.tidy
          rw [hns] at hV8
          go_wp2_with fail
          refine hV8.mono ?_
          rintro e w8a ⟨A8a, n8a, c8a, hl8a, rfl, R8a, _, b8a⟩
          have T8a := T8.below HP b8a
          have hSI8 := sameInts_any _ _ _ _ _ _ _ _ _ R8a T8a.row.own.reads
          rw [decide_eq_true rfl] at hSI8
          clear T8 hV8 hl8a R8a
          go_wp2_with fail
          refine hSI8.mono ?_
          rintro e w8b ⟨rfl, j8, hj8⟩
          have b8b : Below w8a.heap.size w8a w8b := by rw [hj8]; exact below_drewN (Below.refl _ _) j8
          have T8b := T8a.below HP b8b
          clear T8a hSI8 hj8 b8a b8b
          have S8 := T8b.at_.since
          clear T8b
          go_wp2_with fail
          refine (rawake_any HP _ (S8.tab hTab)).mono ?_
          rintro e w8c ⟨rfl, b8c⟩
          have hb := (S8.belowL b8c).below
          clear S8 b8c
          go_wp2
          go_ret
          exact ⟨rfl, hb⟩
        · have hbI : (b == 0) = false := beq_false_of_ne hb0
          clear hb0
          go_wp2_with (at_builtin; refine wpList_appK kI rfl (.tmp 61) (.tmp 62) rfl _ (intsK K) rfl _ 1 1 [(39 : Int)] rfl O7 R7 hby ?_; intro v8 w8 O8 G8 hat8; rw [hap] at O8; obtain ⟨A8, c8, rfl, _, _⟩ := O8.form hl2; obtain ⟨col8, T8⟩ := HT7.out.app HP O8 G8 hat8; clear O8 G8 hat8)
          have hV8 := HP.order T8.at_.pr T8.at_.tidy
          rw [hns] at hV8
          go_wp2_with fail
          refine hV8.mono ?_
          rintro e w8a ⟨A8a, n8a, c8a, hl8a, rfl, R8a, _, b8a⟩
          have T8a := T8.below HP b8a
          have hSI8 := sameInts_any _ _ _ _ _ _ _ _ _ R8a T8a.row.own.reads
          rw [decide_eq_true rfl] at hSI8
          clear T8 hV8 hl8a R8a
          go_wp2_with fail
          refine hSI8.mono ?_
          rintro e w8b ⟨rfl, j8, hj8⟩
          have b8b : Below w8a.heap.size w8a w8b := by rw [hj8]; exact below_drewN (Below.refl _ _) j8
          have T8b := T8a.below HP b8b
          clear T8a hSI8 hj8 b8a b8b
          have e3 := age_stay hq2l (HP.good T8b.at_.pr).c (by omega)
          have hR9 := HP.raise T8b.at_.pr T8b.at_.tidy 39 0 (by simp [J64]) (by simp [U64])
          rw [show q2.raiseR 39 0 = _ from e3] at hR9
          clear e3
          go_wp2_with fail
          refine hR9.mono ?_
          rintro e w9 ⟨rfl, hd⟩
          obtain ⟨col9, T9⟩ := T8b.did hd
          clear T8b hd hR9
          have hV9 := HP.order T9.at_.pr T9.at_.tidy
          rw [hns] at hV9
          go_wp2_with fail
          refine hV9.mono ?_
          rintro e w9a ⟨A9a, n9a, c9a, hl9a, rfl, R9a, _, b9a⟩
          have T9a := T9.below HP b9a
          have hSI9 := sameInts_any _ _ _ _ _ _ _ _ _ R9a T9a.row.own.reads
          rw [decide_eq_true rfl] at hSI9
          clear T9 hV9 hl9a R9a
          go_wp2_with fail
          refine hSI9.mono ?_
          rintro e w9b ⟨rfl, j9, hj9⟩
          have b9b : Below w9a.heap.size w9a w9b := by rw [hj9]; exact below_drewN (Below.refl _ _) j9
          have T9b := T9a.below HP b9b
          clear T9a hSI9 hj9 b9a b9b
          have S9 := T9b.at_.since
          clear T9b
          go_wp2_with fail
          refine (rawake_any HP _ (S9.tab hTab)).mono ?_
          rintro e w9c ⟨rfl, b9c⟩
          have hb := (S9.belowL b9c).below
          clear S9 b9c
          go_wp2
          go_ret
          exact ⟨rfl, hb⟩
end Go.Proofs.YtopjnalehllgcaaDoor
