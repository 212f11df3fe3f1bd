/- A row of lines: a run is sorted by insertion. Conditions: none beyond those typed. -/
import Derived.Test.YtbdafhephmoedaaLncmp
namespace Go.Proofs.Ytbdafhephmoedaa
open Go.ChangeShapes Go.WideShapes Go.ChangeAt Go.RowKit
set_option linter.unusedVariables false
set_option linter.unusedSimpArgs false
set_option maxRecDepth 100000

section
variable {α : Type} {S T : List En} {x y z : En} {k j : Nat}
theorem srtL_small {l : List En} (h : l.length ≤ 1) : SrtL l := by
  match l, h with
  | [], _ => exact List.Pairwise.nil
  | [x], _ => exact List.pairwise_singleton _ _
  | _ :: _ :: _, h => simp at h
theorem ins_next {S T : List En} {k j : Nat} {x : En} (hT : MgL (S.take k) T) (hx : S[k]? = some x) (hj : j ≤ T.length) (h1 : ∀ z, 0 < j → T[j - 1]? = some z → lnB x z = false) (h2 : ∀ z, T[j]? = some z → lnB x z = true) : MgL (S.take (k + 1)) (midR T x j) := by
  have hm := mgL_last hT.srt hj h1 h2
  refine ⟨SmL.trans ?_ hm.sm, hm.srt⟩
  rw [List.take_add_one, hx]
  exact hT.sm.app (SmL.refl _)
end
/-- Where an insertion stands: line k of the run S has come to place j. -/
structure InsL (w : World) (g n c a k : Nat) (P S T Q : List En) (x : En) (j : Nat) (W : World) : Prop where
  hj : j ≤ k
  lT : T.length = k
  top : ∀ z, T[j]? = some z → lnB x z = true
  row : RwL w g n c (P ++ midR T x j ++ (S.drop (k + 1) ++ Q)) W
section
variable {w W W' : World} {g n c a k j : Nat} {P S T Q : List En} {x y : En}
theorem InsL.here (h : InsL w g n c a k P S T Q x j W) (hP : P.length = a) : (P ++ midR T x j ++ (S.drop (k + 1) ++ Q))[a + j]? = some x := by
  have := h.hj
  rw [← hP, in_mid (by rw [midR_len, h.lT]; omega)]
  exact midR_at (by rw [h.lT]; exact h.hj)
theorem InsL.prev (h : InsL w g n c a k P S T Q x j W) (hP : P.length = a) (h0 : 0 < j) (hy : T[j - 1]? = some y) : (P ++ midR T x j ++ (S.drop (k + 1) ++ Q))[a + (j - 1)]? = some y := by
  have := h.hj
  rw [← hP, in_mid (by rw [midR_len, h.lT]; omega), midR_low (by omega) (by rw [h.lT]; exact h.hj)]
  exact hy
theorem InsL.step (h : InsL w g n c a k P S T Q x j W) (hP : P.length = a) (h0 : 0 < j) (hy : T[j - 1]? = some y) (hlt : lnB x y = true) (hR : RwL w g n c (((P ++ midR T x j ++ (S.drop (k + 1) ++ Q)).set (a + j) y).set (a + (j - 1)) x) W') : InsL w g n c a k P S T Q x (j - 1) W' := by
  have hjk := h.hj
  have hlT := h.lT
  refine ⟨by omega, h.lT, fun z hz => ?_, ?_⟩
  · rw [hy] at hz; injection hz with hz; rw [← hz]; exact hlt
  · rw [← hP, set_mid (by rw [midR_len, hlT]; omega), set_mid (by rw [List.length_set, midR_len, hlT]; omega)] at hR
    have e : ((midR T x j).set j y).set (j - 1) x = midR T x (j - 1) := by
      obtain ⟨i, rfl⟩ : ∃ i, j = i + 1 := ⟨j - 1, by omega⟩
      exact midR_back hy
    rw [e] at hR
    exact hR
end
def InsLO (w : World) (g n c : Nat) (P S Q : List En) (w' : World) : Prop := ∃ S', MgL S S' ∧ RwL w g n c (P ++ S' ++ Q) w'
set_option maxHeartbeats 4000000 in
theorem insertL_any {w : World} {g n c a b : Nat} {P S Q : List En} (hO : OwnK kLn w (.slice (some ⟨g, 0, none⟩) n c) (P ++ S ++ Q)) (hP : P.length = a) (hS : a + S.length = b) (hn : n ≤ 1000000) :
    Calls Try.prog 36 #[.slice (some ⟨g, 0, none⟩) n c, .int .i64 (a : Int), .int .i64 (b : Int), .func (.func 29) #[] #[]] w
      fun e w' => e = .returned (.tuple #[]) ∧ InsLO w g n c P S Q w' := by
  have hlen := (RwL.start hO).len
  simp only [List.length_append] at hlen
  have hwa : IntKind.i64.wrap ((a : Int) + 1) = ((a + 1 : Nat) : Int) := by rw [IntKind.wrap_i64]; omega
  have H0 := Lib.hid (show RwL w g n c (P ++ S.take 1 ++ (S.drop 1 ++ Q)) w from by
    rw [show P ++ S.take 1 ++ (S.drop 1 ++ Q) = P ++ (S.take 1 ++ S.drop 1) ++ Q by simp only [List.append_assoc], List.take_append_drop]
    exact RwL.start hO)
  obtain ⟨a1, ha1⟩ : ∃ a1, a + 1 = a1 := ⟨_, rfl⟩
  rw [ha1] at hwa
  have HP := Lib.hid hP
  clear hO
  go_enter Try.func36, Try.ntmps36
  go_wp2
  go_loopw [8] (fun iv wr => ∃ (k i : Nat) (T : List En), a + k = i ∧ 1 ≤ k ∧ (k ≤ S.length ∨ k = 1) ∧ iv = .int .i64 (i : Int) ∧ MgL (S.take k) T ∧ RwL w g n c (P ++ T ++ (S.drop k ++ Q)) wr) (fun iv _ => b - (intOf iv).toNat)
  case atStart => exact ⟨1, a1, S.take 1, ha1, Nat.le_refl _, .inr rfl, rfl, ⟨SmL.refl _, srtL_small (by rw [List.length_take]; omega)⟩, H0.out⟩
  case round =>
    clear H0 hwa
    obtain ⟨k, i, T, hki, hk1, hkS, rfl, hT, hR⟩ := hrel
    by_cases hlt : i < b
    · have hiI : (i : Int) < (b : Int) := by omega
      obtain ⟨x, hx⟩ : ∃ x, S[k]? = some x := ⟨_, List.getElem?_eq_getElem (by omega)⟩
      have hlT : T.length = k := by rw [hT.sm.len, List.length_take]; omega
      have HI0 : InsL w g n c a k P S T Q x k wr := by
        refine ⟨Nat.le_refl _, hlT, fun z hz => ?_, ?_⟩
        · rw [List.getElem?_eq_none (by omega)] at hz; cases hz
        · have e1 : midR T x k = T ++ [x] := by rw [← hlT]; exact midR_end
          have hkl : k < S.length := (List.getElem?_eq_some_iff.1 hx).1
          have e2 : S.drop k = x :: S.drop (k + 1) := by rw [List.drop_eq_getElem_cons hkl, (List.getElem?_eq_some_iff.1 hx).2]
          rw [e1]
          rw [e2] at hR
          rw [show P ++ (T ++ [x]) ++ (S.drop (k + 1) ++ Q) = P ++ T ++ (x :: S.drop (k + 1) ++ Q) by simp]
          exact hR
      have HI := Lib.hid HI0
      clear HI0
      have HN := Lib.hid (And.intro hT hx)
      have hkl : k + 1 ≤ S.length := (List.getElem?_eq_some_iff.1 hx).1
      have hwi : IntKind.i64.wrap ((i : Int) + 1) = ((i + 1 : Nat) : Int) := by rw [IntKind.wrap_i64]; omega
      clear hT hR hx
      go_wp2
      go_loopw [9] (fun jv wr => ∃ j i' : Nat, a + j = i' ∧ jv = .int .i64 (i' : Int) ∧ InsL w g n c a k P S T Q x j wr) (fun jv _ => (intOf jv).toNat)
      case atStart => exact ⟨k, i, hki, rfl, HI.out⟩
      case round =>
        clear HI
        obtain ⟨j, i', hji, rfl, R⟩ := hrel
        have hjk := R.hj
        by_cases hj0 : 0 < j
        · have hgt : decide (a < i') = true := decide_eq_true (by omega)
          obtain ⟨h', hh'⟩ : ∃ h', i' - 1 = h' := ⟨_, rfl⟩
          have hw1 : IntKind.i64.wrap ((i' : Int) - 1) = (h' : Int) := by rw [IntKind.wrap_i64]; omega
          obtain ⟨y, hy⟩ : ∃ y, T[j - 1]? = some y := ⟨_, List.getElem?_eq_getElem (by omega)⟩
          have hX := R.here HP.out
          have hY := R.prev HP.out hj0 hy
          rw [hji] at hX
          rw [show a + (j - 1) = h' by omega] at hY
          obtain ⟨x0, x1, x2⟩ := R.row.cells hX
          obtain ⟨y0, y1, y2⟩ := R.row.cells hY
          have hbl := R.row.lt
          have i1 : (i' : Int) < (n : Int) := by omega
          have i2 : (h' : Int) < (n : Int) := by omega
          have hhi : h' < i' := by omega
          cases hb : lnB x y with
          | false =>
            have HO := Lib.hid (fun (W : World) (hB : Below wr.heap.size wr W) => And.intro (ins_next (j := j) HN.out.1 HN.out.2 (by omega) (fun z _ hz => by rw [hy] at hz; injection hz with hz; rw [← hz]; exact hb) R.top) (R.row.below hB))
            clear R hX hY hy
            go_wp2_with fail
            go_region_held3 (fun W => W.cell? ⟨g, i' * 3, none⟩ = some (.string x.1) ∧ W.cell? ⟨g, i' * 3 + 1, none⟩ = some (.int .u64 x.2.1) ∧ W.cell? ⟨g, i' * 3 + 2, none⟩ = some (.int .u64 x.2.2) ∧ W.cell? ⟨g, h' * 3, none⟩ = some (.string y.1) ∧ W.cell? ⟨g, h' * 3 + 1, none⟩ = some (.int .u64 y.2.1) ∧ W.cell? ⟨g, h' * 3 + 2, none⟩ = some (.int .u64 y.2.2)) (first | exact ⟨x0, x1, x2, y0, y1, y2⟩ | exact ⟨(cellB x0 hb5).1, (cellB x1 hb5).1, (cellB x2 hb5).1, (cellB y0 hb5).1, (cellB y1 hb5).1, (cellB y2 hb5).1⟩) (first | (go_at_call 29; refine (compareL_any x y _).mono ?_; rintro e w5 ⟨z, rfl, hz, h5⟩; rw [hb] at hz; have hb5 := below_then (bdM wr) h5))
            all_goals
              have HO5 := Lib.hid (HO.out _ hb5)
              clear HO x0 x1 x2 y0 y1 y2
              go_wp2
              go_roundw
              case rel => exact ⟨k + 1, i + 1, _, by omega, by omega, .inl hkl, by go_num, HO5.out.1, HO5.out.2⟩
              case measure => (simp [intOf] <;> omega)
          | true =>
            have HO := Lib.hid (fun (W : World) (hB : Below wr.heap.size wr W) => R.row.below hB)
            have HS := Lib.hid (fun (W' : World) hR => R.step (W' := W') HP.out hj0 hy hb hR)
            have HX := Lib.hid (And.intro hX hY)
            rw [hji, show a + (j - 1) = h' by omega] at HS
            clear R hX hY hy
            go_wp2_with fail
            go_region_held3 (fun W => W.cell? ⟨g, i' * 3, none⟩ = some (.string x.1) ∧ W.cell? ⟨g, i' * 3 + 1, none⟩ = some (.int .u64 x.2.1) ∧ W.cell? ⟨g, i' * 3 + 2, none⟩ = some (.int .u64 x.2.2) ∧ W.cell? ⟨g, h' * 3, none⟩ = some (.string y.1) ∧ W.cell? ⟨g, h' * 3 + 1, none⟩ = some (.int .u64 y.2.1) ∧ W.cell? ⟨g, h' * 3 + 2, none⟩ = some (.int .u64 y.2.2)) (first | exact ⟨x0, x1, x2, y0, y1, y2⟩ | exact ⟨(cellB x0 hb5).1, (cellB x1 hb5).1, (cellB x2 hb5).1, (cellB y0 hb5).1, (cellB y1 hb5).1, (cellB y2 hb5).1⟩) (first | (go_at_call 29; refine (compareL_any x y _).mono ?_; rintro e w5 ⟨z, rfl, hz, h5⟩; rw [hb] at hz; have hb5 := below_then (bdM wr) h5))
            rename_i hH
            obtain ⟨k0, k1, k2, k3, k4, k5⟩ := hH
            have hR5 := HO.out _ hb5
            have f0 := hR5.free (i' * 3)
            have f1 := hR5.free (i' * 3 + 1)
            have f2 := hR5.free (i' * 3 + 2)
            have f3 := hR5.free (h' * 3)
            have f4 := hR5.free (h' * 3 + 1)
            have f5 := hR5.free (h' * 3 + 2)
            have HZ := Lib.hid (HS.out _ ((hR5.swap HX.out.1 HX.out.2 (by omega)).drewN 1))
            clear HO HS HX hR5 x0 x1 x2 y0 y1 y2
            go_wp2
            go_region
            all_goals
              go_wp2
              go_roundw
              case rel => exact ⟨j - 1, h', by omega, by go_num, HZ.out⟩
              case measure => (simp [intOf] <;> omega)
        · have hgt : decide (a < i') = false := decide_eq_false (by omega)
          have HM := Lib.hid (ins_next (j := j) HN.out.1 HN.out.2 (by omega) (fun z h0 _ => absurd h0 hj0) R.top)
          have HO := Lib.hid (fun q : Nat => R.row.drewN q)
          clear R
          go_wp2
          go_quiet (fail)
          go_wp2
          go_roundw
          case rel => exact ⟨k + 1, i + 1, _, by omega, by omega, .inl hkl, by go_num, HM.out, HO.out _⟩
          case measure => (simp [intOf] <;> omega)
    · have hiI : ¬ (i : Int) < (b : Int) := by omega
      have HE := Lib.hid (show InsLO w g n c P S Q wr from by
        have e1 : S.take k = S := List.take_of_length_le (by omega)
        have e2 : S.drop k = [] := List.drop_of_length_le (by omega)
        rw [e1] at hT
        rw [e2] at hR
        exact ⟨T, hT, hR⟩)
      clear hT hR
      go_wp2
      go_end0
      exact ⟨rfl, HE.out⟩
end Go.Proofs.Ytbdafhephmoedaa
