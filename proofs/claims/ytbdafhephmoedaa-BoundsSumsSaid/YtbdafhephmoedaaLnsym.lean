/- A row of lines: two neighbouring sorted runs are merged in place (slices.symMergeCmpFunc). Conditions: none beyond those typed. -/
import Derived.Test.YtbdafhephmoedaaLnins
import Derived.Test.YtbdafhephmoedaaLnrot
import Derived.Deep.CutRange
namespace Go.Proofs.Ytbdafhephmoedaa
open Go.ChangeShapes Go.WideShapes Go.ChangeAt Go.RowKit
set_option linter.unusedVariables false
set_option linter.unusedSimpArgs false
set_option maxRecDepth 100000

section
variable {P U V Q : List En} {a m q : Nat} {x : En}
theorem at_runU (hP : P.length = a) (h : U[q]? = some x) : (P ++ (U ++ V) ++ Q)[a + q]? = some x := by
  have hl := (List.getElem?_eq_some_iff.1 h).1
  rw [← hP, in_mid (by rw [List.length_append]; omega), List.getElem?_append_left hl]; exact h
theorem at_runV (hP : P.length = a) (hU : a + U.length = m) (h : V[q]? = some x) : (P ++ (U ++ V) ++ Q)[m + q]? = some x := by
  have hl := (List.getElem?_eq_some_iff.1 h).1
  rw [← hU, ← hP, Nat.add_assoc, in_mid (by rw [List.length_append]; omega), List.getElem?_append_right (by omega), show U.length + q - U.length = q by omega]; exact h
end
/-- What a merge does to the row. -/
def MgO (w : World) (g n c : Nat) (P U V Q : List En) (w' : World) : Prop := ∃ S', MgL (U ++ V) S' ∧ RwL w g n c (P ++ S' ++ Q) w'
/-- A line moves among those of a run. -/
structure MvL (w : World) (g n c : Nat) (P V Q : List En) (u : En) (j : Nat) (W : World) : Prop where
  row : RwL w g n c (P ++ midR V u j ++ Q) W
section
variable {w W W' : World} {g n c a j : Nat} {P V Q : List En} {u v : En}
theorem MvL.here (h : MvL w g n c P V Q u j W) (hP : P.length = a) (hj : j ≤ V.length) : (P ++ midR V u j ++ Q)[a + j]? = some u := by
  rw [← hP, in_mid (by rw [midR_len]; omega)]; exact midR_at hj
theorem MvL.next (h : MvL w g n c P V Q u j W) (hP : P.length = a) (hv : V[j]? = some v) : (P ++ midR V u j ++ Q)[a + j + 1]? = some v := by
  have hl := (List.getElem?_eq_some_iff.1 hv).1
  rw [← hP, Nat.add_assoc, in_mid (by rw [midR_len]; omega), midR_high (Nat.le_refl _) (by omega)]; exact hv
theorem MvL.prev (h : MvL w g n c P V Q u (j + 1) W) (hP : P.length = a) (hv : V[j]? = some v) : (P ++ midR V u (j + 1) ++ Q)[a + j]? = some v := by
  have hl := (List.getElem?_eq_some_iff.1 hv).1
  rw [← hP, in_mid (by rw [midR_len]; omega), midR_low (by omega) (by omega)]; exact hv
theorem MvL.up (h : MvL w g n c P V Q u j W) (hP : P.length = a) (hv : V[j]? = some v) (hR : RwL w g n c (((P ++ midR V u j ++ Q).set (a + j) v).set (a + j + 1) u) W') : MvL w g n c P V Q u (j + 1) W' := by
  have hl := (List.getElem?_eq_some_iff.1 hv).1
  rw [← hP, Nat.add_assoc, set_mid (by rw [midR_len]; omega), set_mid (by rw [List.length_set, midR_len]; omega), midR_step hv] at hR
  exact ⟨hR⟩
theorem MvL.down (h : MvL w g n c P V Q u (j + 1) W) (hP : P.length = a) (hv : V[j]? = some v) (hR : RwL w g n c (((P ++ midR V u (j + 1) ++ Q).set (a + j + 1) v).set (a + j) u) W') : MvL w g n c P V Q u j W' := by
  have hl := (List.getElem?_eq_some_iff.1 hv).1
  rw [← hP, Nat.add_assoc, set_mid (by rw [midR_len]; omega), set_mid (by rw [List.length_set, midR_len]; omega), midR_back hv] at hR
  exact ⟨hR⟩
end
/-- The middle of two places, as Go reckons it. -/
theorem half_any {i j : Nat} (h : i + j ≤ 4000000000) : ∃ h' : Nat, (i + j) / 2 = h' ∧ IntKind.i64.wrap ((i : Int) + (j : Int)) = ((i + j : Nat) : Int) ∧ IntKind.u64.wrap ((i + j : Nat) : Int) = ((i + j : Nat) : Int) ∧ ((i + j : Nat) : Int) / 2 = (h' : Int) ∧ IntKind.i64.wrap (h' : Int) = (h' : Int) :=
  ⟨(i + j) / 2, rfl, by rw [IntKind.wrap_i64]; omega, IntWalk.u64_in _ (by omega), by omega, by rw [IntKind.wrap_i64]; omega⟩
set_option maxHeartbeats 8000000 in
theorem symOne_any {w : World} {g n c a m b : Nat} {P V Q : List En} {u : En} (hO : OwnK kLn w (.slice (some ⟨g, 0, none⟩) n c) (P ++ ([u] ++ V) ++ Q)) (hP : P.length = a) (hU : a + 1 = m) (hV : m + V.length = b) (sV : SrtL V) (hn : n ≤ 1000000) :
    Calls Try.prog 37 #[.slice (some ⟨g, 0, none⟩) n c, .int .i64 (a : Int), .int .i64 (m : Int), .int .i64 (b : Int), .func (.func 29) #[] #[]] w
      fun e w' => e = .returned (.tuple #[]) ∧ MgO w g n c P [u] V Q w' := by
  have H0 := Lib.hid (RwL.start hO)
  have hlen := (RwL.start hO).len
  simp only [List.length_append, List.length_cons, List.length_nil] at hlen
  have HP := Lib.hid hP
  have hbn : b ≤ n := by omega
  have hwa : IntKind.i64.wrap ((m : Int) - (a : Int)) = 1 := by rw [IntKind.wrap_i64]; omega
  have hL := Lib.hid (show P ++ ([u] ++ V) ++ Q = P ++ midR V u 0 ++ Q from rfl)
  clear hO hP
  go_enter Try.func37, Try.ntmps37
  go_wp2
  go_loopw [10, 11] (fun iv jv wr => ∃ p q i j : Nat, m + p = i ∧ m + q = j ∧ iv = .int .i64 (i : Int) ∧ jv = .int .i64 (j : Int) ∧ p ≤ q ∧ q ≤ V.length ∧ (∀ z, 0 < p → V[p - 1]? = some z → lnB z u = true) ∧ (∀ z, V[q]? = some z → lnB z u = false) ∧ RwL w g n c (P ++ ([u] ++ V) ++ Q) wr) (fun iv jv _ => (intOf jv).toNat - (intOf iv).toNat)
  case atStart => exact ⟨0, V.length, m, b, rfl, hV, rfl, rfl, Nat.zero_le _, Nat.le_refl _, fun z h _ => absurd h (by omega), fun z hz => (by rw [List.getElem?_eq_none (by omega)] at hz; cases hz), H0.out⟩
  case round =>
    clear H0
    obtain ⟨p, q, i, j, hpi, hqj, rfl, rfl, hpq, hqV, hlo, hhi, R⟩ := hrel
    by_cases hij : i < j
    · have hijI : (i : Int) < (j : Int) := by omega
      obtain ⟨h, hh, hw1, hw2, hw3, hw4⟩ := half_any (i := i) (j := j) (by omega)
      obtain ⟨ij, hijn⟩ : ∃ ij, i + j = ij := ⟨_, rfl⟩
      rw [hijn] at hh hw1 hw2 hw3
      obtain ⟨r, hr⟩ : ∃ r, m + r = h := ⟨h - m, by omega⟩
      obtain ⟨z, hz⟩ : ∃ z, V[r]? = some z := ⟨_, List.getElem?_eq_getElem (by omega)⟩
      have hX := at_runV (P := P) (U := [u]) (Q := Q) HP.out (by simp; exact hU) hz
      have hY := at_runU (P := P) (U := [u]) (V := V) (Q := Q) (q := 0) (x := u) HP.out rfl
      rw [hr] at hX
      rw [Nat.add_zero] at hY
      obtain ⟨x0, x1, x2⟩ := R.cells hX
      obtain ⟨y0, y1, y2⟩ := R.cells hY
      have i1 : (h : Int) < (n : Int) := by omega
      have i2 : (a : Int) < (n : Int) := by omega
      have hih : i ≤ h := by omega
      have hhj : h < j := by omega
      have hwh : IntKind.i64.wrap ((h : Int) + 1) = ((h + 1 : Nat) : Int) := by rw [IntKind.wrap_i64]; omega
      have HR := Lib.hid (fun (W : World) (hB : Below wr.heap.size wr W) => R.below hB)
      cases hb : lnB z u with
      | true =>
        have HN := Lib.hid (show (∀ z, 0 < r + 1 → V[r + 1 - 1]? = some z → lnB z u = true) from fun z' _ hz' => by rw [show r + 1 - 1 = r by omega, hz] at hz'; injection hz' with hz'; rw [← hz']; exact hb)
        have HI := Lib.hid hhi
        have hb1 : r + 1 ≤ q := by omega
        clear R hX hY hz hlo hhi hijn hh
        go_wp2
        go_region_held3 (fun W => W.cell? ⟨g, h * 3, none⟩ = some (.string z.1) ∧ W.cell? ⟨g, h * 3 + 1, none⟩ = some (.int .u64 z.2.1) ∧ W.cell? ⟨g, h * 3 + 2, none⟩ = some (.int .u64 z.2.2) ∧ W.cell? ⟨g, a * 3, none⟩ = some (.string u.1) ∧ W.cell? ⟨g, a * 3 + 1, none⟩ = some (.int .u64 u.2.1) ∧ W.cell? ⟨g, a * 3 + 2, none⟩ = some (.int .u64 u.2.2)) (first | exact ⟨x0, x1, x2, y0, y1, y2⟩ | exact ⟨(cellB x0 hb5).1, (cellB x1 hb5).1, (cellB x2 hb5).1, (cellB y0 hb5).1, (cellB y1 hb5).1, (cellB y2 hb5).1⟩) (first | (go_at_call 29; refine (compareL_any z u _).mono ?_; rintro e w5 ⟨v, rfl, hv, h5⟩; rw [hb] at hv; have hb5 := below_then (bdM wr) h5))
        all_goals
          have HR5 := Lib.hid (HR.out _ hb5)
          clear HR x0 x1 x2 y0 y1 y2 h5 hb5
          go_wp2
          go_roundw
          case rel => exact ⟨r + 1, q, h + 1, j, by omega, hqj, by go_num, rfl, hb1, hqV, HN.out, HI.out, HR5.out⟩
          case measure => (simp [intOf] <;> omega)
      | false =>
        have HN := Lib.hid hlo
        have HI := Lib.hid (show (∀ z, V[r]? = some z → lnB z u = false) from fun z' hz' => by rw [hz] at hz'; injection hz' with hz'; rw [← hz']; exact hb)
        have hb1 : p ≤ r := by omega
        clear R hX hY hz hlo hhi hijn hh
        go_wp2
        go_region_held3 (fun W => W.cell? ⟨g, h * 3, none⟩ = some (.string z.1) ∧ W.cell? ⟨g, h * 3 + 1, none⟩ = some (.int .u64 z.2.1) ∧ W.cell? ⟨g, h * 3 + 2, none⟩ = some (.int .u64 z.2.2) ∧ W.cell? ⟨g, a * 3, none⟩ = some (.string u.1) ∧ W.cell? ⟨g, a * 3 + 1, none⟩ = some (.int .u64 u.2.1) ∧ W.cell? ⟨g, a * 3 + 2, none⟩ = some (.int .u64 u.2.2)) (first | exact ⟨x0, x1, x2, y0, y1, y2⟩ | exact ⟨(cellB x0 hb5).1, (cellB x1 hb5).1, (cellB x2 hb5).1, (cellB y0 hb5).1, (cellB y1 hb5).1, (cellB y2 hb5).1⟩) (first | (go_at_call 29; refine (compareL_any z u _).mono ?_; rintro e w5 ⟨v, rfl, hv, h5⟩; rw [hb] at hv; have hb5 := below_then (bdM wr) h5))
        all_goals
          have HR5 := Lib.hid (HR.out _ hb5)
          clear HR x0 x1 x2 y0 y1 y2 h5 hb5
          go_wp2
          go_roundw
          case rel => exact ⟨p, r, i, h, hpi, hr, rfl, rfl, hb1, by omega, HN.out, HI.out, HR5.out⟩
          case measure => (simp [intOf] <;> omega)
    · have hijI : ¬ (i : Int) < (j : Int) := by omega
      obtain rfl : p = q := by omega
      have HM := Lib.hid (mgL_one (u := u) sV hqV hlo hhi)
      have HV0 := Lib.hid (show MvL w g n c P V Q u 0 wr from ⟨R⟩)
      have hw5 : IntKind.i64.wrap ((i : Int) - 1) = ((i - 1 : Nat) : Int) := by rw [IntKind.wrap_i64]; omega
      obtain ⟨t, ht⟩ : ∃ t, i - 1 = t := ⟨_, rfl⟩
      rw [ht] at hw5
      clear R hlo hhi
      go_wp2
      go_loopw [13] (fun kv wr => ∃ j' k : Nat, a + j' = k ∧ j' ≤ p ∧ kv = .int .i64 (k : Int) ∧ MvL w g n c P V Q u j' wr) (fun kv _ => t - (intOf kv).toNat)
      case atStart => exact ⟨0, a, rfl, Nat.zero_le _, rfl, HV0.out⟩
      case round =>
        clear HV0
        obtain ⟨j', k, hk, hj', rfl, R⟩ := hrel
        by_cases hkt : k < t
        · have hkI : (k : Int) < (t : Int) := by omega
          obtain ⟨v, hv⟩ : ∃ v, V[j']? = some v := ⟨_, List.getElem?_eq_getElem (by omega)⟩
          have hX := R.here HP.out (by omega)
          have hY := R.next HP.out hv
          rw [hk] at hX hY
          obtain ⟨k', hk'⟩ : ∃ k', k + 1 = k' := ⟨_, rfl⟩
          have hwk : IntKind.i64.wrap ((k : Int) + 1) = (k' : Int) := by rw [IntKind.wrap_i64]; omega
          rw [hk'] at hY
          obtain ⟨x0, x1, x2⟩ := R.row.cells hX
          obtain ⟨y0, y1, y2⟩ := R.row.cells hY
          have f0 := R.row.free (k * 3)
          have f1 := R.row.free (k * 3 + 1)
          have f2 := R.row.free (k * 3 + 2)
          have f3 := R.row.free (k' * 3)
          have f4 := R.row.free (k' * 3 + 1)
          have f5 := R.row.free (k' * 3 + 2)
          have i1 : (k : Int) < (n : Int) := by omega
          have i2 : (k' : Int) < (n : Int) := by omega
          have hkk : k < k' := by omega
          have HZ := Lib.hid (R.up HP.out hv (by rw [hk, hk']; exact (R.row.swap hX hY (by omega)).drewN 1))
          clear R hX hY hv
          go_wp2
          go_region
          all_goals
            go_wp2
            go_roundw
            case rel => exact ⟨j' + 1, k', by omega, by omega, by go_num, HZ.out⟩
            case measure => (simp [intOf] <;> omega)
        · have hkI : ¬ (k : Int) < (t : Int) := by omega
          obtain rfl : j' = p := by omega
          have HE := Lib.hid (show MgO w g n c P [u] V Q wr from ⟨_, HM.out, R.row⟩)
          clear R
          go_wp2
          exact bodyPost_ret (v := .tuple #[]) (by simp [results, Try.results37, go_sem]) rfl ⟨rfl, HE.out⟩
end Go.Proofs.Ytbdafhephmoedaa
