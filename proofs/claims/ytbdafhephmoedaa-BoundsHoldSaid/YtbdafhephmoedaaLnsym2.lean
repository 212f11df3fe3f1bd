/- A row of lines: a line behind a sorted run is merged into it. Conditions: none beyond those typed. -/
import Derived.Test.YtbdafhephmoedaaLnsym
namespace Go.Proofs.Ytbdafhephmoedaa
open Go.ChangeShapes Go.WideShapes Go.ChangeAt Go.RowKit
set_option linter.unusedVariables false
set_option linter.unusedSimpArgs false
set_option maxRecDepth 100000

set_option maxHeartbeats 8000000 in
theorem symLast_any {w : World} {g n c a m b : Nat} {P U Q : List En} {u : En} (hO : OwnK kLn w (.slice (some ⟨g, 0, none⟩) n c) (P ++ (U ++ [u]) ++ Q)) (hP : P.length = a) (hU : a + U.length = m) (hV : m + 1 = b) (h2 : 2 ≤ U.length) (sU : SrtL U) (hn : n ≤ 1000000) :
    Calls Try.prog 37 #[.slice (some ⟨g, 0, none⟩) n c, .int .i64 (a : Int), .int .i64 (m : Int), .int .i64 (b : Int), .func (.func 29) #[] #[]] w
      fun e w' => e = .returned (.tuple #[]) ∧ MgO w g n c P U [u] Q w' := by
  have H0 := Lib.hid (RwL.start hO)
  have hlen := (RwL.start hO).len
  simp only [List.length_append, List.length_cons, List.length_nil] at hlen
  have HP := Lib.hid hP
  have hbn : b ≤ n := by omega
  have hwa : IntKind.i64.wrap ((m : Int) - (a : Int)) = ((m - a : Nat) : Int) := by rw [IntKind.wrap_i64]; omega
  have hg1 : (((m - a : Nat) : Int) == 1) = false := beq_false_of_ne (by omega)
  obtain ⟨ma, hma⟩ : ∃ ma, m - a = ma := ⟨_, rfl⟩
  rw [hma] at hwa hg1
  have hwb : IntKind.i64.wrap ((b : Int) - (m : Int)) = 1 := by rw [IntKind.wrap_i64]; omega
  clear hO hP
  go_enter Try.func37, Try.ntmps37
  go_wp2
  go_loopw [14, 15] (fun iv jv wr => ∃ p q i j : Nat, a + p = i ∧ a + q = j ∧ iv = .int .i64 (i : Int) ∧ jv = .int .i64 (j : Int) ∧ p ≤ q ∧ q ≤ U.length ∧ (∀ z, 0 < p → U[p - 1]? = some z → lnB u z = false) ∧ (∀ z, U[q]? = some z → lnB u z = true) ∧ RwL w g n c (P ++ (U ++ [u]) ++ Q) wr) (fun iv jv _ => (intOf jv).toNat - (intOf iv).toNat)
  case atStart => exact ⟨0, U.length, a, m, rfl, hU, rfl, rfl, Nat.zero_le _, Nat.le_refl _, fun z h _ => absurd h (by omega), fun z hz => (by rw [List.getElem?_eq_none (by omega)] at hz; cases hz), H0.out⟩
  case round =>
    clear H0
    obtain ⟨p, q, i, j, hpi, hqj, rfl, rfl, hpq, hqV, hlo, hhi, R⟩ := hrel
    by_cases hij : i < j
    · have hijI : (i : Int) < (j : Int) := by omega
      obtain ⟨h, hh, hw1, hw2, hw3, hw4⟩ := half_any (i := i) (j := j) (by omega)
      obtain ⟨ij, hijn⟩ : ∃ ij, i + j = ij := ⟨_, rfl⟩
      rw [hijn] at hh hw1 hw2 hw3
      obtain ⟨r, hr⟩ : ∃ r, a + r = h := ⟨h - a, by omega⟩
      obtain ⟨z, hz⟩ : ∃ z, U[r]? = some z := ⟨_, List.getElem?_eq_getElem (by omega)⟩
      have hX := at_runU (P := P) (V := [u]) (Q := Q) HP.out hz
      have hY := at_runV (P := P) (U := U) (V := [u]) (Q := Q) (q := 0) (x := u) HP.out hU rfl
      rw [hr] at hX
      rw [Nat.add_zero] at hY
      obtain ⟨x0, x1, x2⟩ := R.cells hX
      obtain ⟨y0, y1, y2⟩ := R.cells hY
      have i1 : (h : Int) < (n : Int) := by omega
      have i2 : (m : Int) < (n : Int) := by omega
      have hih : i ≤ h := by omega
      have hhj : h < j := by omega
      have hwh : IntKind.i64.wrap ((h : Int) + 1) = ((h + 1 : Nat) : Int) := by rw [IntKind.wrap_i64]; omega
      have HR := Lib.hid (fun (W : World) (hB : Below wr.heap.size wr W) => R.below hB)
      cases hb : lnB u z with
      | false =>
        have HN := Lib.hid (show (∀ z, 0 < r + 1 → U[r + 1 - 1]? = some z → lnB u z = false) from fun z' _ hz' => by rw [show r + 1 - 1 = r by omega, hz] at hz'; injection hz' with hz'; rw [← hz']; exact hb)
        have HI := Lib.hid hhi
        have hb1 : r + 1 ≤ q := by omega
        clear R hX hY hz hlo hhi hijn hh
        go_wp2
        go_region_held3 (fun W => W.cell? ⟨g, h * 3, none⟩ = some (.string z.1) ∧ W.cell? ⟨g, h * 3 + 1, none⟩ = some (.int .u64 z.2.1) ∧ W.cell? ⟨g, h * 3 + 2, none⟩ = some (.int .u64 z.2.2) ∧ W.cell? ⟨g, m * 3, none⟩ = some (.string u.1) ∧ W.cell? ⟨g, m * 3 + 1, none⟩ = some (.int .u64 u.2.1) ∧ W.cell? ⟨g, m * 3 + 2, none⟩ = some (.int .u64 u.2.2)) (first | exact ⟨x0, x1, x2, y0, y1, y2⟩ | exact ⟨(cellB x0 hb5).1, (cellB x1 hb5).1, (cellB x2 hb5).1, (cellB y0 hb5).1, (cellB y1 hb5).1, (cellB y2 hb5).1⟩) (first | (go_at_call 29; refine (compareL_any u z _).mono ?_; rintro e w5 ⟨v, rfl, hv, h5⟩; rw [hb] at hv; have hb5 := below_then (bdM wr) h5))
        all_goals
          have HR5 := Lib.hid (HR.out _ hb5)
          clear HR x0 x1 x2 y0 y1 y2 h5 hb5
          go_wp2
          go_roundw
          case rel => exact ⟨r + 1, q, h + 1, j, by omega, hqj, by go_num, rfl, hb1, hqV, HN.out, HI.out, HR5.out⟩
          case measure => (simp [intOf] <;> omega)
      | true =>
        have HN := Lib.hid hlo
        have HI := Lib.hid (show (∀ z, U[r]? = some z → lnB u z = true) from fun z' hz' => by rw [hz] at hz'; injection hz' with hz'; rw [← hz']; exact hb)
        have hb1 : p ≤ r := by omega
        clear R hX hY hz hlo hhi hijn hh
        go_wp2
        go_region_held3 (fun W => W.cell? ⟨g, h * 3, none⟩ = some (.string z.1) ∧ W.cell? ⟨g, h * 3 + 1, none⟩ = some (.int .u64 z.2.1) ∧ W.cell? ⟨g, h * 3 + 2, none⟩ = some (.int .u64 z.2.2) ∧ W.cell? ⟨g, m * 3, none⟩ = some (.string u.1) ∧ W.cell? ⟨g, m * 3 + 1, none⟩ = some (.int .u64 u.2.1) ∧ W.cell? ⟨g, m * 3 + 2, none⟩ = some (.int .u64 u.2.2)) (first | exact ⟨x0, x1, x2, y0, y1, y2⟩ | exact ⟨(cellB x0 hb5).1, (cellB x1 hb5).1, (cellB x2 hb5).1, (cellB y0 hb5).1, (cellB y1 hb5).1, (cellB y2 hb5).1⟩) (first | (go_at_call 29; refine (compareL_any u z _).mono ?_; rintro e w5 ⟨v, rfl, hv, h5⟩; rw [hb] at hv; have hb5 := below_then (bdM wr) h5))
        all_goals
          have HR5 := Lib.hid (HR.out _ hb5)
          clear HR x0 x1 x2 y0 y1 y2 h5 hb5
          go_wp2
          go_roundw
          case rel => exact ⟨p, r, i, h, hpi, hr, rfl, rfl, hb1, by omega, HN.out, HI.out, HR5.out⟩
          case measure => (simp [intOf] <;> omega)
    · have hijI : ¬ (i : Int) < (j : Int) := by omega
      obtain rfl : p = q := by omega
      have HM := Lib.hid (mgL_last (u := u) sU hqV hlo hhi)
      have HV0 := Lib.hid (show MvL w g n c P U Q u U.length wr from ⟨by rw [midR_end]; exact R⟩)
      clear R hlo hhi
      go_wp2
      go_loopw [17] (fun kv wr => ∃ j' k : Nat, a + j' = k ∧ p ≤ j' ∧ j' ≤ U.length ∧ kv = .int .i64 (k : Int) ∧ MvL w g n c P U Q u j' wr) (fun kv _ => (intOf kv).toNat)
      case atStart => exact ⟨U.length, m, hU, hqV, Nat.le_refl _, rfl, HV0.out⟩
      case round =>
        clear HV0
        obtain ⟨j', k, hk, hj', hjU, rfl, R⟩ := hrel
        by_cases hkt : i < k
        · have hkI : (k : Int) > (i : Int) := by omega
          obtain ⟨j2, rfl⟩ : ∃ j2, j' = j2 + 1 := ⟨j' - 1, by omega⟩
          obtain ⟨v, hv⟩ : ∃ v, U[j2]? = some v := ⟨_, List.getElem?_eq_getElem (by omega)⟩
          have hX := R.here HP.out (by omega)
          have hY := R.prev HP.out hv
          rw [hk] at hX
          obtain ⟨k', hk'⟩ : ∃ k', a + j2 = k' := ⟨_, rfl⟩
          have hwk : IntKind.i64.wrap ((k : Int) - 1) = (k' : Int) := by rw [IntKind.wrap_i64]; omega
          rw [hk'] at hY
          obtain ⟨x0, x1, x2⟩ := R.row.cells hX
          obtain ⟨y0, y1, y2⟩ := R.row.cells hY
          have f0 := R.row.free (k * 3)
          have f1 := R.row.free (k * 3 + 1)
          have f2 := R.row.free (k * 3 + 2)
          have f3 := R.row.free (k' * 3)
          have f4 := R.row.free (k' * 3 + 1)
          have f5 := R.row.free (k' * 3 + 2)
          have i1 : (k : Int) < (n : Int) := by omega
          have i2 : (k' : Int) < (n : Int) := by omega
          have hkk : k' < k := by omega
          have HZ := Lib.hid (R.down HP.out hv (by rw [show a + j2 + 1 = k by omega, hk']; exact (R.row.swap hX hY (by omega)).drewN 1))
          clear R hX hY hv
          go_wp2
          go_region
          all_goals
            go_wp2
            go_roundw
            case rel => exact ⟨j2, k', hk', by omega, by omega, by go_num, HZ.out⟩
            case measure => (simp [intOf] <;> omega)
        · have hkI : ¬ (k : Int) > (i : Int) := by omega
          obtain rfl : j' = p := by omega
          have HE := Lib.hid (show MgO w g n c P U [u] Q wr from ⟨_, HM.out, R.row⟩)
          clear R
          go_wp2
          exact bodyPost_ret (v := .tuple #[]) (by simp [results, Try.results37, go_sem]) rfl ⟨rfl, HE.out⟩
end Go.Proofs.Ytbdafhephmoedaa
