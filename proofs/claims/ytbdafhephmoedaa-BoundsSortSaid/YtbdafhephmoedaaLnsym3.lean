/- A row of lines: two neighbouring sorted runs are merged in place. Conditions: none beyond those typed. -/
import Derived.Test.YtbdafhephmoedaaLnsym2
namespace Go.Proofs.Ytbdafhephmoedaa
open Go.ChangeShapes Go.WideShapes Go.ChangeAt Go.RowKit
set_option linter.unusedVariables false
set_option linter.unusedSimpArgs false
set_option maxRecDepth 100000

/-- Between which places the cut is sought. -/
structure LoHi (a m b d lo hi : Nat) : Prop where
  l0 : a ≤ lo
  l1 : lo ≤ hi
  l2 : hi ≤ m
  l3 : hi ≤ d
  l4 : d + m - lo ≤ b
  l5 : lo = a ∨ d + m - lo = b
  l6 : hi = m ∨ hi = d
/-- What is known of the cut by the search. -/
structure SeekL (a m d lo hi : Nat) (U V : List En) (s r : Nat) : Prop where
  h0 : lo ≤ s
  h1 : s ≤ r
  h2 : r ≤ hi
  low : s = lo ∨ ∀ x z, U[s - 1 - a]? = some x → V[d - s]? = some z → lnB z x = false
  top : r = hi ∨ ∀ x z, U[r - a]? = some x → V[d - 1 - r]? = some z → lnB z x = true
section
variable {a m b d lo hi s : Nat} {U V : List En}
theorem SeekL.cut (h : SeekL a m d lo hi U V s s) (hl : LoHi a m b d lo hi) (hU : a + U.length = m) (hV : m + V.length = b) : CutL U V (s - a) (d - s) := by
  obtain ⟨h0, _, h2, low, top⟩ := h
  obtain ⟨l0, l1, l2, l3, l4, l5, l6⟩ := hl
  refine ⟨by omega, by omega, fun x z hp hx hz => ?_, fun x z hp hx hz => ?_⟩
  · have hzl := (List.getElem?_eq_some_iff.1 hz).1
    rcases low with e | low
    · exfalso; omega
    · exact low x z (by rw [show s - 1 - a = s - a - 1 by omega]; exact hx) hz
  · have hxl := (List.getElem?_eq_some_iff.1 hx).1
    rcases top with e | top
    · exfalso; omega
    · exact top x z hx (by rw [show d - 1 - s = d - s - 1 by omega]; exact hz)
end
/-- What a merge of shorter runs does. -/
def SymIH (N : Nat) : Prop := ∀ {w : World} {g n c a m b : Nat} {P U V Q : List En}, U.length + V.length < N → OwnK kLn w (.slice (some ⟨g, 0, none⟩) n c) (P ++ (U ++ V) ++ Q) → P.length = a → a + U.length = m → m + V.length = b → 0 < U.length → 0 < V.length → SrtL U → SrtL V → n ≤ 1000000 →
    Calls Try.prog 37 #[.slice (some ⟨g, 0, none⟩) n c, .int .i64 (a : Int), .int .i64 (m : Int), .int .i64 (b : Int), .func (.func 29) #[] #[]] w
      fun e w' => e = .returned (.tuple #[]) ∧ MgO w g n c P U V Q w'
theorem MgO.none {w W : World} {g n c : Nat} {P U V Q : List En} (hR : RwL w g n c (P ++ (U ++ V) ++ Q) W) (hU : SrtL U) (hV : SrtL V) (h : U.length = 0 ∨ V.length = 0) : MgO w g n c P U V Q W := ⟨_, mgL_none hU hV h, hR⟩
theorem MgO.then_ {w W W' : World} {g n c : Nat} {P U V Q L : List En} (h : RwL w g n c L W) (h' : MgO W g n c P U V Q W') : MgO w g n c P U V Q W' := by
  obtain ⟨S, h1, h2⟩ := h'
  exact ⟨S, h1, h.then_ h2⟩
/-- The rotation: from two runs to two halves. -/
theorem halves {P U V Q : List En} (i j : Nat) : P ++ (U ++ V) ++ Q = (P ++ U.take i) ++ U.drop i ++ V.take j ++ (V.drop j ++ Q) := by
  conv => lhs; rw [← List.take_append_drop i U, ← List.take_append_drop j V]
  simp only [List.append_assoc]
theorem halves2 {P U V Q : List En} (i j : Nat) : (P ++ U.take i) ++ V.take j ++ U.drop i ++ (V.drop j ++ Q) = P ++ (U.take i ++ V.take j) ++ ((U.drop i ++ V.drop j) ++ Q) := by simp only [List.append_assoc]
/-- Where no rotation is needed, the halves lie so. -/
theorem halves3 {P U V Q : List En} {i j : Nat} (h : U.length ≤ i ∨ j = 0) : P ++ (U ++ V) ++ Q = P ++ (U.take i ++ V.take j) ++ ((U.drop i ++ V.drop j) ++ Q) := by
  rcases h with h | h
  · rw [List.take_of_length_le h, List.drop_of_length_le h, List.nil_append]
    simp only [List.append_assoc]
    rw [← List.append_assoc (V.take j), List.take_append_drop]
  · subst h
    rw [List.take_zero, List.drop_zero, List.append_nil]
    simp only [List.append_assoc]
    rw [← List.append_assoc (U.take i), List.take_append_drop]
set_option maxHeartbeats 16000000 in
theorem symMore_any {w : World} {g n c a m b : Nat} {P U V Q : List En} (IH : SymIH (U.length + V.length)) (hO : OwnK kLn w (.slice (some ⟨g, 0, none⟩) n c) (P ++ (U ++ V) ++ Q)) (hP : P.length = a) (hU : a + U.length = m) (hV : m + V.length = b) (hU2 : 2 ≤ U.length) (hV2 : 2 ≤ V.length) (sU : SrtL U) (sV : SrtL V) (hn : n ≤ 1000000) :
    Calls Try.prog 37 #[.slice (some ⟨g, 0, none⟩) n c, .int .i64 (a : Int), .int .i64 (m : Int), .int .i64 (b : Int), .func (.func 29) #[] #[]] w
      fun e w' => e = .returned (.tuple #[]) ∧ MgO w g n c P U V Q w' := by
  have H0 := Lib.hid (RwL.start hO)
  have hlen := (RwL.start hO).len
  simp only [List.length_append] at hlen
  have HP := Lib.hid hP
  have hbn : b ≤ n := by omega
  have hwa : IntKind.i64.wrap ((m : Int) - (a : Int)) = ((m - a : Nat) : Int) := by rw [IntKind.wrap_i64]; omega
  have hg1 : (((m - a : Nat) : Int) == 1) = false := beq_false_of_ne (by omega)
  obtain ⟨ma, hma⟩ : ∃ ma, m - a = ma := ⟨_, rfl⟩
  rw [hma] at hwa hg1
  have hwb : IntKind.i64.wrap ((b : Int) - (m : Int)) = ((b - m : Nat) : Int) := by rw [IntKind.wrap_i64]; omega
  have hg2 : (((b - m : Nat) : Int) == 1) = false := beq_false_of_ne (by omega)
  obtain ⟨bm, hbm⟩ : ∃ bm, b - m = bm := ⟨_, rfl⟩
  rw [hbm] at hwb hg2
  obtain ⟨d, hd, hw1, hw2, hw3, hw4⟩ := half_any (i := a) (j := b) (by omega)
  obtain ⟨ab, hab⟩ : ∃ ab, a + b = ab := ⟨_, rfl⟩
  rw [hab] at hd hw1 hw2 hw3
  obtain ⟨N, hN⟩ : ∃ N, d + m = N := ⟨_, rfl⟩
  have hwN : IntKind.i64.wrap ((d : Int) + (m : Int)) = (N : Int) := by rw [IntKind.wrap_i64]; omega
  have hd1 : a + 1 ≤ d := by omega
  have hd2 : d + 1 ≤ b := by omega
  have hd3 : 2 * d ≤ a + b := by omega
  have hd4 : a + b ≤ 2 * d + 1 := by omega
  have hlenH := Lib.hid hlen
  clear hO hP hab hd hlen
  go_enter Try.func37, Try.ntmps37
  go_upto_if 140 with fail
  go_cut [20, 21] from 138 (fun sv rv wx => ∃ lo hi : Nat, sv = .int .i64 (lo : Int) ∧ rv = .int .i64 (hi : Int) ∧ LoHi a m b d lo hi ∧ wx = w)
  case first =>
    by_cases hmd : d < m
    · have hmI : (m : Int) > (d : Int) := by omega
      have hwl : IntKind.i64.wrap ((N : Int) - (b : Int)) = ((N - b : Nat) : Int) := by rw [IntKind.wrap_i64]; omega
      go_wp2
      go_meet
      exact ⟨N - b, d, rfl, rfl, ⟨by omega, by omega, by omega, by omega, by omega, by omega, by omega⟩, rfl⟩
    · have hmI : ¬ (m : Int) > (d : Int) := by omega
      go_wp2
      go_meet
      exact ⟨a, m, rfl, rfl, ⟨by omega, by omega, by omega, by omega, by omega, by omega, by omega⟩, rfl⟩
  case rest =>
    obtain ⟨lo, hi, rfl, rfl, hlh, hwc0⟩ := hcut
    subst hwc0
    rename World => w0
    have HL := Lib.hid hlh
    obtain ⟨l0, l1, l2, l3, l4, _, _⟩ := hlh
    have hwp : IntKind.i64.wrap ((N : Int) - 1) = ((N - 1 : Nat) : Int) := by rw [IntKind.wrap_i64]; omega
    obtain ⟨p, hp⟩ : ∃ p, N - 1 = p := ⟨_, rfl⟩
    rw [hp] at hwp
    go_wp2
    go_loopw [20, 21] (fun sv rv wr => ∃ s r : Nat, sv = .int .i64 (s : Int) ∧ rv = .int .i64 (r : Int) ∧ SeekL a m d lo hi U V s r ∧ RwL w0 g n c (P ++ (U ++ V) ++ Q) wr) (fun sv rv _ => (intOf rv).toNat - (intOf sv).toNat)
    case atStart => exact ⟨lo, hi, rfl, rfl, ⟨Nat.le_refl _, l1, Nat.le_refl _, .inl rfl, .inl rfl⟩, H0.out⟩
    case round =>
      clear H0
      obtain ⟨s, r, rfl, rfl, S, R⟩ := hrel
      have s0 := S.h0
      have s1 := S.h1
      have s2 := S.h2
      by_cases hsr : s < r
      · have hsI : (s : Int) < (r : Int) := by omega
        obtain ⟨x, hx2, hw1, hw2, hw3, hw4⟩ := half_any (i := s) (j := r) (by omega)
        obtain ⟨sr, hsrn⟩ : ∃ sr, s + r = sr := ⟨_, rfl⟩
        rw [hsrn] at hx2 hw1 hw2 hw3
        have hxs : s ≤ x := by omega
        have hxr : x < r := by omega
        obtain ⟨q, hq⟩ : ∃ q, p - x = q := ⟨_, rfl⟩
        have hwq : IntKind.i64.wrap ((p : Int) - (x : Int)) = (q : Int) := by rw [IntKind.wrap_i64]; omega
        have hwx : IntKind.i64.wrap ((x : Int) + 1) = ((x + 1 : Nat) : Int) := by rw [IntKind.wrap_i64]; omega
        obtain ⟨u, hu⟩ : ∃ u, U[x - a]? = some u := ⟨_, List.getElem?_eq_getElem (by omega)⟩
        obtain ⟨v, hv⟩ : ∃ v, V[d - 1 - x]? = some v := ⟨_, List.getElem?_eq_getElem (by omega)⟩
        have hY := at_runU (P := P) (V := V) (Q := Q) HP.out hu
        have hX := at_runV (P := P) (U := U) (Q := Q) HP.out hU hv
        rw [show a + (x - a) = x by omega] at hY
        rw [show m + (d - 1 - x) = q by omega] at hX
        obtain ⟨x0, x1, x2⟩ := R.cells hX
        obtain ⟨y0, y1, y2⟩ := R.cells hY
        have i1 : (x : Int) < (n : Int) := by omega
        have i2 : (q : Int) < (n : Int) := by omega
        have HR := Lib.hid (fun (W : World) (hB : Below wr.heap.size wr W) => R.below hB)
        cases hb : lnB v u with
        | false =>
          have HS : SeekL a m d lo hi U V (x + 1) r := ⟨by omega, by omega, s2, .inr fun x' z' h1 h2 => by
            rw [show x + 1 - 1 - a = x - a by omega, hu] at h1
            rw [show d - (x + 1) = d - 1 - x by omega, hv] at h2
            injection h1 with h1; injection h2 with h2
            rw [← h1, ← h2]; exact hb, S.top⟩
          have HS2 := Lib.hid HS
          clear R hX hY hu hv S HS hsrn hx2
          go_wp2
          go_region_held3 (fun W => W.cell? ⟨g, q * 3, none⟩ = some (.string v.1) ∧ W.cell? ⟨g, q * 3 + 1, none⟩ = some (.int .u64 v.2.1) ∧ W.cell? ⟨g, q * 3 + 2, none⟩ = some (.int .u64 v.2.2) ∧ W.cell? ⟨g, x * 3, none⟩ = some (.string u.1) ∧ W.cell? ⟨g, x * 3 + 1, none⟩ = some (.int .u64 u.2.1) ∧ W.cell? ⟨g, x * 3 + 2, none⟩ = some (.int .u64 u.2.2)) (first | exact ⟨x0, x1, x2, y0, y1, y2⟩ | exact ⟨(cellB x0 hb5).1, (cellB x1 hb5).1, (cellB x2 hb5).1, (cellB y0 hb5).1, (cellB y1 hb5).1, (cellB y2 hb5).1⟩) (first | (go_at_call 29; refine (compareL_any v u _).mono ?_; rintro e w5 ⟨z, rfl, hz, h5⟩; rw [hb] at hz; have hb5 := below_then (bdM wr) h5))
          all_goals
            have HR5 := Lib.hid (HR.out _ hb5)
            clear HR x0 x1 x2 y0 y1 y2 h5 hb5
            go_wp2
            go_roundw
            case rel => exact ⟨x + 1, r, by go_num, rfl, HS2.out, HR5.out⟩
            case measure => (simp [intOf] <;> omega)
        | true =>
          have HS : SeekL a m d lo hi U V s x := ⟨s0, hxs, by omega, S.low, .inr fun x' z' h1 h2 => by
            rw [hu] at h1
            rw [hv] at h2
            injection h1 with h1; injection h2 with h2
            rw [← h1, ← h2]; exact hb⟩
          have HS2 := Lib.hid HS
          clear R hX hY hu hv S HS hsrn hx2
          go_wp2
          go_region_held3 (fun W => W.cell? ⟨g, q * 3, none⟩ = some (.string v.1) ∧ W.cell? ⟨g, q * 3 + 1, none⟩ = some (.int .u64 v.2.1) ∧ W.cell? ⟨g, q * 3 + 2, none⟩ = some (.int .u64 v.2.2) ∧ W.cell? ⟨g, x * 3, none⟩ = some (.string u.1) ∧ W.cell? ⟨g, x * 3 + 1, none⟩ = some (.int .u64 u.2.1) ∧ W.cell? ⟨g, x * 3 + 2, none⟩ = some (.int .u64 u.2.2)) (first | exact ⟨x0, x1, x2, y0, y1, y2⟩ | exact ⟨(cellB x0 hb5).1, (cellB x1 hb5).1, (cellB x2 hb5).1, (cellB y0 hb5).1, (cellB y1 hb5).1, (cellB y2 hb5).1⟩) (first | (go_at_call 29; refine (compareL_any v u _).mono ?_; rintro e w5 ⟨z, rfl, hz, h5⟩; rw [hb] at hz; have hb5 := below_then (bdM wr) h5))
          all_goals
            have HR5 := Lib.hid (HR.out _ hb5)
            clear HR x0 x1 x2 y0 y1 y2 h5 hb5
            go_wp2
            go_roundw
            case rel => exact ⟨s, x, rfl, rfl, HS2.out, HR5.out⟩
            case measure => (simp [intOf] <;> omega)
      · have hsI : ¬ (s : Int) < (r : Int) := by omega
        obtain rfl : s = r := by omega
        have hC := S.cut HL.out hU hV
        obtain ⟨e, he⟩ : ∃ e, N - s = e := ⟨_, rfl⟩
        have hwe : IntKind.i64.wrap ((N : Int) - (s : Int)) = (e : Int) := by rw [IntKind.wrap_i64]; omega
        have hme : m ≤ e := by omega
        have heb : e ≤ b := by omega
        have hes : e + s = d + m := by omega
        have lU1 : (U.take (s - a)).length = s - a := by rw [List.length_take]; omega
        have lU2 : (U.drop (s - a)).length = m - s := by rw [List.length_drop]; omega
        have lV1 : (V.take (d - s)).length = d - s := by rw [List.length_take]; omega
        have lV2 : (V.drop (d - s)).length = b - e := by rw [List.length_drop]; omega
        have sU1 := srtL_take sU (s - a)
        have sU2 := srtL_drop sU (s - a)
        have sV1 := srtL_take sV (d - s)
        have sV2 := srtL_drop sV (d - s)
        have HC := Lib.hid (fun S1 S2 (h1 : MgL (U.take (s - a) ++ V.take (d - s)) S1) (h2 : MgL (U.drop (s - a) ++ V.drop (d - s)) S2) => hC.merged sU sV h1 h2)
        have hR1 : RwL w0 g n c ((P ++ U.take (s - a)) ++ U.drop (s - a) ++ V.take (d - s) ++ (V.drop (d - s) ++ Q)) wr := by rw [← halves]; exact R
        have hR0 := Lib.hid (fun h : U.length ≤ s - a ∨ d - s = 0 => show RwL w0 g n c (P ++ (U.take (s - a) ++ V.take (d - s)) ++ ((U.drop (s - a) ++ V.drop (d - s)) ++ Q)) wr from by rw [← halves3 h]; exact R)
        have hRo := rotate_any (a := s) (m := m) (b := e) (f := .func (.func 29) #[] #[]) hR1.own (by rw [List.length_append, HP.out, lU1]; omega) (by rw [lU2]; omega) (by rw [lV1]; omega)
        have HRo := Lib.hid (fun (h1 : s < m) (h2 : m < e) => hRo (by rw [lU2]; omega) (by rw [lV1]; omega) hn)
        have hR2 := Lib.hid (fun (W : World) (h : RwL wr g n c ((P ++ U.take (s - a)) ++ V.take (d - s) ++ U.drop (s - a) ++ (V.drop (d - s) ++ Q)) W) => show RwL w0 g n c (P ++ (U.take (s - a) ++ V.take (d - s)) ++ ((U.drop (s - a) ++ V.drop (d - s)) ++ Q)) W from by rw [← halves2]; exact hR1.then_ h)
        have hUl : U.length = m - a := by omega
        have hVl : V.length = b - m := by omega
        generalize hU1 : U.take (s - a) = U1 at *
        generalize hU2' : U.drop (s - a) = U2 at *
        generalize hV1 : V.take (d - s) = V1 at *
        generalize hV2' : V.drop (d - s) = V2 at *
        clear R S hC hRo hR1 he
        go_upto_region 39 with fail
        go_cut [185] from 178 to 184 (fun bv wx => bv = .bool (decide (s < m ∧ m < e)) ∧ wx = wr)
        case first =>
          by_cases h1 : s < m
          · have h1I : (s : Int) < (m : Int) := by omega
            by_cases h2 : m < e
            · have h2I : (m : Int) < (e : Int) := by omega
              go_wp2
              go_meet
              exact ⟨by simp [h1, h2], rfl⟩
            · have h2I : ¬ (m : Int) < (e : Int) := by omega
              go_wp2
              go_meet
              exact ⟨by simp [h1, h2], rfl⟩
          · have h1I : ¬ (s : Int) < (m : Int) := by omega
            go_wp2
            go_meet
            exact ⟨by simp [h1], rfl⟩
        case rest =>
          obtain ⟨rfl, hwc⟩ := hcut
          subst hwc
          rename World => W3
          obtain ⟨b1, hb1⟩ : ∃ b1, decide (s < m ∧ m < e) = b1 := ⟨_, rfl⟩
          rw [hb1]
          go_upto_if 185 with fail
          go_cut [24] from 178 (fun ev wx => ev = .int .i64 (e : Int) ∧ RwL w0 g n c (P ++ (U1 ++ V1) ++ ((U2 ++ V2) ++ Q)) wx)
          case first =>
            cases b1 with
            | true =>
              have hc := of_decide_eq_true hb1
              have hRo := HRo.out hc.1 hc.2
              go_wp2_with fail
              refine hRo.mono ?_
              rintro e' w5 ⟨rfl, h5⟩
              have H5 := Lib.hid (hR2.out w5 h5)
              clear hRo h5
              go_wp2
              go_meet
              exact ⟨rfl, H5.out⟩
            | false =>
              have hc := of_decide_eq_false hb1
              have H5 := Lib.hid (hR0.out (by omega))
              go_wp2
              go_meet
              exact ⟨rfl, H5.out⟩
          case rest =>
            obtain ⟨rfl, R4⟩ := hcut
            rename World => W4
            have R4h := Lib.hid R4
            clear hb1 HRo hR0 hR2 R4
            go_upto_region 41 with fail
            go_cut [199] from 192 to 198 (fun bv wx => bv = .bool (decide (a < s ∧ s < d)) ∧ wx = W4)
            case first =>
              by_cases h1 : a < s
              · have h1I : (a : Int) < (s : Int) := by omega
                by_cases h2 : s < d
                · have h2I : (s : Int) < (d : Int) := by omega
                  go_wp2
                  go_meet
                  exact ⟨by simp [h1, h2], rfl⟩
                · have h2I : ¬ (s : Int) < (d : Int) := by omega
                  go_wp2
                  go_meet
                  exact ⟨by simp [h1, h2], rfl⟩
              · have h1I : ¬ (a : Int) < (s : Int) := by omega
                go_wp2
                go_meet
                exact ⟨by simp [h1], rfl⟩
            case rest =>
              obtain ⟨rfl, hwc⟩ := hcut
              subst hwc
              rename World => W5
              obtain ⟨b2, hb2⟩ : ∃ b2, decide (a < s ∧ s < d) = b2 := ⟨_, rfl⟩
              rw [hb2]
              go_upto_if 199 with fail
              go_cut [24] from 192 (fun ev wx => ev = .int .i64 (e : Int) ∧ MgO w0 g n c P U1 V1 ((U2 ++ V2) ++ Q) wx)
              case first =>
                cases b2 with
                | true =>
                  have hc := of_decide_eq_true hb2
                  have hI := IH (by omega) R4h.out.own HP.out (show a + U1.length = s by omega) (show s + V1.length = d by omega) (by omega) (by omega) sU1 sV1 hn
                  go_wp2_with fail
                  refine hI.mono ?_
                  rintro e' w5 ⟨rfl, h5⟩
                  have H5 := Lib.hid (MgO.then_ R4h.out h5)
                  clear hI h5
                  go_wp2
                  go_meet
                  exact ⟨rfl, H5.out⟩
                | false =>
                  have hc := of_decide_eq_false hb2
                  have H5 := Lib.hid (MgO.none R4h.out sU1 sV1 (by omega))
                  go_wp2
                  go_meet
                  exact ⟨rfl, H5.out⟩
              case rest =>
                obtain ⟨rfl, S1, hS1, R6⟩ := hcut
                rename World => W6
                have lS1 := hS1.sm.len
                rw [List.length_append] at lS1
                have R6' : RwL w0 g n c ((P ++ S1) ++ (U2 ++ V2) ++ Q) W6 := by rw [List.append_assoc (P ++ S1)]; exact R6
                have R6h := Lib.hid R6'
                have hP2 : (P ++ S1).length = d := by rw [List.length_append, HP.out]; omega
                have HP2 := Lib.hid hP2
                have hFin := Lib.hid (fun (W : World) (h : MgO w0 g n c (P ++ S1) U2 V2 Q W) => show MgO w0 g n c P U V Q W from by
                  obtain ⟨S2, h1, h2⟩ := h
                  exact ⟨S1 ++ S2, HC.out S1 S2 hS1 h1, by rw [← List.append_assoc P S1 S2]; exact h2⟩)
                clear hb2 R4h R6 R6' hP2 hS1
                go_upto_region 43 with fail
                go_cut [213] from 206 to 212 (fun bv wx => bv = .bool (decide (d < e ∧ e < b)) ∧ wx = W6)
                case first =>
                  by_cases h1 : d < e
                  · have h1I : (d : Int) < (e : Int) := by omega
                    by_cases h2 : e < b
                    · have h2I : (e : Int) < (b : Int) := by omega
                      go_wp2
                      go_meet
                      exact ⟨by simp [h1, h2], rfl⟩
                    · have h2I : ¬ (e : Int) < (b : Int) := by omega
                      go_wp2
                      go_meet
                      exact ⟨by simp [h1, h2], rfl⟩
                  · have h1I : ¬ (d : Int) < (e : Int) := by omega
                    go_wp2
                    go_meet
                    exact ⟨by simp [h1], rfl⟩
                case rest =>
                  obtain ⟨rfl, hwc⟩ := hcut
                  subst hwc
                  rename World => W7
                  obtain ⟨b3, hb3⟩ : ∃ b3, decide (d < e ∧ e < b) = b3 := ⟨_, rfl⟩
                  rw [hb3]
                  cases b3 with
                  | true =>
                    have hc := of_decide_eq_true hb3
                    have hI := IH (by omega) R6h.out.own HP2.out (show d + U2.length = e by omega) (show e + V2.length = b by omega) (by omega) (by omega) sU2 sV2 hn
                    go_wp2_with fail
                    refine hI.mono ?_
                    rintro e' w5 ⟨rfl, h5⟩
                    have H5 := Lib.hid (hFin.out w5 (MgO.then_ R6h.out h5))
                    clear hI h5
                    go_wp2
                    go_end0
                    exact ⟨rfl, H5.out⟩
                  | false =>
                    have hc := of_decide_eq_false hb3
                    have H5 := Lib.hid (hFin.out _ (MgO.none R6h.out sU2 sV2 (by omega)))
                    go_wp2
                    go_end0
                    exact ⟨rfl, H5.out⟩
/-- Two neighbouring sorted runs, of whatever lengths but none, are merged. -/
theorem symMerge_any : ∀ N : Nat, SymIH (N + 1) := by
  intro N
  induction N with
  | zero =>
    intro w g n c a m b P U V Q hl hO hP hU hV h1 h2 sU sV hn
    omega
  | succ N IH =>
    intro w g n c a m b P U V Q hl hO hP hU hV h1 h2 sU sV hn
    by_cases e1 : U.length = 1
    · obtain ⟨u, rfl⟩ := List.length_eq_one_iff.1 e1
      exact symOne_any hO hP hU hV sV hn
    by_cases e2 : V.length = 1
    · obtain ⟨v, rfl⟩ := List.length_eq_one_iff.1 e2
      exact symLast_any hO hP hU hV (by omega) sU hn
    refine symMore_any (fun hlt => IH (by omega)) hO hP hU hV (by omega) (by omega) sU sV hn
end Go.Proofs.Ytbdafhephmoedaa
