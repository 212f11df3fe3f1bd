/- The statements about package chain: ChainWalk. Conditions: the program's lists keep their contracts (ProgLi). -/
import Derived.Test.YtfbddcbbkfklnaaDoorCawake
import Derived.Test.YtfbddcbbkfklnaaDoorKmask
import Derived.Test.YtfbddcbbkfklnaaDoorTm
namespace Go.Proofs.YtfbddcbbkfklnaaDoor
open Go.ChangeShapes Go.WideShapes Go.ChangeAt Go.RowKit
set_option linter.unusedVariables false
set_option linter.unusedSimpArgs false
set_option maxRecDepth 100000

section
variable {m : CSt Int} {i : Nat} {p : Nat × Int}
/-- The node at a place, or -1; the one before it. -/
def atC (m : CSt Int) (i : Nat) : Int := match m.nodes[i]? with | some k => (k : Int) | none => -1
def preC (m : CSt Int) : Nat → Int
  | 0 => -1
  | i + 1 => atC m i
theorem atC_some (hp : m.l[i]? = some p) : atC m i = (p.1 : Int) := by unfold atC CSt.nodes; rw [List.getElem?_map, hp]; rfl
theorem atC_end (h : m.l.length ≤ i) : atC m i = -1 := by unfold atC; rw [List.getElem?_eq_none (by rw [nodes_len]; exact h)]
theorem atC_bd (G : GoodC m) (i : Nat) : -1 ≤ atC m i ∧ atC m i ≤ 8192 := by
  have h8 := G.n8
  rcases Nat.lt_or_ge i m.l.length with h | h
  · obtain ⟨p, hp⟩ : ∃ p, m.l[i]? = some p := ⟨_, List.getElem?_eq_getElem h⟩
    have := G.lt p.1 (List.mem_map.2 ⟨p, List.mem_of_getElem? hp, rfl⟩)
    rw [atC_some hp]; omega
  · rw [atC_end h]; omega
theorem value_at (G : GoodC m) (hp : m.l[i]? = some p) : m.value 0 (atC m i) = (p.2, 0) := by
  unfold CSt.value
  rw [atC_some hp, place_is G hp]
  simp [hp]
theorem next_at (G : GoodC m) (hp : m.l[i]? = some p) : m.by_ (atC m i) 1 = atC m (i + 1) := by
  have hi := (List.getElem?_eq_some_iff.1 hp).1
  unfold CSt.by_
  rw [atC_some hp, place_is G hp]
  show (if (i : Int) + 1 < 0 ∨ (m.l.length : Int) ≤ i + 1 then (-1 : Int) else ((m.nodes.getD ((i : Int) + 1).toNat 0 : Nat) : Int)) = _
  rcases Nat.lt_or_ge (i + 1) m.l.length with h | h
  · rw [if_neg (by omega), show ((i : Int) + 1).toNat = i + 1 by omega]
    obtain ⟨q, hq⟩ : ∃ q, m.l[i + 1]? = some q := ⟨_, List.getElem?_eq_getElem h⟩
    rw [atC_some hq]
    simp [CSt.nodes, hq]
  · rw [if_pos (by omega), atC_end h]
theorem prev_at (G : GoodC m) (hp : m.l[i]? = some p) : m.by_ (atC m i) (-1) = preC m i := by
  have hi := (List.getElem?_eq_some_iff.1 hp).1
  unfold CSt.by_
  rw [atC_some hp, place_is G hp]
  show (if (i : Int) + -1 < 0 ∨ (m.l.length : Int) ≤ i + -1 then (-1 : Int) else ((m.nodes.getD ((i : Int) + -1).toNat 0 : Nat) : Int)) = _
  cases i with
  | zero => rw [if_pos (by omega)]; rfl
  | succ j =>
    rw [if_neg (by omega), show (((j + 1 : Nat) : Int) + -1).toNat = j by omega]
    obtain ⟨q, hq⟩ : ∃ q, m.l[j]? = some q := ⟨_, List.getElem?_eq_getElem (by omega)⟩
    show _ = atC m j
    rw [atC_some hq]
    simp [CSt.nodes, hq]
theorem first_at (m : CSt Int) : m.first = atC m 0 := by unfold CSt.first atC; rw [List.head?_eq_getElem?]; cases m.nodes[0]? <;> rfl
theorem last_at (m : CSt Int) : m.last = preC m m.l.length := by
  unfold CSt.last
  rw [List.getLast?_eq_getElem?, nodes_len]
  cases h : m.l.length with
  | zero => have : m.nodes[0 - 1]? = none := List.getElem?_eq_none (by rw [nodes_len]; omega); rw [this]; rfl
  | succ j => show (match m.nodes[j + 1 - 1]? with | none => (-1 : Int) | some k => (k : Int)) = atC m j; unfold atC; rw [Nat.add_sub_cancel]; cases m.nodes[j]? <;> rfl
theorem pre_bd (G : GoodC m) : ∀ i, -1 ≤ preC m i ∧ preC m i ≤ 8192
  | 0 => ⟨Int.le_refl _, by show (-1 : Int) ≤ 8192; omega⟩
  | i + 1 => atC_bd G i
end
set_option maxHeartbeats 8000000 in
theorem chainWalk_walk {PL : RepL Int} (HP : ProgLi PL) (n : Int) (B : Option Addr) (p c : Nat) (w : World) (n0 : 0 ≤ n) (n1 : n ≤ 255) (hB : RdI w B p c) (hTab : Tab w) :
    Calls Tryd.prog 5 #[.int .u8 n, .slice B p c] w (Yes w) := by
  have hcapB := hB.1
  have hmaxB := hB.2.1
  simp only [maxLen] at hmaxB
  have hS0 := Since.start w
  obtain ⟨a, rfl⟩ : ∃ a : Nat, n = (a : Int) := ⟨n.toNat, by omega⟩
  have hw0 : IntKind.i64.wrap (a : Int) = (a : Int) := by rw [IntKind.wrap_i64]; omega
  obtain ⟨r, hr⟩ : ∃ r : Nat, (a : Int).tmod 20 = (r : Int) := ⟨((a : Int).tmod 20).toNat, by rw [Int.tmod_eq_emod_of_nonneg (by omega)]; omega⟩
  have hr20 : r < 20 := by rw [Int.tmod_eq_emod_of_nonneg (by omega)] at hr; omega
  have hr2 : (a : Int) % 20 = (r : Int) := by rw [Int.tmod_eq_emod_of_nonneg (by omega)] at hr; exact hr
  obtain ⟨N, hN⟩ : ∃ N : Nat, 1 + r = N := ⟨_, rfl⟩
  have hw1 : IntKind.i64.wrap (1 + (r : Int)) = (N : Int) := by rw [IntKind.wrap_i64]; omega
  have hwr : IntKind.i64.wrap (r : Int) = (r : Int) := by rw [IntKind.wrap_i64]; omega
  have hnew := HP.all.new (k := 16) hS0.tidy (hS0.tb hTab) (by omega) (N : Int) (by unfold J64; omega)
  have hNb : 1 ≤ N ∧ N ≤ 8192 := by omega
  have hE : lstE (N : Int) = 0 := if_neg (by omega)
  clear hN
  go_enter Tryd.func5, Tryd.ntmps5
  go_wp2_with fail
  refine hnew.mono ?_
  rintro e w4 (⟨_, g, rfl, hd⟩ | ⟨h0, _⟩)
  rotate_left
  · rw [hE] at h0; cases h0
  obtain ⟨col4, p4, s4⟩ := hd
  have A4 : AtL PL w col4 w4 16 g (newC Int N) := ⟨hS0.step s4 (rng0 (by omega)), p4⟩
  clear s4 p4 hS0 hnew hw1 hw0 hr hr2 hwr
  go_wp2
  go_loopw [7] (fun iv wr => ∃ (i : Nat) (col : Col) (q : CSt Int), i ≤ p ∧ i ≤ 60 ∧ iv = .int .i64 i ∧ AtL PL w col wr 16 g q) (fun iv _ => p - (intOf iv).toNat)
  case atStart => exact ⟨0, _, _, Nat.zero_le _, Nat.zero_le _, rfl, A4⟩
  case round =>
    clear A4
    obtain ⟨i, col, q, hip, hi60, rfl, T⟩ := hrel
    by_cases hend : i < p ∧ i < 60
    · have hpi : (i : Int) < (p : Int) := by omega
      have h6i : (i : Int) < 60 := by omega
      obtain ⟨bB, oB, s, rfl, cS, hs0, hs1⟩ := (hB.below T.since.below).2.2 i hend.1
      obtain ⟨V, hVm, hV⟩ := mask_any s 3 (by omega)
      have hV' : bits .and .i64 s 3 = (V : Int) := hV
      obtain ⟨M, hMm, hM⟩ := mask_any (s / 4) 15 (by omega)
      have hM' : bits .and .i64 (s / 4) 15 = (M : Int) := hM
      clear hM hV hB
      have hJs : J64 s := ⟨hs0, hs1⟩
      have hJM : J64 (M : Int) := by unfold J64; omega
      have hV4 : V = 0 ∨ V = 1 ∨ V = 2 ∨ V = 3 := by omega
      rcases hV4 with rfl | rfl | rfl | rfl
      · go_wp2_with fail
        refine (HP.pushF T.pl T.tidy s hJs).mono ?_
        rintro e w5 ⟨rfl, hd⟩
        obtain ⟨col5, T5⟩ := T.did (by omega) hd
        clear T hd cS
        go_wp2
        go_roundw
        case rel => exact ⟨i + 1, _, _, by omega, by omega, by go_num, T5⟩
        case measure => (simp [intOf] <;> omega)
      · go_wp2_with fail
        refine (HP.insA T.pl T.tidy (M : Int) s hJM hJs).mono ?_
        rintro e w5 ⟨rfl, hd⟩
        obtain ⟨col5, T5⟩ := T.did (by omega) hd
        clear T hd cS
        go_wp2
        go_roundw
        case rel => exact ⟨i + 1, _, _, by omega, by omega, by go_num, T5⟩
        case measure => (simp [intOf] <;> omega)
      · go_wp2_with fail
        refine (HP.all.pushB T.pl T.tidy s hJs).mono ?_
        rintro e w5 ⟨rfl, hd⟩
        obtain ⟨col5, T5⟩ := T.did (by omega) hd
        clear T hd cS
        go_wp2
        go_roundw
        case rel => exact ⟨i + 1, _, _, by omega, by omega, by go_num, T5⟩
        case measure => (simp [intOf] <;> omega)
      · go_wp2_with fail
        refine (HP.rem T.pl T.tidy (M : Int) hJM).mono ?_
        rintro e w5 ⟨rfl, hd⟩
        obtain ⟨col5, T5⟩ := T.did (by omega) hd
        clear T hd cS
        go_wp2
        go_roundw
        case rel => exact ⟨i + 1, _, _, by omega, by omega, by go_num, T5⟩
        case measure => (simp [intOf] <;> omega)
    · have HG := Lib.hid (HP.all.good T.pl)
      have hcs : ¬ (i : Int) < (p : Int) ∨ ((i : Int) < (p : Int) ∧ ¬ (i : Int) < 60) := by omega
      have hql : q.vals.length = q.l.length := by simp [CSt.vals]
      clear hB hend hip hi60
      rcases hcs with hpi | ⟨hpi, h6i⟩
      all_goals
        go_wp2_with fail
        refine (HP.all.vals T.pl T.tidy).mono ?_
        rintro e w5 ⟨A5, n5, c5, hl5, rfl, R5, _, b5⟩
        have T5 := T.below HP.all b5
        have hLn := HP.len T5.pl T5.tidy
        have hqn : q.l.length = n5 := by omega
        rw [hqn] at hLn
        have hcap5 := R5.cap
        have hmax5 := R5.max
        clear T b5 hl5 hql
        go_wp2_with fail
        refine hLn.mono ?_
        rintro e w6 ⟨rfl, b6⟩
        have T6 := T5.below HP.all b6
        have R6 := R5.below b6
        have hFs := HP.first T6.pl T6.tidy
        rw [first_at] at hFs
        clear T5 R5 b6 hLn
        go_wp2_with fail
        refine hFs.mono ?_
        rintro e w7 ⟨rfl, j7, hj7⟩
        have b7 : Below w6.heap.size w6 w7 := by rw [hj7]; exact below_drewN (Below.refl _ _) j7
        clear hj7
        have T7 := T6.below HP.all b7
        have R7 := R6.below b7
        have HQ := Lib.hid hqn
        clear T6 R6 b7 hFs hqn
        go_wp2
        go_loopw [10, 11, 80] (fun av bv iv wx => ∃ j : Nat, j ≤ n5 ∧ av = .int .i64 (atC q j) ∧ bv = .int .i64 (preC q j) ∧ iv = .int .i64 (j : Int) ∧ AtL PL w col wx 16 g q ∧ RdG kI wx A5 n5 c5 q.vals) (fun _ _ iv _ => n5 - (intOf iv).toNat)
        case atStart => exact ⟨0, Nat.zero_le _, rfl, rfl, rfl, T7, R7⟩
        case round =>
          clear T7 R7
          obtain ⟨j, hj, rfl, rfl, rfl, T, R⟩ := hrel
          have hat := atC_bd HG.out j
          have hpr := pre_bd HG.out j
          by_cases hlt : j < n5
          · obtain ⟨b, o, v, rfl, hv, _, _, c0⟩ := R.atI hlt
            have hlt' : j < q.l.length := by rw [HQ.out]; exact hlt
            obtain ⟨pp, hpp⟩ : ∃ pp, q.l[j]? = some pp := ⟨_, List.getElem?_eq_getElem hlt'⟩
            have hvp : pp.2 = v := by simp [CSt.vals, hpp] at hv; exact hv
            have hVal := HP.val T.pl T.tidy (atC q j) (by unfold J64; omega)
            rw [value_at HG.out hpp, hvp] at hVal
            have hPv := fun (W : World) (hb : Below wr.heap.size wr W) => HP.prev (T.below HP.all hb).pl (T.below HP.all hb).tidy (atC q j) (by unfold J64; omega)
            have hNx := fun (W : World) (hb : Below wr.heap.size wr W) => HP.next (T.below HP.all hb).pl (T.below HP.all hb).tidy (atC q j) (by unfold J64; omega)
            rw [prev_at HG.out hpp] at hPv
            rw [next_at HG.out hpp] at hNx
            have hpr1 : preC q (j + 1) = atC q j := rfl
            have HPv := Lib.hid hPv
            have HNx := Lib.hid hNx
            have HT := Lib.hid T
            have HR := Lib.hid R
            have HPr := Lib.hid hpr1
            have hjn : (j : Int) < (n5 : Int) := by omega
            generalize hx1 : atC q (j + 1) = x1 at *
            generalize atC q j = x0 at *
            generalize preC q j = y0 at *
            have hx := Lib.hid hx1
            clear hv hlt' hpp hvp hPv hNx hpr1 T R hx1
            go_wp2_with fail
            refine hVal.mono ?_
            rintro e wy ⟨rfl, by1⟩
            go_wp2_with fail
            refine (HPv.out _ by1).mono ?_
            rintro e wz ⟨rfl, bz⟩
            have bz2 := below_then by1 bz
            go_wp2_with fail
            refine (HNx.out _ bz2).mono ?_
            rintro e wu ⟨rfl, bu⟩
            have bu2 := below_then bz2 bu
            clear hVal HPv HNx by1 bz bz2 bu c0
            go_wp2
            go_roundw
            case rel => exact ⟨j + 1, by omega, by rw [hx.out], by rw [HPr.out], by go_num, HT.out.below HP.all bu2, HR.out.below bu2⟩
            case measure => (simp [intOf] <;> omega)
          · have hjn : ¬ (j : Int) < (n5 : Int) := by omega
            obtain rfl : j = n5 := by omega
            have he := atC_end (m := q) (i := j) (by rw [HQ.out]; exact Nat.le_refl _)
            have hLs := HP.last T.pl T.tidy
            rw [last_at, HQ.out] at hLs
            have HT := Lib.hid T
            rw [he]
            generalize preC q j = y0 at *
            clear T R he
            go_wp2_with fail
            refine hLs.mono ?_
            rintro e wy ⟨rfl, jy, hjy⟩
            have by1 : Below wr.heap.size wr wy := by rw [hjy]; exact below_drewN (Below.refl _ _) jy
            clear hjy
            have S8 := (HT.out.below HP.all by1).since
            clear hLs by1
            go_wp2_with fail
            refine (cawake_any HP _ (S8.tab hTab)).mono ?_
            rintro e w9 ⟨rfl, b9⟩
            have hb := (S8.belowL b9).below
            clear S8 b9
            go_wp2
            go_ret
            exact ⟨rfl, hb⟩
end Go.Proofs.YtfbddcbbkfklnaaDoor
