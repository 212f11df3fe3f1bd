/- The statements about package ranks: RanksSorted. Conditions: the program's orders keep their contracts (ProgR). -/
import Derived.Test.YtopjnalehllgcaaDoorRawake
import Derived.Test.YtopjnalehllgcaaDoorKmask
import Derived.Test.YtopjnalehllgcaaDoorTm
namespace Go.Proofs.YtopjnalehllgcaaDoor
open Go.ChangeShapes Go.WideShapes Go.ChangeAt Go.RowKit
set_option linter.unusedVariables false
set_option linter.unusedSimpArgs false
set_option maxRecDepth 100000

section
variable {m : CSt Int} {i : Nat} {p : Nat × Int}
/-- The count before a place, or 0. -/
def lastR (m : CSt Int) : Nat → Int
  | 0 => 0
  | i + 1 => ((m.l[i]?).map Prod.snd).getD 0
theorem lastR_next (hp : m.l[i]? = some p) : lastR m (i + 1) = p.2 := by show ((m.l[i]?).map Prod.snd).getD 0 = p.2; rw [hp]; rfl
theorem lastR_le (G : GoodR m) (hp : m.l[i]? = some p) : lastR m i ≤ p.2 := by
  cases i with
  | zero => exact (G.bd p (List.mem_of_getElem? hp)).1
  | succ j =>
    obtain ⟨q, hq⟩ : ∃ q, m.l[j]? = some q := ⟨_, List.getElem?_eq_getElem (by have := (List.getElem?_eq_some_iff.1 hp).1; omega)⟩
    rw [lastR_next hq]
    obtain ⟨a, ha⟩ := List.getElem?_eq_some_iff.1 hq
    obtain ⟨b, hb⟩ := List.getElem?_eq_some_iff.1 hp
    have := List.pairwise_iff_getElem.1 G.srt j (j + 1) a b (by omega)
    rwa [ha, hb] at this
theorem lastR_bd (G : GoodR m) : ∀ i, 0 ≤ lastR m i ∧ lastR m i ≤ 9223372036854775808
  | 0 => ⟨Int.le_refl _, by show (0 : Int) ≤ 9223372036854775808; omega⟩
  | i + 1 => by
    cases hp : m.l[i]? with
    | none => show 0 ≤ ((m.l[i]?).map Prod.snd).getD 0 ∧ ((m.l[i]?).map Prod.snd).getD 0 ≤ 9223372036854775808; rw [hp]; exact ⟨Int.le_refl _, by show (0 : Int) ≤ 9223372036854775808; omega⟩
    | some p => rw [lastR_next hp]; exact G.bd p (List.mem_of_getElem? hp)
theorem count_at (G : GoodR m) (hp : m.l[i]? = some p) : m.countR (p.1 : Int) = (p.2, true) := by
  unfold CSt.countR CSt.value
  rw [place_is G.c hp]
  simp [hp]
theorem least_at (hp : m.l[0]? = some p) : m.leastR = (((p.1 : Int), p.2), true) := by
  unfold CSt.leastR
  cases hl : m.l with
  | nil => rw [hl] at hp; cases hp
  | cons q r => rw [hl] at hp; injection hp with hp; subst hp; rfl
end
set_option maxHeartbeats 8000000 in
theorem ranksSorted_walk {PR : RepR} (HP : ProgR PR) (n : Int) (B : Option Addr) (p c : Nat) (w : World) (n0 : 0 ≤ n) (n1 : n ≤ 255) (hB : RdI w B p c) (hTab : Tab w) :
    Calls Tryd.prog 5 #[.int .u8 n, .slice B p c] w (Yes w) := by
  have hcapB := hB.1
  have hmaxB := hB.2.1
  simp only [maxLen] at hmaxB
  have hS0 := Since.start w
  obtain ⟨a, rfl⟩ : ∃ a : Nat, n = (a : Int) := ⟨n.toNat, by omega⟩
  have hw0 : IntKind.i64.wrap (a : Int) = (a : Int) := by rw [IntKind.wrap_i64]; omega
  obtain ⟨r, hr⟩ : ∃ r : Nat, (a : Int).tmod 16 = (r : Int) := ⟨((a : Int).tmod 16).toNat, by rw [Int.tmod_eq_emod_of_nonneg (by omega)]; omega⟩
  have hr20 : r < 16 := by rw [Int.tmod_eq_emod_of_nonneg (by omega)] at hr; omega
  have hr2 : (a : Int) % 16 = (r : Int) := by rw [Int.tmod_eq_emod_of_nonneg (by omega)] at hr; exact hr
  obtain ⟨N, hN⟩ : ∃ N : Nat, 1 + r = N := ⟨_, rfl⟩
  have hw1 : IntKind.i64.wrap (1 + (r : Int)) = (N : Int) := by rw [IntKind.wrap_i64]; omega
  have hwr : IntKind.i64.wrap (r : Int) = (r : Int) := by rw [IntKind.wrap_i64]; omega
  have hnew := HP.new (k := 16) hS0.tidy (hS0.tb hTab) (by omega) (N : Int) (by unfold J64; omega)
  have hNb : 1 ≤ N ∧ N ≤ 8192 := by omega
  have hE : rnkE (N : Int) = 0 := if_neg (by omega)
  clear hN
  go_enter Tryd.func5, Tryd.ntmps5
  go_wp2_with fail
  refine hnew.mono ?_
  rintro e w4 (⟨_, g, rfl, hd⟩ | ⟨h0, _⟩)
  rotate_left
  · rw [hE] at h0; cases h0
  obtain ⟨col4, p4, s4⟩ := hd
  have A4 : AtR PR w col4 w4 16 g (newC Int N) := ⟨hS0.step s4 (rng0 (by omega)), p4⟩
  clear s4 p4 hS0 hnew hw1 hw0 hr hr2 hwr
  go_wp2
  go_loopw [7] (fun iv wr => ∃ (i : Nat) (col : Col) (q : CSt Int), i ≤ p ∧ i ≤ 60 ∧ iv = .int .i64 i ∧ AtR PR w col wr 16 g q) (fun iv _ => p - (intOf iv).toNat)
  case atStart => exact ⟨0, _, _, Nat.zero_le _, Nat.zero_le _, rfl, A4⟩
  case round =>
    clear A4
    obtain ⟨i, col, q, hip, hi60, rfl, T⟩ := hrel
    by_cases hend : i < p ∧ i < 60
    · have hpi : (i : Int) < (p : Int) := by omega
      have h6i : (i : Int) < 60 := by omega
      obtain ⟨bB, oB, s, rfl, cS, hs0, hs1⟩ := (hB.below T.since.below).2.2 i hend.1
      obtain ⟨V, hVm, hV⟩ := mask_any s 1 (by omega)
      have hV' : bits .and .i64 s 1 = (V : Int) := hV
      obtain ⟨M, hMm, hM⟩ := mask_any (s / 2) 15 (by omega)
      have hM' : bits .and .i64 (s / 2) 15 = (M : Int) := hM
      obtain ⟨X, hXm, hX⟩ := mask_any (s / 32) 31 (by omega)
      have hX' : bits .and .i64 (s / 32) 31 = (X : Int) := hX
      have hXw : IntKind.u64.wrap (X : Int) = (X : Int) := IntWalk.u64_in _ ⟨by omega, by omega⟩
      clear hM hV hX hB
      have hJM : J64 (M : Int) := by unfold J64; omega
      have hUX : U64 (X : Int) := by unfold U64; omega
      by_cases hV0 : V = 0
      · have g0 : ((V : Int) == 0) = true := beq_iff_eq.2 (by omega)
        subst hV0
        go_wp2_with fail
        refine (HP.ins T.pr T.tidy (M : Int) (X : Int) hJM hUX).mono ?_
        rintro e w5 ⟨rfl, hd⟩
        obtain ⟨col5, T5⟩ := T.did (by omega) hd
        clear T hd cS
        go_wp2
        go_roundw
        case rel => exact ⟨i + 1, _, _, by omega, by omega, by go_num, T5⟩
        case measure => (simp [intOf] <;> omega)
      · obtain rfl : V = 1 := by omega
        go_wp2_with fail
        refine (HP.raise T.pr T.tidy (M : Int) (X : Int) hJM hUX).mono ?_
        rintro e w5 ⟨rfl, hd⟩
        obtain ⟨col5, T5⟩ := T.did (by omega) hd
        clear T hd cS
        go_wp2
        go_roundw
        case rel => exact ⟨i + 1, _, _, by omega, by omega, by go_num, T5⟩
        case measure => (simp [intOf] <;> omega)
    · have HG := Lib.hid (HP.good T.pr)
      have hcs : ¬ (i : Int) < (p : Int) ∨ ((i : Int) < (p : Int) ∧ ¬ (i : Int) < 60) := by omega
      have hql : q.ns.length = q.l.length := ns_len q
      clear hB hend hip hi60
      rcases hcs with hpi | ⟨hpi, h6i⟩
      all_goals
        go_wp2_with fail
        refine (HP.order T.pr T.tidy).mono ?_
        rintro e w5 ⟨A5, n5, c5, hl5, rfl, R5, _, b5⟩
        have T5 := T.below HP b5
        have hqn : q.l.length = n5 := by omega
        have hcap5 := R5.cap
        have hmax5 := R5.max
        have HQ := Lib.hid hqn
        have hn58 : n5 ≤ 8192 := by have := HG.out.c.len; have := HG.out.c.n8; omega
        clear T b5 hl5 hql hqn
        go_wp2
        go_loopw [10, 71] (fun av iv wx => ∃ j : Nat, j ≤ n5 ∧ av = .int .u64 (lastR q j) ∧ iv = .int .i64 (j : Int) ∧ AtR PR w col wx 16 g q ∧ RdG kI wx A5 n5 c5 q.ns) (fun _ iv _ => n5 - (intOf iv).toNat)
        case atStart => exact ⟨0, Nat.zero_le _, rfl, rfl, T5, R5⟩
        case round =>
          clear T5 R5
          obtain ⟨j, hj, rfl, rfl, T, R⟩ := hrel
          have hlb := lastR_bd HG.out j
          by_cases hlt : j < n5
          · obtain ⟨b, o, v, rfl, hv, _, _, c0⟩ := R.atI hlt
            have hlt' : j < q.l.length := by rw [HQ.out]; exact hlt
            obtain ⟨pp, hpp⟩ : ∃ pp, q.l[j]? = some pp := ⟨_, List.getElem?_eq_getElem hlt'⟩
            obtain ⟨p0, hp0⟩ : ∃ p0, q.l[0]? = some p0 := ⟨_, List.getElem?_eq_getElem (by omega)⟩
            have hvp : (pp.1 : Int) = v := by simp [CSt.ns, hpp] at hv; exact hv
            have hpn := HG.out.c.lt pp.1 (List.mem_map.2 ⟨pp, List.mem_of_getElem? hpp, rfl⟩)
            have hn8 := HG.out.c.n8
            have hCt := HP.count T.pr T.tidy v (by unfold J64; omega)
            rw [← hvp, count_at HG.out hpp] at hCt
            have hLs := fun (W : World) (hb : Below wr.heap.size wr W) => HP.least (T.below HP hb).pr (T.below HP hb).tidy
            rw [least_at hp0] at hLs
            have hle := lastR_le HG.out hpp
            have hnl : ¬ pp.2 < lastR q j := by omega
            have hcb := HG.out.bd pp (List.mem_of_getElem? hpp)
            have hLx := Lib.hid (lastR_next hpp)
            have HLs := Lib.hid hLs
            have HT := Lib.hid T
            have HR := Lib.hid R
            have hjn : (j : Int) < (n5 : Int) := by omega
            subst hvp
            by_cases hj0 : j = 0
            · have hpe : p0 = pp := by
                rw [hj0, hp0] at hpp
                injection hpp
              subst hpe
              have e0 : ((j : Int) == 0) = true := beq_iff_eq.2 (by omega)
              have e1 : ((p0.1 : Int) != (p0.1 : Int)) = false := by simp
              have e2 : (p0.2 != p0.2) = false := by simp
              generalize lastR q j = x0 at *
              clear hv hlt' hpp hp0 hLs T R hj0
              go_wp2_with fail
              refine hCt.mono ?_
              rintro e wy ⟨rfl, by1⟩
              go_wp2_with fail
              refine (HLs.out _ by1).mono ?_
              rintro e wz ⟨rfl, bz⟩
              have bz2 := below_then by1 bz
              clear hCt HLs by1 bz c0
              go_wp2
              go_roundw
              case rel => exact ⟨j + 1, by omega, by rw [hLx.out], by go_num, HT.out.below HP bz2, HR.out.below bz2⟩
              case measure => (simp [intOf] <;> omega)
            · have e0 : ((j : Int) == 0) = false := beq_false_of_ne (by omega)
              generalize lastR q j = x0 at *
              clear hv hlt' hpp hLs T R hp0
              go_wp2_with fail
              refine hCt.mono ?_
              rintro e wy ⟨rfl, by1⟩
              go_wp2_with fail
              refine (HLs.out _ by1).mono ?_
              rintro e wz ⟨rfl, bz⟩
              have bz2 := below_then by1 bz
              clear hCt HLs by1 bz c0
              go_wp2
              go_roundw
              case rel => exact ⟨j + 1, by omega, by rw [hLx.out], by go_num, HT.out.below HP bz2, HR.out.below bz2⟩
              case measure => (simp [intOf] <;> omega)
          · have hjn : ¬ (j : Int) < (n5 : Int) := by omega
            have hLn := HP.len T.pr T.tidy
            rw [HQ.out] at hLn
            have HT := Lib.hid T
            clear T R hj hlb
            go_wp2_with fail
            refine hLn.mono ?_
            rintro e wy ⟨rfl, by1⟩
            have S8 := (HT.out.below HP by1).since
            clear hLn by1
            go_wp2_with fail
            refine (rawake_any HP _ (S8.tab hTab)).mono ?_
            rintro e w9 ⟨rfl, b9⟩
            have hb := (S8.belowL b9).below
            clear S8 b9
            go_wp2
            go_ret
            exact ⟨rfl, hb⟩
end Go.Proofs.YtopjnalehllgcaaDoor
