/- The statements about package ranks: RanksDrain. Conditions: the program's orders keep their contracts (ProgR). -/
import Derived.Test.YtopjnalehllgcaaDoorRsorted
import Derived.Test.YtopjnalehllgcaaDoorU16
namespace Go.Proofs.YtopjnalehllgcaaDoor
open Go.ChangeShapes Go.WideShapes Go.ChangeAt Go.RowKit
set_option linter.unusedVariables false
set_option linter.unusedSimpArgs false
set_option maxRecDepth 100000

/-- The sum of the counts. -/
def sumR : List (Nat × Int) → Int
  | [] => 0
  | p :: l => p.2 + sumR l
theorem sumR_perm {l l' : List (Nat × Int)} (h : l.Perm l') : sumR l = sumR l' := by
  induction h with
  | nil => rfl
  | cons x _ ih => show x.2 + sumR _ = x.2 + sumR _; rw [ih]
  | swap x y l => show y.2 + (x.2 + sumR l) = x.2 + (y.2 + sumR l); omega
  | trans _ _ h1 h2 => exact h1.trans h2
theorem sumR_bd {M : Int} : ∀ {l : List (Nat × Int)}, (∀ p ∈ l, 0 ≤ p.2 ∧ p.2 ≤ M) → 0 ≤ sumR l ∧ sumR l ≤ M * l.length
  | [], _ => by simp [sumR]
  | p :: l, h => by
    obtain ⟨h1, h2⟩ := h p (by simp)
    obtain ⟨h3, h4⟩ := sumR_bd (l := l) fun q hq => h q (by simp [hq])
    have e : M * ((p :: l).length : Int) = M * l.length + M := by simp [Int.mul_add]
    refine ⟨by show 0 ≤ p.2 + sumR l; omega, ?_⟩
    show p.2 + sumR l ≤ _
    rw [e]; omega
section
variable {q : CSt Int} {i : Nat} {x : Int} {L : List Int}
/-- A new element is inserted. -/
theorem ins_new {m : Nat} (hn : (i : Int) < q.n) (hno : i ∉ q.nodes) (h1 : x ≤ 9223372036854775808) : q.insR (i : Int) x = (0, { q with l := putR q.l i x }) := by
  unfold CSt.insR
  rw [if_neg (by omega), if_neg (by rw [place_node]; simpa using hno), if_neg (by omega)]
  rfl
theorem rem_first {p : Nat × Int} {l : List (Nat × Int)} (G : GoodC q) (h : q.l = p :: l) : q.rem (p.1 : Int) = { q with l := l } ∧ q.value 0 (p.1 : Int) = (p.2, 0) ∧ q.leastR = (((p.1 : Int), p.2), true) := by
  have h0 : q.l[0]? = some p := by rw [h]; rfl
  have hp := place_is G h0
  refine ⟨?_, ?_, least_at h0⟩
  · unfold CSt.rem; rw [hp]
    show { q with l := remC q.l 0 } = _
    unfold remC; rw [h]; rfl
  · unfold CSt.value; rw [hp]
    show (((q.l[0]?).map Prod.snd).getD 0, (0 : Int)) = _
    rw [h0]; rfl
end
set_option maxHeartbeats 8000000 in
theorem ranksDrain_walk {PR : RepR} (HP : ProgR PR) (B : Option Addr) (p c : Nat) (w : World) (hB : Arg16 w B p c) (hTab : Tab w) :
    Calls Tryd.prog 7 #[.slice B p c] w (Yes w) := by
  obtain ⟨L, hB⟩ := hB
  have hcapB := hB.cap
  have hmaxB := hB.max
  have hlL := hB.len
  have hS0 := Since.start w
  obtain ⟨J, hJ⟩ : ∃ J : Nat, min (p : Int) 60 = (J : Int) := ⟨min p 60, by omega⟩
  have hJ60 : J ≤ 60 := by omega
  have hJp : J ≤ p := by omega
  have hnew := HP.new (k := 16) hS0.tidy (hS0.tb hTab) (by omega) 60 (by simp [J64])
  go_enter Tryd.func7, Tryd.ntmps7
  go_wp2_with fail
  refine hnew.mono ?_
  rintro e w4 (⟨_, g, rfl, hd⟩ | ⟨h0, _⟩)
  rotate_left
  · exact absurd h0 (show ¬ rnkE 60 = 1 by decide)
  obtain ⟨col4, p4, s4⟩ := hd
  have A4 : AtR PR w col4 w4 16 g (newC Int 60) := ⟨hS0.step s4 (rng0 (by omega)), p4⟩
  clear s4 p4 hS0 hnew
  go_wp2
  go_loopw [6, 7] (fun sv iv wr => ∃ (i : Nat) (col : Col) (q : CSt Int), i ≤ J ∧ sv = .int .u64 (sumR q.l) ∧ iv = .int .i64 (i : Int) ∧ AtR PR w col wr 16 g q ∧ q.n = 60 ∧ q.l.length = i ∧ ∀ r ∈ q.l, r.1 < i ∧ L[r.1]? = some r.2) (fun _ iv _ => J - (intOf iv).toNat)
  case atStart => exact ⟨0, _, _, Nat.zero_le _, rfl, rfl, A4, rfl, rfl, fun r hr => by simp [newC] at hr⟩
  case round =>
    clear A4
    obtain ⟨i, col, q, hiJ, rfl, rfl, T, hq6, hql, hqm⟩ := hrel
    have hbd : ∀ r ∈ q.l, 0 ≤ r.2 ∧ r.2 ≤ 65535 := fun r hr => hB.2.2.2.1 _ (List.mem_of_getElem? (hqm r hr).2)
    obtain ⟨hs0, hs1⟩ := sumR_bd hbd
    rw [hql] at hs1
    by_cases hlt : i < J
    · have hi60 : i < 60 := by omega
      obtain ⟨bB, oB, x, rfl, hLx, x0, x1, cS⟩ := (hB.below T.since.below).at_ (j := i) (by omega)
      have hiI : (i : Int) < (J : Int) := by omega
      have hip : (i : Int) < (p : Int) := by omega
      have hno : i ∉ q.nodes := fun hm => by
        obtain ⟨r, hr, e⟩ := List.mem_map.1 hm
        have := (hqm r hr).1
        omega
      have hI := ins_new (m := 0) (q := q) (i := i) (x := x) (by omega) hno (by omega)
      have hIn := HP.ins T.pr T.tidy (i : Int) x (by unfold J64; omega) (by unfold U64; omega)
      rw [hI] at hIn
      have hxw : IntKind.u64.wrap x = x := IntWalk.u64_in _ ⟨by omega, by omega⟩
      have hsum : IntKind.u64.wrap (sumR q.l + x) = sumR (putR q.l i x) := by
        rw [sumR_perm (put_perm q.l i x)]
        show _ = x + sumR q.l
        rw [IntWalk.u64_in _ ⟨by omega, by omega⟩]; omega
      have hput : ∀ r ∈ putR q.l i x, r.1 < i + 1 ∧ L[r.1]? = some r.2 := fun r hr => by
        rcases List.mem_cons.1 ((put_perm q.l i x).mem_iff.1 hr) with rfl | h
        · exact ⟨by show i < i + 1; omega, hLx⟩
        · have := hqm r h
          exact ⟨by omega, this.2⟩
      have hlen : (putR q.l i x).length = i + 1 := by rw [put_len, hql]
      have HH := Lib.hid (And.intro hput hlen)
      have HT := Lib.hid T
      generalize putR q.l i x = q2 at *
      generalize sumR q.l = s1 at *
      clear hqm hno hI hput hlen hbd T hs1
      go_wp2_with fail
      refine hIn.mono ?_
      rintro e w5 ⟨rfl, hd⟩
      obtain ⟨col5, T5⟩ := HT.out.did (by omega) hd
      have c5 : w5.cell? ⟨bB, oB + i, none⟩ = some (.int .u16 x) := by
        obtain ⟨b', o', x', e', hx', _, _, c'⟩ := (hB.below T5.since.below).at_ (j := i) (by omega)
        injection e' with e'; injection e' with e1 e2; subst e1 e2
        rw [hLx] at hx'; injection hx' with hx'; subst hx'
        exact c'
      clear hIn hd cS HT
      go_wp2
      go_roundw
      case rel => exact ⟨i + 1, _, _, by omega, rfl, by go_num, T5, hq6, HH.out.2, HH.out.1⟩
      case measure => (simp [intOf] <;> omega)
    · obtain rfl : i = J := by omega
      have hiI : ¬ (i : Int) < (i : Int) := by omega
      have HQ := Lib.hid hqm
      have HL := Lib.hid hql
      have HT := Lib.hid T
      clear hqm hbd hs0 hs1 hlt T hql
      go_wp2
      go_loopw [6, 8, 9] (fun sv lv iv wr => ∃ (j : Nat) (x0 : Int) (col : Col) (q : CSt Int), j ≤ i ∧ sv = .int .u64 (sumR q.l) ∧ lv = .int .u64 x0 ∧ iv = .int .i64 (j : Int) ∧ AtR PR w col wr 16 g q ∧ q.l.length + j = i ∧ ∀ r ∈ q.l, r.1 < i ∧ L[r.1]? = some r.2 ∧ x0 ≤ r.2) (fun _ _ iv _ => i - (intOf iv).toNat)
      case atStart => exact ⟨0, 0, _, _, Nat.zero_le _, rfl, rfl, rfl, HT.out, HL.out, fun r hr => ⟨(HQ.out r hr).1, (HQ.out r hr).2, (hB.2.2.2.1 _ (List.mem_of_getElem? (HQ.out r hr).2)).1⟩⟩
      case round =>
        clear HQ HT HL
        obtain ⟨j, x0, col, q, hj, rfl, rfl, rfl, T, hql, hqm⟩ := hrel
        have hbd : ∀ r ∈ q.l, 0 ≤ r.2 ∧ r.2 ≤ 65535 := fun r hr => hB.2.2.2.1 _ (List.mem_of_getElem? (hqm r hr).2.1)
        have hG := HP.good T.pr
        have hLs := HP.least T.pr T.tidy
        have hLn := HP.len T.pr T.tidy
        have HT := Lib.hid T
        cases hl : q.l with
        | cons r l =>
          rw [hl] at hql
          have hjI : (j : Int) < (i : Int) := by simp at hql; omega
          obtain ⟨e1, e2, e3⟩ := rem_first hG.c hl
          obtain ⟨m1, m2, m3⟩ := hqm r (by rw [hl]; simp)
          obtain ⟨b1, b2⟩ := hbd r (by rw [hl]; simp)
          have hsrt := hG.srt
          rw [hl] at hsrt
          have hge := (List.pairwise_cons.1 hsrt).1
          rw [e3] at hLs
          have hRm := fun (W : World) (hb : Below wr.heap.size wr W) => HP.rem (HT.out.below HP hb).pr (HT.out.below HP hb).tidy (r.1 : Int) (by unfold J64; omega)
          rw [e1, e2] at hRm
          have hCell := Lib.hid (fun (W : World) (hb : Below w.heap.size w W) => (hB.below hb).at_ (j := r.1) (by omega))
          have hbl := sumR_bd (M := 65535) (l := l) fun s hs => hbd s (by rw [hl]; simp [hs])
          simp at hql
          have hsum : IntKind.u64.wrap (sumR (r :: l) - r.2) = sumR l := by
            show IntKind.u64.wrap (r.2 + sumR l - r.2) = sumR l
            rw [IntWalk.u64_in _ ⟨by omega, by omega⟩]; omega
          have HN := Lib.hid (show ∀ s ∈ l, s.1 < i ∧ L[s.1]? = some s.2 ∧ r.2 ≤ s.2 from fun s hs => by
            have := hqm s (by rw [hl]; simp [hs])
            exact ⟨this.1, this.2.1, hge s hs⟩)
          obtain ⟨z, hz⟩ : ∃ z, r.1 = z := ⟨_, rfl⟩
          obtain ⟨y, hy⟩ : ∃ y, r.2 = y := ⟨_, rfl⟩
          rw [hz] at m1 m2 hLs hRm hCell
          rw [hy] at m2 m3 b1 b2 hLs hRm hsum HN
          have hzi : (z : Int) < (i : Int) := by omega
          have hzp : (z : Int) < (p : Int) := by omega
          have hyw : IntKind.u64.wrap y = y := IntWalk.u64_in _ ⟨by omega, by omega⟩
          have t1 : (y != y) = false := by simp
          have t2 : ¬ y < x0 := by omega
          generalize sumR (r :: l) = s0 at *
          have HM2 := Lib.hid m2
          clear hqm hbd hG hge hsrt e1 e2 e3 hl T hbl hLn hz hy m2
          go_wp2_with fail
          refine hLs.mono ?_
          rintro e wy ⟨rfl, by1⟩
          go_wp2_with fail
          refine (hRm _ by1).mono ?_
          rintro e wz ⟨rfl, hd⟩
          obtain ⟨col5, T5⟩ := (HT.out.below HP by1).did (by omega) hd
          obtain ⟨bB, oB, x', rfl, hx', _, _, cS⟩ := hCell.out wz T5.since.below
          rw [HM2.out] at hx'
          injection hx' with hx'
          subst hx'
          clear hRm hLs hCell hd by1 HT
          go_wp2
          go_roundw
          case rel => exact ⟨j + 1, y, _, _, by omega, by first | rfl | simp, by first | rfl | simp, by go_num, T5, by show l.length + (j + 1) = i; omega, HN.out⟩
          case measure => (simp [intOf] <;> omega)
        | nil =>
          rw [hl] at hql
          have hjI : ¬ (j : Int) < (i : Int) := by simp at hql; omega
          rw [hl] at hLn
          have hs : sumR ([] : List (Nat × Int)) = 0 := rfl
          have hA := fun (W : World) (hb : Below wr.heap.size wr W) => rawake_any HP W ((HT.out.below HP hb).since.tab hTab)
          have hE := Lib.hid T.since
          rw [hs]
          clear hqm hbd hG hLs T hl hs hql
          go_wp2_with fail
          refine hLn.mono ?_
          rintro e wy ⟨rfl, by1⟩
          go_wp2_with fail
          refine (hA _ by1).mono ?_
          rintro e w9 ⟨rfl, b9⟩
          have hb := (hE.out.belowL (below_then by1 b9)).below
          clear hE b9 by1 hLn hA HT
          go_wp2
          go_ret
          exact ⟨rfl, hb⟩
end Go.Proofs.YtopjnalehllgcaaDoor
