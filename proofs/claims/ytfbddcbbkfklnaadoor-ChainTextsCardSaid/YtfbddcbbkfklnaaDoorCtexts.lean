/- The statements about package chain: ChainTexts. Conditions: the program's lists keep their contracts (ProgLi, ProgLs). -/
import Derived.Test.YtfbddcbbkfklnaaDoorCawake
import Derived.Test.YtfbddcbbkfklnaaDoorKargs
namespace Go.Proofs.YtfbddcbbkfklnaaDoor
open Go.ChangeShapes Go.WideShapes Go.ChangeAt Go.RowKit
set_option linter.unusedVariables false
set_option linter.unusedSimpArgs false
set_option maxRecDepth 100000

/-- The first i texts, in their order, have the numbers from 0 on. -/
structure TxC (m : CSt ByteArray) (K : List ByteArray) (i : Nat) : Prop where
  good : GoodC m
  n : m.n = 30
  ns : m.nodes = List.range i
  vs : m.vals = K.take i
section
variable {m : CSt ByteArray} {K : List ByteArray} {i : Nat} {s : ByteArray}
theorem TxC.new (K : List ByteArray) : TxC (newC ByteArray 30) K 0 := ⟨newC_good (by omega) (by omega), rfl, rfl, rfl⟩
theorem TxC.len (h : TxC m K i) : m.l.length = i := by have := congrArg List.length h.ns; rw [nodes_len] at this; simpa using this
theorem free_range (i : Nat) : freeN (List.range i) = i := freeN_is (by simp) fun j hj => List.mem_range.2 hj
theorem TxC.push (h : TxC m K i) (hs : K[i]? = some s) (hi : i < 30) : (m.pushB s).1 = ((i : Int), 0) ∧ TxC (m.pushB s).2 K (i + 1) := by
  have hl := h.len
  have hn := h.n
  have hg := h.good.ins m.l.length s
  have e : m.pushB s = (((i : Int), 0), { m with l := m.l ++ [(i, s)] }) := by
    unfold CSt.pushB CSt.ins
    rw [if_neg (by omega), h.ns, free_range]
    have : insC m.l m.l.length s = m.l ++ [(i, s)] := by
      unfold insC
      rw [List.take_length, List.drop_length, show m.l.map Prod.fst = List.range i from h.ns, free_range]
    rw [this]
  have hg' : GoodC (m.pushB s).2 := hg
  rw [e] at hg' ⊢
  refine ⟨rfl, hg', hn, ?_, ?_⟩
  · show (m.l ++ [(i, s)]).map Prod.fst = _
    rw [List.map_append, show m.l.map Prod.fst = List.range i from h.ns, List.range_succ]; rfl
  · show (m.l ++ [(i, s)]).map Prod.snd = _
    rw [List.map_append, show m.l.map Prod.snd = K.take i from h.vs, List.take_add_one, hs]; rfl
theorem TxC.full (h : TxC m K i) (hi : i ≤ 30) (x : ByteArray) : (m.pushB x).1.2 = if i = 30 then 7 else 0 := by
  have hl := h.len
  have hn := h.n
  unfold CSt.pushB CSt.ins
  by_cases e : i = 30
  · rw [if_pos (by omega), if_pos e]
  · rw [if_neg (by omega), if_neg e]
end
set_option maxHeartbeats 8000000 in
theorem chainTexts_walk {PL : RepL Int} {PS : RepL ByteArray} (HP : ProgLi PL) (HS : ProgLs PS) (B : Option Addr) (p c : Nat) (K : List ByteArray) (w : World) (hB : RdG kT w B p c K) (hsz : ∀ s ∈ K, s.size ≤ 140737488351232) (hTab : Tab w) :
    Calls Tryd.prog 6 #[.slice B p c] w (Yes w) := by
  have hcapB := hB.cap
  have hmaxB := hB.max
  have hlK := hB.len
  have hS0 := Since.start w
  obtain ⟨J, hJ⟩ : ∃ J : Nat, min (p : Int) 30 = (J : Int) := ⟨min p 30, by omega⟩
  have hJ30 : J ≤ 30 := by omega
  have hJp : J ≤ p := by omega
  go_enter Tryd.func6, Tryd.ntmps6
  go_wp2_with fail
  refine (HS.new (k := 16) hS0.tidy (hS0.tb hTab) (by omega) 30 (by simp [J64])).mono ?_
  rintro e W4 (⟨_, g, rfl, hd⟩ | ⟨h0, _⟩)
  rotate_left
  · exact absurd h0 (show ¬ lstE 30 = 1 by decide)
  obtain ⟨col4, p4, s4⟩ := hd
  have A4 : AtL PS w col4 W4 16 g (newC ByteArray 30) := ⟨hS0.step s4 (rng0 (by omega)), p4⟩
  clear s4 p4 hS0
  go_wp2
  go_loopw [6] (fun iv wr => ∃ (i : Nat) (col : Col) (q : CSt ByteArray), i ≤ J ∧ iv = .int .i64 i ∧ AtL PS w col wr 16 g q ∧ TxC q K i) (fun iv _ => J - (intOf iv).toNat)
  case atStart => exact ⟨0, _, _, Nat.zero_le _, rfl, A4, TxC.new K⟩
  case round =>
    clear A4
    obtain ⟨i, col, q, hiJ, rfl, T, Y⟩ := hrel
    by_cases hend : i < J
    · have hpi : (i : Int) < (p : Int) := by omega
      have hJi : (i : Int) < (J : Int) := by omega
      obtain ⟨b, o, s, rfl, hs, hm, hbw, c00⟩ := hB.atT (j := i) (by omega)
      have c0 : wr.cell? ⟨b, o + i, none⟩ = some (.string s) := (T.since.below.cell (p := ⟨b, o + i, none⟩) hbw).trans c00
      obtain ⟨hp0, Y2⟩ := Y.push hs (by omega)
      have HY := Lib.hid Y2
      have HPB := HS.pushB T.pl T.tidy s trivial
      have HSn := Lib.hid T.since
      unfold AddOut at HPB
      rw [hp0] at HPB
      clear Y Y2 hs hm T c00 hbw hp0 hJ
      go_wp2_with fail
      refine HPB.mono ?_
      rintro e5 w5 ⟨rfl, col5, p5, s5⟩
      have A5 : AtL PS w col5 w5 16 g _ := ⟨HSn.out.step s5 (rng0 (by omega)), p5⟩
      clear HPB s5 p5 c0
      go_wp2
      go_roundw
      case rel => exact ⟨i + 1, _, _, by omega, by go_num, A5, HY.out⟩
      case measure => (simp [intOf] <;> omega)
    · have hiJ2 : i = J := by omega
      have hJi : ¬ (i : Int) < (J : Int) := by omega
      subst hiJ2
      have hlT : (K.take i).length = i := by rw [List.length_take]; omega
      have hJc : (i : Int) ≤ (c : Int) := by omega
      have hJc2 : i ≤ c := by omega
      have hJ0 : (0 : Int) ≤ (i : Int) := by omega
      have hH := (hB.head hJp).below T.since.below
      have hV := Lib.hid (fun (W : World) (hb : Below wr.heap.size wr W) => show Calls Tryd.prog 19 #[.pointer (some ⟨g, 0, none⟩)] W (RowOut kT W (K.take i)) by
        have := HS.vals (T.below HS hb).pl (T.below HS hb).tidy
        rwa [Y.vs] at this)
      have HT := Lib.hid T
      have HY := Lib.hid Y
      clear T Y hJ hB
      go_wp2
      go_region_held3 (fun _ => True) (trivial) (first
        | (go_at_call 19; refine (hV.out _ (bdM _)).mono ?_; rintro e w6 ⟨A6, n6, c6, hl6, rfl, R6, _, b6⟩; obtain rfl := hlT.symm.trans hl6)
        | (go_at_call 39; refine (sameTexts_yes A6 B i c6 c (K.take i) _ R6 (hH.below (below_then (bdM _) b6))).mono ?_; rintro e w7 ⟨rfl, b7⟩))
      have T7 := HT.out.below HS (below_then (below_then (bdM _) b6) b7)
      have hF := HY.out.full hJ30 ⟨#[120]⟩
      have HPB := HS.pushB T7.pl T7.tidy ⟨#[120]⟩ trivial
      unfold AddOut at HPB
      have HS7 := Lib.hid T7.since
      clear T7 b6 b7 R6 hH hV HT HY
      by_cases h30 : i = 30
      · rw [if_pos h30] at hF
        rw [hF] at HPB
        have h30I : ((i : Int) == 30) = true := beq_iff_eq.2 (by omega)
        have HH := Lib.hid h30
        generalize (q.pushB ⟨#[120]⟩) = r7 at *
        clear hF h30
        go_wp2_with fail
        refine HPB.mono ?_
        rintro e w8 ⟨rfl, col8, _, s8⟩
        have S8 := HS7.out.step s8 (rng0 (by omega))
        clear HPB s8
        go_wp2_with fail
        refine (cawake_any HP _ (S8.tab hTab)).mono ?_
        rintro e w9 ⟨rfl, b9⟩
        have hb := (S8.belowL b9).below
        clear S8 b9
        go_wp2
        go_ret
        exact ⟨rfl, hb⟩
      · rw [if_neg h30] at hF
        rw [hF] at HPB
        have h30I : ((i : Int) == 30) = false := beq_false_of_ne (by omega)
        generalize (q.pushB ⟨#[120]⟩) = r7 at *
        clear hF h30
        go_wp2_with fail
        refine HPB.mono ?_
        rintro e w8 ⟨rfl, col8, _, s8⟩
        have S8 := HS7.out.step s8 (rng0 (by omega))
        clear HPB s8
        go_wp2_with fail
        refine (cawake_any HP _ (S8.tab hTab)).mono ?_
        rintro e w9 ⟨rfl, b9⟩
        have hb := (S8.belowL b9).below
        clear S8 b9
        go_wp2
        go_ret
        exact ⟨rfl, hb⟩
end Go.Proofs.YtfbddcbbkfklnaaDoor
