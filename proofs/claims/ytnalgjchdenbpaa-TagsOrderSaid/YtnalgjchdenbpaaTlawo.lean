/- heavykeyslaw03.TagsOrder returns true, whatever the input. Conditions: none beyond those typed. -/
import Derived.Test.YtnalgjchdenbpaaTlawd
namespace Go.Proofs.Ytnalgjchdenbpaa
open Go.ChangeShapes Go.WideShapes Go.ChangeAt Go.RowKit
set_option linter.unusedVariables false
set_option linter.unusedSimpArgs false

theorem swap_same {l : List Tg} {i : Nat} {t : Tg} (hi : l[i]? = some t) : (l.set i t).set i t = l := by
  rw [List.set_set]
  apply List.ext_getElem?
  intro j
  rw [List.getElem?_set]
  split
  · rename_i h; subst h
    have := (List.getElem?_eq_some_iff.1 hi).1
    rw [if_pos this, hi]
  · rfl
theorem swap_lt {l : List Tg} {i k : Nat} {t u : Tg} (hik : i < k) (hi : l[i]? = some t) (hk : l[k]? = some u) : ((l.set i u).set k t).Perm l := by
  have hil : i < l.length := (List.getElem?_eq_some_iff.1 hi).1
  have hkl : k < l.length := (List.getElem?_eq_some_iff.1 hk).1
  have e : l = l.take i ++ t :: ((l.drop (i + 1)).take (k - i - 1) ++ u :: l.drop (k + 1)) := by
    have e1 : l.drop i = t :: l.drop (i + 1) := by rw [List.drop_eq_getElem_cons hil, (List.getElem?_eq_some_iff.1 hi).2]
    have e2 : l.drop k = u :: l.drop (k + 1) := by rw [List.drop_eq_getElem_cons hkl, (List.getElem?_eq_some_iff.1 hk).2]
    have e3 : (l.drop (i + 1)).drop (k - i - 1) = l.drop k := by rw [List.drop_drop]; congr 1; omega
    rw [← e2, ← e3, List.take_append_drop, ← e1, List.take_append_drop]
  have hA : (l.take i).length = i := by rw [List.length_take]; omega
  have hM : ((l.drop (i + 1)).take (k - i - 1)).length = k - i - 1 := by rw [List.length_take, List.length_drop]; omega
  generalize l.take i = a at *
  generalize (l.drop (i + 1)).take (k - i - 1) = mm at *
  generalize l.drop (k + 1) = z at *
  subst e
  have s1 : (a ++ t :: (mm ++ u :: z)).set i u = a ++ u :: (mm ++ u :: z) := by
    rw [List.set_append_right _ _ (by omega), hA]; simp
  have s2 : (a ++ u :: (mm ++ u :: z)).set k t = a ++ u :: (mm ++ t :: z) := by
    have k1 : k - i = (k - i - 1) + 1 := by omega
    rw [List.set_append_right _ _ (by omega), hA, k1, List.set_cons_succ, List.set_append_right _ _ (by omega), hM]; simp
  rw [s1, s2]
  refine List.Perm.append_left a ?_
  have p1 : (u :: (mm ++ t :: z)).Perm (u :: t :: (mm ++ z)) := (List.perm_middle).cons u
  have p2 : (t :: (mm ++ u :: z)).Perm (t :: u :: (mm ++ z)) := (List.perm_middle).cons t
  exact (p1.trans (List.Perm.swap t u _)).trans p2.symm
theorem swap_perm {l : List Tg} {i k : Nat} {t u : Tg} (hi : l[i]? = some t) (hk : l[k]? = some u) : ((l.set i u).set k t).Perm l := by
  rcases Nat.lt_trichotomy i k with h | h | h
  · exact swap_lt h hi hk
  · subst h
    rw [hi] at hk
    rw [← Option.some.inj hk, swap_same hi]
  · rw [List.set_comm _ _ (by omega)]
    exact swap_lt h hk hi

set_option maxRecDepth 100000 in
set_option maxHeartbeats 2000000 in
theorem tagsOrder_walk (A : Option Addr) (n c : Nat) (B : Option Addr) (m d : Nat) (w : World) (hA : RdI w A n c) (hB : RdI w B m d) :
    Calls Try.prog 6 #[.slice A n c, .slice B m d] w (Yes w) := by
  go_enter Try.func6, Try.ntmps6
  go_wp2_with fail
  refine (list0_any _ _ _ _ hA).mono ?_
  rintro e w1 ⟨A1, n1, c1, l, rfl, hn1, hr1, hF, hb1⟩
  have HF := Lib.hid hF
  have hBw := hB.below hb1
  have hln := Lib.hid hr1.len
  clear hF hA hB
  go_wp2_with fail
  refine (new_any _ _ _ _).mono ?_
  rintro e w' ⟨rfl, rfl⟩
  have hD : DeckAt (w1.alloc (.cells #[.slice B m d, .int .i64 0] 62)) w1.heap.size B m d 0 := ⟨heap_alloc_new w1 _, Nat.zero_le _⟩
  have hDa := hD.below ((Below.refl _ _).alloc (Nat.le_refl _) (.cells #[] 24))
  have hP0 : Pre w1 B m d (.slice (some ⟨w1.heap.size + 1, 0, none⟩) 0 0) [] ((w1.alloc (.cells #[.slice B m d, .int .i64 0] 62)).alloc (.cells #[] 24)) :=
    ⟨⟨0, hDa⟩, OwnT.empty' (by simp) (by simp), ((Below.refl _ _).alloc (Nat.le_refl _) _).alloc (by simp) _, by simp⟩
  clear hD hDa
  go_wp2_with (at_builtin; refine wpList_appT rfl (.tmp 18) (.tmp 19) rfl (w1.heap.size + 1) (.slice (some ⟨w1.heap.size + 1, 0, none⟩) 0 0) [] rfl A1 n1 c1 l rfl hP0.own ((hr1.alloc _).alloc _) (by simp only [List.length_nil]; omega) (by simp) ?_; intro v' w2 hO' hg' _; have hP1 := hP0.app hO' hg'; rw [List.nil_append] at hP1; obtain ⟨A', c', rfl, _, hform⟩ := hP1.own.formN hln.out; have HFm := Lib.hid hform; clear hform)
  have hr2 := hr1.below ((hP1.2.2.1))
  clear hP0 hO' hg'
  go_wp2
  go_loopw [8] (fun i W => ∃ (z : Int) (L : List Tg), -1 ≤ z ∧ z + 1 ≤ n1 ∧ L.Perm l ∧ Pre w1 B m d (.slice A' n1 c') L W ∧ i = .int .i64 z) (fun i _ => (intOf i).toNat)
  case atStart => exact ⟨(n1 : Int) - 1, l, by omega, by omega, List.Perm.refl _, hP1, rfl⟩
  case round =>
    clear hP1
    obtain ⟨z, L, hz1, hz2, hpm, hP, rfl⟩ := hrel
    by_cases hz : 0 < z
    · obtain ⟨I, rfl⟩ := Int.eq_ofNat_of_zero_le (show 0 ≤ z by omega)
      have hL : Hid (L.length = n1) := Lib.hid (hpm.length_eq.trans hln.out)
      have hw : IntKind.i64.wrap ((I : Int) + 1) = (I : Int) + 1 := IntWalk.i64_in _ (by omega)
      go_wp2_with fail
      refine (next_pre hBw hP _ (by omega) (by omega)).mono ?_
      rintro e w3 ⟨r, hr, rfl, hP3⟩
      clear hP
      obtain ⟨A4, c4, he, hrd, hrow⟩ := hP3.own.form
      rw [hL.out] at he hrd
      injection he with he1 he2 he3
      subst he1; subst he3
      have hIn : I < n1 := by omega
      have hrn : r < n1 := by omega
      rcases hrow with ⟨_, hnil⟩ | ⟨g, rfl, hgb, hRow⟩
      · exfalso; have := hL.out; rw [hnil] at this; simp at this; omega
      obtain ⟨b, o, p, q, e1, hg, hp, hq, hbl, h1, h2⟩ := hrd.at_ hIn
      obtain ⟨b', o', p', q', e2, hg', hp', hq', hbl', h1', h2'⟩ := hrd.at_ hrn
      injection e1 with e1; injection e1 with e11 e12; subst e11; subst e12
      injection e2 with e2; injection e2 with e21 e22; subst e21; subst e22
      rw [Nat.zero_add] at h1 h2 h1' h2'
      have f1 := hRow.frozen (I * 2)
      have f2 := hRow.frozen (I * 2 + 1)
      have f3 := hRow.frozen (r * 2)
      have f4 := hRow.frozen (r * 2 + 1)
      have i0 : (0 : Int) ≤ (I : Int) := Int.natCast_nonneg _
      have i1 : (I : Int) < (n1 : Int) := by omega
      have i2 : (0 : Int) ≤ (r : Int) := Int.natCast_nonneg _
      have i3 : (r : Int) < (n1 : Int) := by omega
      have HG := Lib.hid hg
      have HG' := Lib.hid hg'
      clear hg hg'
      by_cases hIr : I = r
      · subst hIr
        have hpq : (p, q) = (p', q') := Option.some.inj (HG.out.symm.trans HG'.out)
        injection hpq with hpp hqq
        subst hpp; subst hqq
        clear HG' h1' h2' f3 f4 hbl' hp' hq' i2 i3
        have HZ : Hid (Pre w1 B m d (.slice (some ⟨g, 0, none⟩) n1 c') ((L.set I (p, q)).set I (p, q)) (((((w3.setCell ⟨g, I * 2, none⟩ (.string p)).setCell ⟨g, I * 2 + 1, none⟩ (.string q)).setCell ⟨g, I * 2, none⟩ (.string p)).setCell ⟨g, I * 2 + 1, none⟩ (.string q)).drew)) := Lib.hid (by
          have r1 := (hRow.set (j := I) (by rw [hL.out]; exact hIn) (p, q) ⟨hp, hq⟩).set (j := I) (by rw [List.length_set, hL.out]; exact hrn) (p, q) ⟨hp, hq⟩
          have g1 := grow_set (grow_set (grow_set (grow_set (World.grownBy.refl w3 (some g)) (I * 2) (.string p)) (I * 2 + 1) (.string q)) (I * 2) (.string p)) (I * 2 + 1) (.string q)
          have o1 := r1.own hgb
          rw [List.length_set, List.length_set, hL.out] at o1
          exact (hP3.app o1 g1).drew)
        have HM := Lib.hid ((swap_perm HG.out HG.out).trans hpm)
        go_wp2
        go_region
        clear hP3 hRow hrd f1 f2 h1 h2
        go_wp2
        go_roundw
        case rel => exact ⟨(I : Int) - 1, _, by omega, by omega, HM.out, HZ.out, rfl⟩
        case measure => simp [intOf]; omega
      · have HZ : Hid (Pre w1 B m d (.slice (some ⟨g, 0, none⟩) n1 c') ((L.set I (p', q')).set r (p, q)) (((((w3.setCell ⟨g, I * 2, none⟩ (.string p')).setCell ⟨g, I * 2 + 1, none⟩ (.string q')).setCell ⟨g, r * 2, none⟩ (.string p)).setCell ⟨g, r * 2 + 1, none⟩ (.string q)).drew)) := Lib.hid (by
          have r1 := (hRow.set (j := I) (by rw [hL.out]; exact hIn) (p', q') ⟨hp', hq'⟩).set (j := r) (by rw [List.length_set, hL.out]; exact hrn) (p, q) ⟨hp, hq⟩
          have g1 := grow_set (grow_set (grow_set (grow_set (World.grownBy.refl w3 (some g)) (I * 2) (.string p')) (I * 2 + 1) (.string q')) (r * 2) (.string p)) (r * 2 + 1) (.string q)
          have o1 := r1.own hgb
          rw [List.length_set, List.length_set, hL.out] at o1
          exact (hP3.app o1 g1).drew)
        have HM := Lib.hid ((swap_perm HG.out HG'.out).trans hpm)
        go_wp2
        go_region
        clear hP3 hRow hrd f1 f2 f3 f4 h1 h2 h1' h2'
        go_wp2
        go_roundw
        case rel => exact ⟨(I : Int) - 1, _, by omega, by omega, HM.out, HZ.out, rfl⟩
        case measure => simp [intOf]; omega
    · have hr1f := hr1.below hP.2.2.1
      have hrL : RdT wr A' n1 c' L := by
        obtain ⟨A5, c5, e5, hr5, _⟩ := hP.own.formN (hpm.length_eq.trans hln.out)
        injection e5 with e51 e52 e53
        subst e51; subst e53
        exact hr5
      have hBr := below_then hb1 hP.2.2.1
      have hdec : Decent l := fun t ht => (HF.out t ht).1 rfl
      obtain ⟨d1, d2⟩ := decent_perm hpm.symm hdec
      have D1 := Lib.hid d1
      have D2 := Lib.hid d2
      clear hP d1 d2 hr1 hr2 hb1 hdec
      go_wp2_with fail
      refine (key_any _ _ _ _ _ hr1f (by omega)).mono ?_
      rintro e w4 ⟨rfl, hb4⟩
      have hrLb := hrL.below hb4
      have hBb := below_then hBr hb4
      rw [D1.out, D2.out]
      clear hr1f hrL hBr hb4
      go_wp2_with fail
      refine (key_any _ _ _ _ _ hrLb (by omega)).mono ?_
      rintro e w5 ⟨rfl, hb5⟩
      have hBc := below_then hBb hb5
      clear hrLb hBb hb5
      go_wp2_with fail
      refine (awake_any _).mono ?_
      rintro e w6 ⟨rfl, hb6⟩
      go_wp2
      go_ret
      exact ⟨rfl, below_then hBc hb6⟩
end Go.Proofs.Ytnalgjchdenbpaa
