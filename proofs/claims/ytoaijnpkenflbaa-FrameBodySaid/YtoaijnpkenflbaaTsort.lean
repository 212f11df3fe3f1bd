/- slices.SortFunc over tags by their names, for few tags. Conditions: none beyond those typed. -/
import Derived.Test.YtoaijnpkenflbaaTmem
import Derived.Deep.RegionHeld3
import Derived.Deep.WholeRow
namespace Go.Proofs.Ytoaijnpkenflbaa
open Go.ChangeShapes Go.WideShapes Go.ChangeAt Go.RowKit
set_option linter.unusedVariables false
set_option maxRecDepth 100000
set_option linter.unusedSimpArgs false

theorem bcell {W w1 : World} (hb : Below W.heap.size W w1) : (∀ b o, b < W.heap.size → w1.cell? ⟨b, o, none⟩ = W.cell? ⟨b, o, none⟩) ∧ (∀ b o, b < W.heap.size → w1.frozen? ⟨b, o, none⟩ = W.frozen? ⟨b, o, none⟩) :=
  ⟨fun b o h => hb.cell (p := ⟨b, o, none⟩) h, fun b o h => hb.frozen (p := ⟨b, o, none⟩) h⟩
theorem cmp_any (p q p' q' : ByteArray) (w : World) :
    Calls Try.prog 60 #[.agg #[.string p, .string q], .agg #[.string p', .string q']] w fun e w' => e = .returned (.int .i64 (Lib.compareBytes p.data.toList p'.data.toList)) ∧ Below w.heap.size w w' := by
  go_enter Try.func60, Try.ntmps60
  go_wp2_with (go_at_call 61; refine (Try.strings_Compare _ _ _).mono ?_; rintro e w' ⟨rfl, rfl⟩)
  go_ret
  exact ⟨rfl, ((Below.refl _ _).alloc (Nat.le_refl _) _).alloc (by simp) _⟩

def cellsT (l : List Tg) : List Value := l.flatMap fun t => [.string t.1, .string t.2]
/-- Block g is a row of tags: c places, of which the first hold l. -/
def Row (w : World) (g c : Nat) (l : List Tg) : Prop :=
  (∃ cs, w.heap[g]? = some (.cells cs 33 (0, 0)) ∧ cs.size = c * 2 ∧ cs.toList.take (l.length * 2) = cellsT l) ∧ l.length ≤ c ∧ c ≤ maxLen ∧
    ∀ t ∈ l, t.1.size ≤ 140737488355328 ∧ t.2.size ≤ 140737488355328

theorem cellsT_length : ∀ l : List Tg, (cellsT l).length = l.length * 2
  | [] => rfl
  | t :: r => by
    have := cellsT_length r
    simp only [cellsT, List.flatMap_cons, List.length_append, List.length_cons, List.length_nil] at this ⊢
    omega
theorem cellsT_at : ∀ (l : List Tg) (j : Nat) (t : Tg), l[j]? = some t → (cellsT l)[j * 2]? = some (.string t.1) ∧ (cellsT l)[j * 2 + 1]? = some (.string t.2)
  | [], j, t, h => by simp at h
  | x :: r, 0, t, h => by simp at h; subst h; exact ⟨rfl, rfl⟩
  | x :: r, j + 1, t, h => by
    have ih := cellsT_at r j t (by simpa using h)
    have e : cellsT (x :: r) = .string x.1 :: .string x.2 :: cellsT r := rfl
    have a : (j + 1) * 2 = j * 2 + 1 + 1 := by omega
    rw [e, a]
    simpa using ih
theorem cellsT_set : ∀ (l : List Tg) (j : Nat) (t : Tg), j < l.length → ((cellsT l).set (j * 2) (.string t.1)).set (j * 2 + 1) (.string t.2) = cellsT (l.set j t)
  | [], j, t, h => by simp at h
  | x :: r, 0, t, h => rfl
  | x :: r, j + 1, t, h => by
    have ih := cellsT_set r j t (by simpa using h)
    have e : cellsT (x :: r) = .string x.1 :: .string x.2 :: cellsT r := rfl
    have a : (j + 1) * 2 = j * 2 + 1 + 1 := by omega
    rw [e, a]
    simp only [List.set_cons_succ, ih]
    rfl
section
variable {w w' : World} {g c : Nat} {l : List Tg}
theorem Row.rd (h : Row w g c l) : RdT w (some ⟨g, 0, none⟩) l.length c l := by
  obtain ⟨⟨cs, hh, hs, ht⟩, hl, hm, hz⟩ := h
  refine ⟨rfl, hl, hm, hz, fun j t hj => ⟨g, 0, rfl, ?_⟩⟩
  have hjl : j < l.length := (List.getElem?_eq_some_iff.1 hj).1
  obtain ⟨a, b⟩ := cellsT_at l j t hj
  rw [← ht, List.getElem?_take] at a b
  rw [if_pos (by omega)] at a b
  rw [Nat.zero_add]
  exact ⟨by rw [cell_of_row w g _ cs _ (0, 0) hh]; simpa using a, by rw [cell_of_row w g _ cs _ (0, 0) hh]; simpa using b⟩
theorem Row.lt (h : Row w g c l) : g < w.heap.size := by
  obtain ⟨⟨cs, hh, _⟩, _⟩ := h
  rcases Nat.lt_or_ge g w.heap.size with hlt | hge
  · exact hlt
  · rw [Array.getElem?_eq_none hge] at hh; cases hh
theorem Row.frozen (h : Row w g c l) (i : Nat) : w.frozen? ⟨g, i, none⟩ = false := by
  obtain ⟨⟨cs, hh, _⟩, _⟩ := h
  simp [World.frozen?, hh]
theorem Row.below (h : Row w g c l) (hb : Below w.heap.size w w') : Row w' g c l := by
  have hlt := h.lt
  obtain ⟨⟨cs, hh, hs, ht⟩, hr⟩ := h
  exact ⟨⟨cs, (hb.block g hlt).trans hh, hs, ht⟩, hr⟩
theorem Row.drewN (h : Row w g c l) (k : Nat) : Row (w.drewN k) g c l := h
theorem Row.set (h : Row w g c l) {j : Nat} (hj : j < l.length) (t : Tg) (ht : t.1.size ≤ 140737488355328 ∧ t.2.size ≤ 140737488355328) :
    Row ((w.setCell ⟨g, j * 2, none⟩ (.string t.1)).setCell ⟨g, j * 2 + 1, none⟩ (.string t.2)) g c (l.set j t) := by
  obtain ⟨⟨cs, hh, hs, hk⟩, hl, hm, hz⟩ := h
  refine ⟨⟨(cs.setIfInBounds (j * 2) (.string t.1)).setIfInBounds (j * 2 + 1) (.string t.2), ?_, by simpa using hs, ?_⟩, by simpa using hl, hm, ?_⟩
  · simp [World.setCell, Array.getElem?_modify, hh]
  · rw [List.length_set, Array.toList_setIfInBounds, Array.toList_setIfInBounds, List.take_set, List.take_set, hk, cellsT_set l j t hj]
  · intro x hx
    rcases List.mem_or_eq_of_mem_set hx with h | rfl
    · exact hz x h
    · exact ht
end

/-- s with t put in at j, and what follows. -/
def mid (s : List Tg) (t : Tg) (j : Nat) (r : List Tg) : List Tg := s.take j ++ t :: (s.drop j ++ r)
def InsAt (t : Tg) (s : List Tg) (j : Nat) : Prop := j ≤ s.length ∧ ∀ x, s[j]? = some x → lt t x = true
theorem mid_len (s : List Tg) (t : Tg) (j : Nat) (r : List Tg) (hj : j ≤ s.length) : (mid s t j r).length = s.length + 1 + r.length := by
  simp only [mid, List.length_append, List.length_cons, List.length_take, List.length_drop]; omega
theorem mid_t (s : List Tg) (t : Tg) (j : Nat) (r : List Tg) (hj : j ≤ s.length) : (mid s t j r)[j]? = some t := by
  unfold mid
  rw [List.getElem?_append_right (by rw [List.length_take]; omega)]
  have : j - (s.take j).length = 0 := by rw [List.length_take]; omega
  rw [this]; rfl
theorem mid_prev (s : List Tg) (t : Tg) (j : Nat) (r : List Tg) (hj : j ≤ s.length) (h0 : 0 < j) : (mid s t j r)[j - 1]? = s[j - 1]? := by
  unfold mid
  rw [List.getElem?_append_left (by rw [List.length_take]; omega), List.getElem?_take, if_pos (by omega)]
theorem mid_swap (s : List Tg) (t x : Tg) (j : Nat) (r : List Tg) (h0 : 0 < j) (hx : s[j - 1]? = some x) :
    ((mid s t j r).set j x).set (j - 1) t = mid s t (j - 1) r := by
  have hlt : j - 1 < s.length := (List.getElem?_eq_some_iff.1 hx).1
  have hxe : s[j - 1] = x := (List.getElem?_eq_some_iff.1 hx).2
  have e1 : s.take j = s.take (j - 1) ++ [x] := by
    have : j = j - 1 + 1 := by omega
    rw [this, List.take_add_one]
    have e : j - 1 + 1 - 1 = j - 1 := by omega
    rw [e, hx]; rfl
  have e2 : s.drop (j - 1) = x :: s.drop j := by
    rw [List.drop_eq_getElem_cons hlt, hxe]
    have : j - 1 + 1 = j := by omega
    rw [this]
  have hl : (s.take (j - 1)).length = j - 1 := by rw [List.length_take]; omega
  unfold mid
  rw [e1, e2, List.append_assoc]
  rw [List.set_append_right _ _ (by omega), List.set_append_right _ _ (by omega), hl]
  have a1 : j - (j - 1) = 1 := by omega
  have a2 : j - 1 - (j - 1) = 0 := by omega
  rw [a1, a2]
  rfl
theorem mid_end {s : List Tg} {t : Tg} {j : Nat} (r : List Tg) (hs : Srtd s) (h : InsAt t s j) (hx : 0 < j → ∃ x, s[j - 1]? = some x ∧ lt t x = false) :
    mid s t j r = ins t s ++ r := by
  have : s.take j ++ t :: s.drop j = ins t s := by
    refine ins_at t s j (fun y hy => ?_) h.2
    obtain ⟨i, hi⟩ := List.mem_iff_getElem?.1 hy
    rw [List.getElem?_take] at hi
    split at hi
    · rename_i hij
      obtain ⟨x, hsx, hf⟩ := hx (by omega)
      rcases Nat.lt_or_ge i (j - 1) with hlt | hge
      · have h1 : lt x y = false := by
          have := List.pairwise_iff_getElem.1 hs i (j - 1) (List.getElem?_eq_some_iff.1 hi).1 (List.getElem?_eq_some_iff.1 hsx).1 hlt
          rwa [(List.getElem?_eq_some_iff.1 hi).2, (List.getElem?_eq_some_iff.1 hsx).2] at this
        cases hty : lt t y with
        | false => rfl
        | true =>
          have := lt_le hty h1
          rw [hf] at this; cases this
      · have : i = j - 1 := by omega
        subst this
        rw [hsx] at hi
        rw [← Option.some.inj hi]; exact hf
    · cases hi
  unfold mid
  rw [← this]
  simp
theorem srt_take_len {l : List Tg} {k : Nat} (h : k ≤ l.length) : (srt (l.take k)).length = k := by rw [srt_length, List.length_take]; omega
theorem mid_start {l : List Tg} {k : Nat} {t : Tg} (ht : l[k]? = some t) : srt (l.take k) ++ l.drop k = mid (srt (l.take k)) t k (l.drop (k + 1)) := by
  have hlt : k < l.length := (List.getElem?_eq_some_iff.1 ht).1
  have hl := srt_take_len (Nat.le_of_lt hlt)
  have e1 : (srt (l.take k)).take k = srt (l.take k) := List.take_of_length_le (by omega)
  have e2 : (srt (l.take k)).drop k = [] := List.drop_of_length_le (by omega)
  have e3 : l.drop k = t :: l.drop (k + 1) := by rw [List.drop_eq_getElem_cons hlt, (List.getElem?_eq_some_iff.1 ht).2]
  unfold mid
  rw [e1, e2, e3]
  rfl
theorem srt_one (l : List Tg) : srt (l.take 1) ++ l.drop 1 = l := by cases l <;> simp [srt, ins]
theorem srt_all {l : List Tg} {k : Nat} (h : l.length ≤ k) : srt (l.take k) ++ l.drop k = srt l := by
  rw [List.take_of_length_le h, List.drop_of_length_le h, List.append_nil]
theorem insAt_start {l : List Tg} {k : Nat} {t : Tg} (ht : l[k]? = some t) : InsAt t (srt (l.take k)) k := by
  have hlt : k < l.length := (List.getElem?_eq_some_iff.1 ht).1
  have hl := srt_take_len (Nat.le_of_lt hlt)
  exact ⟨by omega, fun x hx => by rw [List.getElem?_eq_none (by omega)] at hx; cases hx⟩
theorem mid_next {l : List Tg} {k j : Nat} {t : Tg} (ht : l[k]? = some t) (h : InsAt t (srt (l.take k)) j) (hx : 0 < j → ∃ x, (srt (l.take k))[j - 1]? = some x ∧ lt t x = false) :
    mid (srt (l.take k)) t j (l.drop (k + 1)) = srt (l.take (k + 1)) ++ l.drop (k + 1) := by
  rw [mid_end _ (srt_srtd _) h hx, List.take_add_one, ht]
  show _ = srt (l.take k ++ [t]) ++ _
  rw [srt_snoc]

theorem grow_set {w w' : World} {g : Nat} (h : w.grownBy w' (some g)) (i : Nat) (v : Value) : w.grownBy (w'.setCell ⟨g, i, none⟩ v) (some g) :=
  ⟨h.os, h.tape, h.output, by simpa [World.setCell] using h.size, fun k hk hne => (Below.heap_setCell _ _ _ _ (fun e => hne (by simp [e]))).trans (h.block k hk hne)⟩
theorem grow_below {w w' w1 : World} {row : Option Nat} (h : w.grownBy w' row) (hb : Below w'.heap.size w' w1) : w.grownBy w1 row :=
  ⟨hb.os.trans h.os, hb.tape.trans h.tape, hb.output.trans h.output, Nat.le_trans h.size hb.size, fun k hk hne => (hb.block k (Nat.lt_of_lt_of_le hk h.size)).trans (h.block k hk hne)⟩
theorem grow_drewN {w w' : World} {row : Option Nat} (h : w.grownBy w' row) (n : Nat) : w.grownBy (w'.drewN n) row := ⟨h.os, h.tape, h.output, h.size, h.block⟩

def InnerOut (w : World) (g c k : Nat) (l : List Tg) (W : World) : Prop := Row W g c (srt (l.take (k + 1)) ++ l.drop (k + 1)) ∧ w.grownBy W (some g)
def InnerAt (w : World) (g c k j : Nat) (t : Tg) (l : List Tg) (W : World) : Prop :=
  InsAt t (srt (l.take k)) j ∧ Row W g c (mid (srt (l.take k)) t j (l.drop (k + 1))) ∧ w.grownBy W (some g)

set_option maxHeartbeats 1000000 in
theorem insertion_any (g c n : Nat) (l : List Tg) (w : World) (hR : Row w g c l) (hl : l.length = n) (hn : n ≤ 12) :
    Calls Try.prog 77 #[.slice (some ⟨g, 0, none⟩) n c, .int .i64 0, .int .i64 n, .func (.func 60) #[] #[]] w
      fun e w' => e = .returned (.tuple #[]) ∧ Row w' g c (srt l) ∧ w.grownBy w' (some g) := by
  go_enter Try.func77, Try.ntmps77
  go_wp2
  go_loopw [8] (fun i W => ∃ k : Nat, InnerOut w g c k l W ∧ i = .int .i64 (k + 1 : Nat)) (fun i _ => n - (intOf i).toNat)
  case atStart => exact ⟨0, ⟨by rw [srt_one]; exact hR, World.grownBy.refl _ _⟩, rfl⟩
  case round =>
    obtain ⟨k, hO, rfl⟩ := hrel
    by_cases hlt : k + 1 < n
    · obtain ⟨t, ht⟩ : ∃ t, l[k + 1]? = some t := ⟨_, List.getElem?_eq_getElem (by omega)⟩
      have HT := Lib.hid ht
      have HA : Hid (InnerAt w g c (k + 1) (k + 1) t l wr) := Lib.hid ⟨insAt_start ht, by rw [← mid_start ht]; exact hO.1, hO.2⟩
      clear ht hO
      generalize hk : k + 1 = k' at *
      go_wp2
      go_loopw [9] (fun i W => ∃ j : Nat, InnerAt w g c k' j t l W ∧ i = .int .i64 j) (fun i _ => (intOf i).toNat)
      case atStart => exact ⟨k', HA.out, rfl⟩
      case round =>
        clear HA
        obtain ⟨j, ⟨hj, hW', hG'⟩, rfl⟩ := hrel
        have hsl := srt_take_len (l := l) (k := k') (by omega)
        have hjk : j ≤ k' := hsl ▸ hj.1
        have hml := mid_len (srt (l.take k')) t j (l.drop (k' + 1)) hj.1
        rw [List.length_drop, hsl] at hml
        have hml' : (mid (srt (l.take k')) t j (l.drop (k' + 1))).length = n := by omega
        clear hml
        by_cases hj0 : 0 < j
        · obtain ⟨b, o, p, q, he, hg, hp, hq, hbl, h1, h2⟩ := hW'.rd.at_ (k := j) (by omega)
          obtain ⟨b', o', p', q', he', hg', hp', hq', hbl', h1', h2'⟩ := hW'.rd.at_ (k := j - 1) (by omega)
          injection he with he; injection he with he1 he2; subst he1; subst he2
          injection he' with he'; injection he' with he1' he2'; subst he1'; subst he2'
          rw [mid_t _ _ _ _ hj.1] at hg
          obtain rfl : t = (p, q) := Option.some.inj hg
          rw [mid_prev _ _ _ _ hj.1 hj0] at hg'
          have HG' := Lib.hid hg'
          clear hg hg' hsl hml'
          have hd : decide (0 < (j : Int)) = true := decide_eq_true (by omega)
          rw [Nat.zero_add] at h1 h1' h2 h2'
          have hjn : j < n := by omega
          have i0 : (0 : Int) ≤ (j : Int) := Int.natCast_nonneg _
          have i1 : (j : Int) < (n : Int) := by omega
          have i2 : (0 : Int) ≤ (j : Int) - 1 := by omega
          have i3 : (j : Int) - 1 < (n : Int) := by omega
          have i4 : IntKind.i64.wrap ((j : Int) - 1) = (j : Int) - 1 := IntWalk.i64_in _ (by omega)
          have i6 : (j : Int) ≤ (n : Int) := by omega
          have i7 : (1 : Int) ≤ (j : Int) := by omega
          have i5 : ((j : Int) - 1).toNat = j - 1 := by omega
          cases hb : decide (Lib.compareBytes p.data.toList p'.data.toList < 0)
          · have HN := Lib.hid (mid_next HT.out hj (fun _ => ⟨_, HG'.out, (cmp_lt _ _).symm.trans hb⟩))
            go_wp2_with fail
            go_region_held3 (fun w' => w'.cell? ⟨g, j * 2, none⟩ = some (.string p) ∧ w'.cell? ⟨g, j * 2 + 1, none⟩ = some (.string q) ∧ w'.cell? ⟨g, (j - 1) * 2, none⟩ = some (.string p') ∧ w'.cell? ⟨g, (j - 1) * 2 + 1, none⟩ = some (.string q')) (first | exact ⟨h1, h2, h1', h2'⟩ | exact ⟨(hb5.cell (p := ⟨g, _, none⟩) hbl).trans h1, (hb5.cell (p := ⟨g, _, none⟩) hbl).trans h2, (hb5.cell (p := ⟨g, _, none⟩) hbl).trans h1', (hb5.cell (p := ⟨g, _, none⟩) hbl).trans h2'⟩) (first | (go_at_call 60; refine (cmp_any _ _ _ _ _).mono ?_; rintro e w5 ⟨rfl, hb5⟩))
            rename_i hH
            clear hH i0 i1 i2 i3 i4 i5 i6 i7 h1 h2 h1' h2'
            have HO : Hid (InnerOut w g c k' l w5) := Lib.hid ⟨HN.out ▸ (hW'.drewN 1).below hb5, grow_below (grow_drewN hG' 1) hb5⟩
            go_wp2
            go_roundw
            case rel => exact ⟨k', HO.out, by go_num⟩
            case measure => simp [intOf]; omega
          · have HN := Lib.hid (mid_swap _ (p, q) _ j (l.drop (k' + 1)) hj0 HG'.out)
            have HI : Hid (InsAt (p, q) (srt (l.take k')) (j - 1)) := Lib.hid ⟨by have := hj.1; omega, fun x hx => by
              rw [HG'.out] at hx
              rw [← Option.some.inj hx]
              exact (cmp_lt _ _).symm.trans hb⟩
            go_wp2_with fail
            go_region_held3 (fun w' => w'.cell? ⟨g, j * 2, none⟩ = some (.string p) ∧ w'.cell? ⟨g, j * 2 + 1, none⟩ = some (.string q) ∧ w'.cell? ⟨g, (j - 1) * 2, none⟩ = some (.string p') ∧ w'.cell? ⟨g, (j - 1) * 2 + 1, none⟩ = some (.string q')) (first | exact ⟨h1, h2, h1', h2'⟩ | exact ⟨(hb5.cell (p := ⟨g, _, none⟩) hbl).trans h1, (hb5.cell (p := ⟨g, _, none⟩) hbl).trans h2, (hb5.cell (p := ⟨g, _, none⟩) hbl).trans h1', (hb5.cell (p := ⟨g, _, none⟩) hbl).trans h2'⟩) (first | (go_at_call 60; refine (cmp_any _ _ _ _ _).mono ?_; rintro e w5 ⟨rfl, hb5⟩))
            rename_i hH
            obtain ⟨k1, k2, k1', k2'⟩ := hH
            have hW5 := (hW'.drewN 1).below hb5
            have f1 := hW5.frozen (j * 2)
            have f2 := hW5.frozen (j * 2 + 1)
            have f3 := hW5.frozen ((j - 1) * 2)
            have f4 := hW5.frozen ((j - 1) * 2 + 1)
            have hG5 := grow_below (grow_drewN hG' 1) hb5
            have HZ : Hid (InnerAt w g c k' (j - 1) (p, q) l (((((w5.setCell ⟨g, j * 2, none⟩ (.string p')).setCell ⟨g, j * 2 + 1, none⟩ (.string q')).setCell ⟨g, (j - 1) * 2, none⟩ (.string p)).setCell ⟨g, (j - 1) * 2 + 1, none⟩ (.string q)).drew)) := Lib.hid ⟨HI.out, by
              have hlen := mid_len (srt (l.take k')) (p, q) j (l.drop (k' + 1)) hj.1
              have := (hW5.set (j := j) (by rw [hlen]; have := hj.1; omega) (p', q') ⟨hp', hq'⟩).set (j := j - 1) (by rw [List.length_set, hlen]; have := hj.1; omega) (p, q) ⟨hp, hq⟩
              rw [HN.out] at this
              exact this, grow_drewN (grow_set (grow_set (grow_set (grow_set hG5 _ _) _ _) _ _) _ _) 1⟩
            clear h1 h2 h1' h2'
            go_wp2
            go_region
            go_wp2
            go_roundw
            case rel => exact ⟨j - 1, HZ.out, by go_num⟩
            case measure => simp [intOf]; omega
        · have HN := Lib.hid (mid_next HT.out hj (fun h => absurd h hj0))
          have HO : Hid (∀ m, InnerOut w g c k' l (wr.drewN m)) := Lib.hid fun m => ⟨HN.out ▸ hW', grow_drewN hG' m⟩
          have hd : decide (0 < (j : Int)) = false := by simp; omega
          clear hsl hml'
          go_wp2
          go_quiet (fail)
          go_wp2
          go_roundw
          case rel => exact ⟨k', HO.out _, by go_num⟩
          case measure => simp [intOf]; omega
    · have HR : Hid (Row wr g c (srt l)) := Lib.hid (by have := hO.1; rwa [srt_all (by omega)] at this)
      have hG := hO.2
      clear hO
      go_wp2
      go_end0
      exact ⟨rfl, HR.out, hG⟩

set_option maxHeartbeats 400000 in
theorem pdq_any (g c n : Nat) (l : List Tg) (w : World) (x : Int) (hR : Row w g c l) (hl : l.length = n) (hn : n ≤ 12) :
    Calls Try.prog 71 #[.slice (some ⟨g, 0, none⟩) n c, .int .i64 0, .int .i64 n, .int .i64 x, .func (.func 60) #[] #[]] w
      fun e w' => e = .returned (.tuple #[]) ∧ Row w' g c (srt l) ∧ w.grownBy w' (some g) := by
  go_enter Try.func71, Try.ntmps71
  go_wp2
  go_loopw [1, 2] (fun a b W => a = .int .i64 0 ∧ b = .int .i64 n ∧ W = w) (fun _ _ _ => 0)
  case atStart => exact ⟨rfl, rfl, rfl⟩
  case round =>
    obtain ⟨rfl, rfl, rfl⟩ := hrel
    go_wp2_with fail
    refine (insertion_any g c n l _ hR hl hn).mono ?_
    rintro e w' ⟨rfl, hR', hG'⟩
    go_wp2
    exact bodyPost_ret (v := .tuple #[]) (by simp [results, Try.results71, go_sem]) rfl ⟨rfl, hR', hG'⟩
set_option maxHeartbeats 400000 in
theorem sortFunc_any (g c n : Nat) (l : List Tg) (w : World) (hR : Row w g c l) (hl : l.length = n) (hn : n ≤ 12) :
    Calls Try.prog 59 #[.slice (some ⟨g, 0, none⟩) n c, .func (.func 60) #[] #[]] w
      fun e w' => e = .returned (.tuple #[]) ∧ Row w' g c (srt l) ∧ w.grownBy w' (some g) := by
  go_enter Try.func59, Try.ntmps59
  go_wp2_with (go_at_call 72; refine (Try.bits_Len _ _ (by omega) (by omega)).mono ?_; rintro e w' ⟨rfl, rfl⟩)
  go_wp2_with fail
  refine (pdq_any g c n l _ _ hR hl hn).mono ?_
  rintro e w' ⟨rfl, hR', hG'⟩
  go_wp2
  go_end0
  exact ⟨rfl, hR', hG'⟩
end Go.Proofs.Ytoaijnpkenflbaa
